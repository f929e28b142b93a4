import PyProof.Rows.All
import Wide.All
import OpenK.AllK
import Wide.FinOn
import HandS.ForMost
import HandS.ExcInit
import HandS.Evl
import HandS.Wide
import KE.KExcIs
import HandS.ExcIs
import HandS.IsInst
import HandS.Defaults
import HandS.Lambda
import HandS.EndTab
import KE.KNest
import HandS.ExcOwn
import HandS.ExcValue
import HandS.Star
import HandS.SlotsOwn
import KE.KOpsOwn
import KE.KCallOwn
import KE.KOwnIter
import HandS.IterVal
import HandS.IterNext
import HandS.Walk
import HandS.DictComp
import PyProof.EqAt
import PyProof.EqKinds
import PyProof.TupleCall
import HandS.Base
import HandS.Call
import HandS.List
import HandS.Set
import HandS.Strs
import HandS.SetFor
import PyProof.SetRoads
import PyProof.StrLawsTight
import PyProof.StrLawsChain
import HandS.StrMore
import HandS.RaiseMore
import HandS.ListItems
import HandS.Text
import HandS.Style
import HandS.Small
import HandS.More
import HandS.ClsMeth
import HandS.WordsExc
import PyProof.SliceStr2
import PyProof.Rows.StrRev
import KE.KRevSl
import HandS.FStr
import PySem.Challenge.RW_flagfree_k11_texts_of_moves
set_option Elab.async false
set_option linter.all false
set_option maxRecDepth 100000
set_option maxHeartbeats 4000000
/-! An own exception class called with keywords too: type.__call__, the base's __new__, the own __init__ -/
namespace PySem
namespace KUx
open Builtin Builtin.ObjectAttr HandSPX
section
variable {M : Model} {A : Around} {E : Value → Shared → Prop} {hh : Heap} {gg : Array GenState} {dw : Drawn} {tt : Nat} {os : OsState}
variable {nm q : Str} {C N : Addr} {bs bm bmB : List Value} {hdct : Bool} {sn : List Str} {sub : List Value} {ab : Bool} {col : Option Bool} {dd : Option Addr} {k0 k1 k2 k3 k5 : Option Value} {B newId initId : String}
theorem kw_check_new (F : ExcBaseFacts B newId initId bmB) (hT : ∀ X : String, bm.contains (.type X) = bmB.contains (.type X)) {pos : List Value} {kw : List (Str × Value)}
    {Q : Unit → Shared → Prop} (hC : hh.get? C = some (excClassObj nm q C N bs bm hdct sn sub ab col dd k0 k1 k2 k3 k5 newId))
    (done : Q () ⟨hh, gg, dw, tt, os⟩) : wpAny M A (checkBuiltinCall newId ⟨.ref C :: pos, kw⟩) Q E ⟨hh, gg, dw, tt, os⟩ := by
  have inB : (Value.ref C :: bm).contains (.type B) = true := by
    rw [List.contains_cons, hT, F.hasB]
    exact Bool.or_true _
  have star := F.noStar
  simp only [checkBuiltinCall, F.newRow, F.newKind, F.newSplit]
  repeat (first
    | refine wpAny_loadPart_at hC ?_
    | (refine wpAny_isSubtype_exc hC ?_
       rw [inB])
    | refine wpAny_staticBase_exc hC ?_
    | refine wpAny_madeBy_exc hC ?_
    | simp only [if_false, Bool.false_eq_true, bne_self_eq_false]
    | wp_step)
  exact done
end
section
variable {prog : Program} {w : World} {A : Around} {E : Value → Shared → Prop} {R : Result → Shared → Prop} {hh : Heap} {gg : Array GenState} {dw : Drawn} {tt : Nat} {os : OsState}
variable {nm q : Str} {C N : Addr} {bs bm bmB : List Value} {hdct : Bool} {sn : List Str} {sub : List Value} {ab : Bool} {col : Option Bool} {dd : Option Addr} {k0 k1 k2 k3 k5 : Option Value} {B newId initId : String}
theorem kw_new (F : ExcBaseFacts B newId initId bmB) (hT : ∀ X : String, bm.contains (.type X) = bmB.contains (.type X)) {pos : List Value} {kw : List (Str × Value)}
    (hC : hh.get? C = some (excClassObj nm q C N bs bm hdct sn sub ab col dd k0 k1 k2 k3 k5 newId))
    (done : R (.ok (.ret (.ref (hh.objs.size + 1)))) ⟨(hh.push (W.kdv_tup pos)).push (excO C hh.objs.size), gg, dw, tt, os⟩)
    (small : pos.length ≤ sizeLine) : codeAny (model prog w) A (.builtin newId ⟨.ref C :: pos, kw⟩) R ⟨hh, gg, dw, tt, os⟩ := by
  have ends := F.ends
  have inB : (Value.ref C :: bm).contains (.type B) = true := by
    rw [List.contains_cons, hT, F.hasB]
    exact Bool.or_true _
  have noA : (Value.ref C :: bm).contains (.type "AttributeError") = false := by
    rw [List.contains_cons, hT, F.noAttr]
    rfl
  have noN : (Value.ref C :: bm).contains (.type "NameError") = false := by
    rw [List.contains_cons, hT, F.noName]
    rfl
  refine codeAny_builtinAt F.entry ?_
  unfold Builtin.«BaseException.__new__»
  refine wpAt_bind ?_
  show wpAt _ _ _ (stack >>= _) _ _ _
  refine wpAt_bind (wpAt_stack fun p below => wpAt_of_wpAny ?_)
  wp_walk
  refine wpAt_of_wpAny ?_
  rw [F.owner]
  repeat (first
    | with_reducible refine wpAny_madeHere_exc F.canon hC ?_
    | with_reducible refine wpAny_loadPart_at hC ?_
    | (with_reducible refine wpAny_isSubtype_exc hC ?_
       first | rw [inB] | rw [noA] | rw [noN])
    | wp_step)
  show R _ _
  rw [Heap.size_push]
  exact done

theorem kw_type_call (F : ExcBaseFacts B newId initId bmB) (hT : ∀ X : String, bm.contains (.type X) = bmB.contains (.type X)) {pos : List Value} {kw : List (Str × Value)} {fI : Addr}
    {Q : Fin → Shared → Prop} (hC : hh.get? C = some (excClassObj nm q C N bs bm hdct sn sub ab col dd k0 k1 k2 k3 k5 newId))
    (hi : W.Looks (model prog w) hh (typeLookup (.ref C) "__init__") (some (.ref fI)))
    (hb : ∀ self, W.Looks (model prog w) hh (bindSpecial (.ref fI) self) (.ref fI, [self])) (small : pos.length ≤ sizeLine)
    (run : codeAny (model prog w) A (.call (.ref fI) ⟨.ref (hh.objs.size + 1) :: pos, kw⟩)
      (fun r s' => match r with
        | .ok (.ret v) => v = .none ∧ Q (.done (.ret (.ref (hh.objs.size + 1)))) s'
        | .ok _ => False
        | .error e => E e s')
      ⟨(hh.push (W.kdv_tup pos)).push (excO C hh.objs.size), gg, dw, tt, os⟩) :
    wpAny (model prog w) A (Builtin.«type.__call__» ⟨.ref C :: pos, kw⟩) Q E ⟨hh, gg, dw, tt, os⟩ := by
  repeat (first
    | with_reducible refine wpAny_loadPart_at hC ?_
    | with_reducible refine wpAny_madeBy_exc hC ?_
    | wp_step)
  refine codeAny_call_builtin_code (Code.quiet_builtin _ F.quiet) (kw_check_new F hT hC ?_)
  refine kw_new F hT hC ?_ small
  show wpAny _ _ _ _ _ _
  have keep : ∀ b o, hh.get? b = some o → ((hh.push (W.kdv_tup pos)).push (excO C hh.objs.size)).get? b = some o := fun b o e =>
    Heap.get?_push_of_some _ (Heap.get?_push_of_some _ e)
  have hC1 := keep _ _ hC
  have here : ((hh.push (W.kdv_tup pos)).push (excO C hh.objs.size)).get? (hh.objs.size + 1) = some (excO C hh.objs.size) := by heap_get
  have inC : (Value.ref C :: bm).contains (.ref C) = true := by simp
  have i1 := hi.keeps keep
  have b1 := (hb (.ref (hh.objs.size + 1))).keeps keep
  unfold isInstance
  repeat (first
    | with_reducible refine wpAny_loadPart_at here ?_
    | (with_reducible refine wpAny_isSubtype_exc hC1 ?_
       rw [inC])
    | wp_step)
  show wpAny _ _ (typeLookup (.ref C) _) _ _ _
  refine i1.at ?_
  refine wpAny_holding (wpAny_bind (b1.at ?_))
  refine wpAny_bind (wpAny_call (codeAny_mono run fun r s' z => ?_))
  cases r with
  | error e => exact z
  | ok fl =>
    cases fl with
    | ret v =>
      obtain ⟨rfl, z⟩ := z
      first
        | exact wpAny_pure (wpAny_pure z)
        | (wp_walk
           exact z)
        | wp_walk
    | next => exact z.elim
    | brk => exact z.elim
    | cont => exact z.elim

/-- C(e, .., k = v, ..) of an own exception class with its own __init__ at fI -/
theorem kw_call (F : ExcBaseFacts B newId initId bmB) (hT : ∀ X : String, bm.contains (.type X) = bmB.contains (.type X)) {pos : List Value} {kw : List (Str × Value)} {fI : Addr}
    (hC : hh.get? C = some (excClassObj nm q C N bs bm hdct sn sub ab col dd k0 k1 k2 k3 k5 newId))
    (hi : W.Looks (model prog w) hh (typeLookup (.ref C) "__init__") (some (.ref fI)))
    (hb : ∀ self, W.Looks (model prog w) hh (bindSpecial (.ref fI) self) (.ref fI, [self])) (small : pos.length ≤ sizeLine)
    (run : codeAny (model prog w) (A.under (.builtin "type.__call__" ⟨.ref C :: pos, kw⟩)) (.call (.ref fI) ⟨.ref (hh.objs.size + 1) :: pos, kw⟩)
      (W.InitBack (hh.objs.size + 1) R) ⟨(hh.push (W.kdv_tup pos)).push (excO C hh.objs.size), gg, dw, tt, os⟩) :
    codeAny (model prog w) A (.call (.ref C) ⟨pos, kw⟩) R ⟨hh, gg, dw, tt, os⟩ := by
  have f1 := tc_lookup
  have f2 := tc_bind (.ref C)
  have hTy : (⟨hh, gg, dw, tt, os⟩ : Shared).TypeIs (.ref C) "type" := ⟨_, hC, rfl⟩
  refine codeAny_of_tree ?_
  show wpAny _ _ (callAny (.ref C) _) _ _ _
  repeat (any_goals (first
    | assumption
    | with_reducible refine wpAny_loadPart_at hC ?_
    | wp_step))
  refine ⟨rfl, ?_⟩
  refine codeAny_call_builtin_at (Code.quiet_builtin _ (by decide +kernel)) entry_typeCall (wpAny_check_type_call_sub hC (kw_type_call F hT hC hi hb small ?_))
  refine codeAny_mono run fun r s' z => ?_
  rcases r with e | (v | _ | _ | _) <;> exact z
end
end KUx
end PySem

set_option Elab.async false
set_option linter.all false
set_option maxRecDepth 100000
set_option maxHeartbeats 4000000
/-! Own rules over the hand layer: defs that know that no repr is under way, own errors as values, repr of data -/
namespace KU
open PySem PySem.Spec PyProof.Rows L2

/-! ### a def entered where no repr is under way -/
structure FnG (P : Program) (w : World) (K : PySem.W.Frag) (mg : Str → Option Value) (base : Heap) (CX : CXT) (k : Nat) (f : Addr) (fd : FuncData) (ps : List Str) (sp : Sp) : Prop where
  many : ∀ vs H Q E, sp vs H Q E → vs.length = ps.length
  goes : ∀ (A : Around) (out : List Env) (s : Shared) (H : Hp) (args : Args) (us : List Value) (vs : List V) (Q : VK) (E : XK), A.guards = some [] → Room k A →
    Env0 P w K mg base A out s H → BindsTo s fd args (ps.zip us) → Vals vs us → sp vs H Q E → codeAny (model P w) A (.call (.ref f) args) (CR CX out P w H s Q E) s
theorem FnG.of {P : Program} {w : World} {K : PySem.W.Frag} {mg : Str → Option Value} {base : Heap} {CX : CXT} {k : Nat} {f : Addr} {fd : FuncData} {ps : List Str} {sp : Sp}
    (F : FnOk P w K mg base CX k f fd ps sp) : FnG P w K mg base CX k f fd ps sp := ⟨F.len, fun A out s H args us vs Q E _ => F.run A out s H args us vs Q E⟩

/-- a def of the text by its body, where no repr is under way -/
theorem FnG.body {P : Program} {w : World} {K : PySem.W.Frag} {mg : Str → Option Value} {base : Heap} {x qual : Str} {st : Stmt} {f : Addr} {fd : FuncData} {N ps : List Str} {k : Nat} {sp : Sp}
    (F : Fun K x qual st f fd) (S : FnScope N ps (defScope st)) (many : ∀ vs H Q E, sp vs H Q E → vs.length = ps.length)
    (walk : ∀ (cdv : Value) (A : Around) (out : List Env) (s : Shared) (H : Hp) (vs : List V) (Q : VK) (E : XK), A.guards = some [] → Room k (A.deeper (envOfC qual (defScope st) s.heap.objs.size f cdv)) → sp vs H Q E →
      ∃ t, PSs (cxOf CX0 P w K mg base N qual (defScope st) f cdv A out s H E).nox (defBody st) t ∧ t { nx := fun _ H' => Q .non H', rt := Q } (start N vs) H) :
    FnG P w K mg base CX0 (k + 1) f fd ps sp := by
  refine ⟨many, fun A out s H args us vs Q E hg hr e0 hb r hsp => ?_⟩
  obtain ⟨oc, od, kV, doc, pm, an, cdv, ct, osl, rfl, lk, hcd⟩ := F.ex
  let sp1 : Sp := fun vs1 H1 Q1 E1 => vs1 = vs ∧ H1 = H ∧ Q1 = Q ∧ E1 = E
  have hl := many _ _ _ _ hsp
  have KX : K.In s.heap := e0.mod.kin.keeps fun b o e => (e0.bs b o e).1
  have lim : s.heap.NoLimit := e0.mod.nolimit.keeps fun b o e => (e0.bs b o e).1
  have kinds : ∀ y ∈ ps.zip us, (defScope st).names.lookup y.1 = some .local ∨ ((defScope st).names.lookup y.1 = some .cell ∧ ((cellsFrom (s.heap.objs.size + 1) (defScope st).names []).lookup y.1).isSome = true) := by
    intro ⟨n, v⟩ hy
    rcases S.par n (List.of_mem_zip hy).1 with q | q
    · exact .inl q
    · exact .inr ⟨q, PySem.W.cellsFrom_some _ _ _ (.inl q)⟩
  refine codeAny_call_function hr.depth (KX _ _ lk) rfl S.co S.gen rfl (PySem.W.codeRec_of KX hcd) (hb _ _ _ _ ?_)
  refine wpAny_newFunctionEnv_cells S.kind kinds fun env he s1 x => ?_
  subst he
  refine ⟨lim.keeps x.toInCall.keep, codeAny_func ?_⟩
  obtain ⟨t, ht, hq⟩ := walk cdv A out s H vs Q E hg (hr.deeper _) hsp
  have I : Inv (cxOf CX0 P w K mg base N qual (defScope st) f cdv A out s H E) [] (start N vs) H s1 := inv_start S hr.hd e0 hl r x
  refine wpAny_mono (ht.nox.run [] s1 (start N vs) H _ I hq) (fun fl s' hs => ?_) fun e s' hs => hs
  have last : ∀ {σ' : L2.St} {H' : Hp} {v : V} {u : Value}, Inv (cxOf CX0 P w K mg base N qual (defScope st) f cdv A out s H E) [] σ' H' s' → RelV v u → Q v H' → CE out P w H s Q u s' := by
    intro σ' H' v u J rv q
    exact ⟨v, H', J.os, J.bare, J.base, J.hok, rv, q⟩
  cases fl with
  | next =>
    obtain ⟨σ', H', J, q⟩ := hs
    exact last (v := V.non) (u := Value.none) J rfl q
  | ret u =>
    obtain ⟨v, σ', H', J, rv, q⟩ := hs
    exact last J rv q
  | brk =>
    obtain ⟨_, _, _, q⟩ := hs
    exact q.elim
  | cont =>
    obtain ⟨_, _, _, q⟩ := hs
    exact q.elim
/-! ### own errors as values -/
/-- an own error at e: of the class at C, its fields fs (none of them: it has no dict) -/
def ErrAt (H : Hp) (e C : Addr) (fs : List (Str × V)) : Prop := (∃ d, H e = some (exo e C (some d)) ∧ H d = some (exd d fs)) ∨ (fs = [] ∧ H e = some (exo e C none))
theorem ErrAt.mono {H H' : Hp} {e C : Addr} {fs : List (Str × V)} (x : Evl.Ex H H') (h : ErrAt H e C fs) : ErrAt H' e C fs := by
  rcases h with ⟨d, h1, h2⟩ | ⟨h1, h2⟩
  · exact .inl ⟨d, x _ _ h1, x _ _ h2⟩
  · exact .inr ⟨h1, x _ _ h2⟩
section
variable {X : Cx} {C fI : Addr} {k : Nat} {fd : FuncData} {ps : List Str} {sp : Sp}
/-- the class is called: positional values us, keywords kw, bound to all -/
theorem run_err {pins : List (Addr × Obj)} {σ : L2.St} {H : Hp} {s : Shared} {Q : VK} {us all : List Value} {kw : List (Str × Value)} {vs : List V}
    (T : OexC X.K C) (iC : PySem.W.findIn X.K (.ref C) "__init__" = some (some (.ref fI))) (tI : PySem.W.typeIn X.K (.ref fI) = some (.type "function"))
    (F1 : FnOk X.prog X.w X.K X.mg X.base CX0 k fI fd ps sp) (hr : Room (k + 1) X.A) (I : Inv X pins σ H s) (r : Vals vs all) (small : us.length ≤ 1000)
    (hb : ∀ (s' : Shared) (a : Addr), X.K.In s'.heap → BindsTo s' fd ⟨.ref a :: us, kw⟩ (ps.zip (.ref a :: all)))
    (hq : ∀ a, H a = none → sp (.ref a :: vs) (upd H a (exo a C none)) (fun v H2 => v = .non ∧ Q (.ref a) H2) fun _ _ _ => False) :
    wpAny (model X.prog X.w) X.A (call (.ref C) us kw) (EP X pins σ Q) X.xe s := by
  obtain ⟨nm, q, N, bs, bm, sn, sub, ab, col, dd, k0, k1, k2, k3, k5, hC, hbm⟩ := T.cls
  obtain ⟨hp, g, dr, tk, os⟩ := s
  have above : hp.objs.size ≤ hp.objs.size + 1 := Nat.le_succ _
  have free := I.hok.fresh above
  have want := hq (hp.objs.size + 1) free
  have kp : ∀ b o, hp.get? b = some o → ((hp.push (PySem.W.kdv_tup us)).push (PySem.HandSPX.excO C hp.objs.size)).get? b = some o := fun b o e =>
    Heap.get?_push_of_some _ (Heap.get?_push_of_some _ e)
  have here : ((hp.push (PySem.W.kdv_tup us)).push (PySem.HandSPX.excO C hp.objs.size)).get? (hp.objs.size + 1) = some (PySem.HandSPX.excO C hp.objs.size) := by heap_get
  have I2 : Inv X pins σ (upd H (hp.objs.size + 1) (exo (hp.objs.size + 1) C none)) ⟨(hp.push (PySem.W.kdv_tup us)).push (PySem.HandSPX.excO C hp.objs.size), g, dr, tk, os⟩ :=
    I.laid (t' := tk) (a := hp.objs.size + 1) (o := exo (hp.objs.size + 1) C none) (h' := (hp.push (PySem.W.kdv_tup us)).push (PySem.HandSPX.excO C hp.objs.size)) kp above (exo_ok here)
  have sz : us.length ≤ sizeLine := by
    rw [sizeLine_eq]
    omega
  refine wpAny_call (PySem.KUx.kw_call PySem.F.excBase_ValueError (fun Y => PySem.HandSPX.refsVE_contains Y bm hbm) (I.kIn _ _ hC) (PySem.W.looks_findIn I.kIn iC)
    (fun self => PySem.W.bind_fn I.kIn self tI) sz ?_)
  refine codeAny_mono (F1.run _ X.stack _ _ ⟨.ref (hp.objs.size + 1) :: us, kw⟩ (.ref (hp.objs.size + 1) :: all) (.ref (hp.objs.size + 1) :: vs) _ (fun _ _ _ => False)
    (hr.make C us kw) (I2.env0.make C us kw) (hb _ _ I2.kIn) (.cons rfl r) want) fun res s' back => ?_
  cases res with
  | error er => exact back.elim
  | ok fl =>
    cases fl with
    | ret u =>
      obtain ⟨v, H', I3, rv, ev, q3⟩ := I2.after back
      subst ev
      exact ⟨rv, ⟨V.ref (hp.objs.size + 1), H', I3, rfl, q3⟩⟩
    | next => exact back.elim
    | brk => exact back.elim
    | cont => exact back.elim
variable {x : Str} {p pos : Pos} {e : Expr} {es : List Expr} {kws : List Keyword} {ta tk : TA} {ks : List Str} {g : List Value → List Value → List Value} {gV : List V → List V → List V}
/-- C(e, ..) as a value -/
def tErr (C : Addr) (sp : Sp) (ta : TA) : TE := fun σ H Q => ta σ H fun vs H1 => vs.length ≤ 1000 ∧ ∀ a, H1 a = none →
  sp (.ref a :: vs) (upd H1 a (exo a C none)) (fun v H2 => v = .non ∧ Q (.ref a) H2) fun _ _ _ => False
theorem pe_err (T : OexC X.K C) (iC : PySem.W.findIn X.K (.ref C) "__init__" = some (some (.ref fI))) (tI : PySem.W.typeIn X.K (.ref fI) = some (.type "function"))
    (F1 : FnOk X.prog X.w X.K X.mg X.base CX0 k fI fd ps sp) (hr : Room (k + 1) X.A) (hb : Binds X.K fd ps []) (gC : X.mg x = some (.ref C)) (ha : PA X (e :: es) ta)
    (hg : Gl X x := by rfl) (hdb : (x == ("__debug__" : Str)) = false := by decide) (he : starEach (e :: es) X.env = (false, eval e X.env) :: starEach es X.env := by rfl)
    (hpl : (backTo pos (starEach es X.env)).any (·.1) = false := by rfl) : PE X (.Call (.Name x p) (e :: es) [] pos) (tErr C sp ta) := by
  refine ⟨fun pins s σ H Q I h => ?_⟩
  refine wpAny_Call_Name_kw (ld_glob I hg gC ?_ hdb)
  refine PySem.W.callWith_K (h₀ := X.base) I.ok.mod.kin T.kC (thn (ha.run pos pins s σ H _ I h) fun us s1 ⟨vs, H1, I1, r1, hz, q1⟩ => ⟨I1.kIn, ?_⟩) he hpl
  have hl := F1.len _ _ _ _ (q1 (s1.heap.objs.size + 1) (I1.hok.fresh (Nat.le_succ _)))
  refine run_err (us := us) (all := us) (kw := []) (vs := vs) T iC tI F1 hr I1 r1 (by rw [← r1.length]; exact hz) (fun s' a kin => ?_) q1
  have z := hb s' (.ref a :: us) kin (by
    rw [List.append_nil, ← hl, List.length_cons, List.length_cons, r1.length])
  rw [List.append_nil] at z
  exact z
/-- C(k = v, ..) as a value -/
def tErrK (C : Addr) (n : Nat) (sp : Sp) (gV : List V → List V) (tk : TA) : TE := fun σ H Q => tk σ H fun zs H1 => zs.length = n ∧ zs.length ≤ 1000 ∧ ∀ a, H1 a = none →
  sp (.ref a :: gV zs) (upd H1 a (exo a C none)) (fun v H2 => v = .non ∧ Q (.ref a) H2) fun _ _ _ => False
theorem pe_errK {gv : List V → List V} {gu : List Value → List Value} (T : OexC X.K C) (iC : PySem.W.findIn X.K (.ref C) "__init__" = some (some (.ref fI)))
    (tI : PySem.W.typeIn X.K (.ref fI) = some (.type "function")) (F1 : FnOk X.prog X.w X.K X.mg X.base CX0 k fI fd ps sp) (hr : Room (k + 1) X.A)
    (hb : ∀ (s' : Shared) (a : Addr) (ws : List Value), X.K.In s'.heap → ws.length = ks.length → BindsTo s' fd ⟨[.ref a], ks.zip ws⟩ (ps.zip (.ref a :: gu ws)))
    (rel : ∀ {zs : List V} {ws : List Value}, Vals zs ws → zs.length = ks.length → Vals (gv zs) (gu ws)) (gC : X.mg x = some (.ref C)) (hk : PK X kws tk)
    (hall : (backToKw pos (keywordEach kws X.env)).all (·.1.isSome) = true := by rfl) (hks : (backToKw pos (keywordEach kws X.env)).filterMap (·.1) = ks := by rfl)
    (hg : Gl X x := by rfl) (hdb : (x == ("__debug__" : Str)) = false := by decide)
    (hpl : ((backTo pos (starEach [] X.env)).any (·.1) || (backToKw pos (keywordEach kws X.env)).any (·.1.isNone)) = false := by rfl) :
    PE X (.Call (.Name x p) [] kws pos) (tErrK C ks.length sp gv tk) := by
  refine ⟨fun pins s σ H Q I h => ?_⟩
  refine wpAny_Call_Name_kw (ld_glob I hg gC ?_ hdb)
  refine PySem.W.callWith_KW0 (h₀ := X.base) I.ok.mod.kin T.kC hall (thn (hk.run pos pins s σ H _ I h) fun ws s1 ⟨zs, H1, I1, r1, hn, hz, q1⟩ => ⟨I1.kIn, ?_⟩) hpl
  rw [hks]
  show wpAny _ _ (call (.ref C) [] (ks.zip ws)) _ _ _
  exact run_err (us := []) (all := gu ws) (kw := ks.zip ws) (vs := gv zs) T iC tI F1 hr I1 (rel r1 hn) (Nat.zero_le _) (fun s' a kin => hb s' a ws kin (by rw [← r1.length]; exact hn)) q1
end

/-! ### what __init__ of such a class promises -/
def spI1 (K : PySem.W.Frag) (f : Str) : Sp := fun vs H Q _ => ∃ (a C : Addr) (y : V), vs = [.ref a, y] ∧ OexC K C ∧ PySem.W.findIn K (.ref C) f = some none ∧ H a = some (exo a C none) ∧
  ∀ dx, H dx = none → dx ≠ a → Q .non (upd (upd H dx (exd dx [(f, y)])) a (exo a C (some dx)))
def spI2 (K : PySem.W.Frag) (f g : Str) : Sp := fun vs H Q _ => ∃ (a C : Addr) (y z : V), vs = [.ref a, y, z] ∧ OexC K C ∧ PySem.W.findIn K (.ref C) f = some none ∧ PySem.W.findIn K (.ref C) g = some none ∧
  H a = some (exo a C none) ∧ ∀ dx H', H dx = none → dx ≠ a → H' a = some (exo a C (some dx)) → H' dx = some (exd dx [(g, z), (f, y)]) → (∀ b, b ≠ a → b ≠ dx → H' b = H b) → Q .non H'

section
variable {X : Cx} {e : Expr} {te : TE} {f : Str} {pos : Pos}
/-- e.f of an own error -/
def tErrF (K : PySem.W.Frag) (f : Str) (te : TE) : TE := fun σ H Q => te σ H fun x H1 => ∃ (a C : Addr) (fs : List (Str × V)) (v : V), x = .ref a ∧ ExcC K C ∧ PySem.W.findIn K (.ref C) f = some none ∧
  ErrAt H1 a C fs ∧ fs.lookup f = some v ∧ Q v H1
theorem pe_errF (he : PE X e te) (hb : attributeBase e f X.env (eval e X.env) = eval e X.env := by rfl) : PE X (.Attribute e f pos) (tErrF X.K f te) := by
  refine ⟨fun pins s σ H Q I h => ?_⟩
  refine attr_of hb (thn (he.run pins s σ H _ I h) fun u s1 ⟨x, H1, I1, rx, a, C, fs, v, ex, T, no, at_, lk, q⟩ => ?_)
  subst ex
  obtain rfl : u = Value.ref a := rx
  rcases at_ with ⟨d, h1, h2⟩ | ⟨h1, _⟩
  · obtain ⟨t1, ho⟩ := exo_at I1.hok h1
    obtain ⟨mA, hns, rel⟩ := exd_at I1.hok h2
    obtain ⟨od, hod, hlk⟩ := lookIn_ns hns
    obtain ⟨y, hy, ry⟩ := RelO.some_of (v := v) (o := mA f) (by rw [← lk]; exact rel f)
    have J : PySem.W.InstAt s1.heap a { cls := .ref C, dict := some d, data := .fields #[.ref t1, .none, .none, .none, .bool false, .none] } C (some od) := ⟨ho, rfl, rfl, hod⟩
    exact HandSPX.exc_get I1.kIn J T.hg T.hk T.hs (PySem.W.findObj_own T.hd no rfl (by rw [hlk, hy])) (handed_of ry) ⟨v, H1, I1.tok _, ry, q⟩
  · subst h1
    cases lk
/-- isinstance(e, c), e an own error -/
def rIsErr (K : PySem.W.Frag) : List V → Hp → VK → Prop := fun xs H Q => ∃ (a C : Addr) (fs : List (Str × V)) (c : V) (u : Value) (b : Bool), xs = [.ref a, c] ∧ ClsV c u ∧ ExcC K C ∧ ErrAt H a C fs ∧
  PySem.W.kitOne K (.ref C) u = some b ∧ Q (.bl b) H
theorem call_isErr : CallR X (.builtin "isinstance") (rIsErr X.K) := by
  intro pins s σ H xs us Q I r h
  obtain ⟨a, C, fs, c, w, b, rfl, k, T, at_, e, q⟩ := h
  obtain ⟨u1, u2, rfl, r1, r2⟩ := vals2 r
  obtain rfl : u1 = Value.ref a := r1
  have e2 := k.eq r2
  subst e2
  have hc : (PySem.W.clsIn X.K C).isSome = true := by
    have z := T.hd
    unfold PySem.W.hasDictIn at z
    cases q : PySem.W.clsIn X.K C with
    | none =>
      rw [q] at z
      cases z
    | some cd => rfl
  have fin : ∀ tk, EP X pins σ Q (.bool b) { s with toks := tk } := fun tk => ⟨.bl b, H, I.tok tk, rfl, q⟩
  rcases at_ with ⟨d, h1, h2⟩ | ⟨_, h1⟩
  · obtain ⟨t1, ho⟩ := exo_at I.hok h1
    obtain ⟨mA, hns, rel⟩ := exd_at I.hok h2
    obtain ⟨od, hod, hlk⟩ := lookIn_ns hns
    have J : PySem.W.InstAt s.heap a { cls := .ref C, dict := some d, data := .fields #[.ref t1, .none, .none, .none, .bool false, .none] } C (some od) := ⟨ho, rfl, rfl, hod⟩
    exact PySem.W.kia_one (PySem.W.kitx_exc hc T.hg T.hk T.hs T.ha T.hn T.ht T.hm) I.kIn J e (fun z => nomatch z) fin
  · obtain ⟨t1, ho⟩ := exo_at I.hok h1
    have J : PySem.W.InstAt s.heap a { cls := .ref C, dict := none, data := .fields #[.ref t1, .none, .none, .none, .bool false, .none] } C none := ⟨ho, rfl, rfl, trivial⟩
    exact PySem.W.kia_one (PySem.W.kitx_exc hc T.hg T.hk T.hs T.ha T.hn T.ht T.hm) I.kIn J e (fun z => nomatch z) fin
end

/-! ### repr of data -/
mutual
inductive RD (K : PySem.W.Frag) (H : Hp) : V → PyData → Prop where
  | non : RD K H .non .none
  | bl (b : Bool) : RD K H (.bl b) (.bool b)
  | int (i : Int) : RD K H (.int i) (.int i)
  | str (x : Str) : RD K H (.str x) (.str x)
  | tup {a : Addr} {xs : List V} {ds : List PyData} : SqT K H a xs → RDs K H xs ds → RD K H (.ref a) (.tuple ds)
  | lst {a : Addr} {xs : List V} {ds : List PyData} : SqL K H a xs → a ≠ sysModules → RDs K H xs ds → RD K H (.ref a) (.list ds)
  | dic {a : Addr} : H a = some (.dK []) → RD K H (.ref a) (.dict [])
inductive RDs (K : PySem.W.Frag) (H : Hp) : List V → List PyData → Prop where
  | nil : RDs K H [] []
  | cons {v : V} {vs : List V} {d : PyData} {ds : List PyData} : RD K H v d → RDs K H vs ds → RDs K H (v :: vs) (d :: ds)
end
section
variable {X : Cx} {pins : List (Addr × Obj)} {σ : L2.St} {H : Hp} {s : Shared}
mutual
theorem RD.reads (I : Inv X pins σ H s) : ∀ (d : PyData) (v : V) (u : Value), RD X.K H v d → RelV v u → ∃ as, Reads s.heap u d as ∧ sysModules ∉ as
  | .none, _, _, h, r => by
    cases h
    cases r
    exact ⟨_, Reads.none, List.not_mem_nil⟩
  | .bool b, _, _, h, r => by
    cases h
    cases r
    exact ⟨_, Reads.bool b, List.not_mem_nil⟩
  | .int i, _, _, h, r => by
    cases h
    obtain ⟨t, rfl⟩ := r
    exact ⟨_, Reads.int i t, List.not_mem_nil⟩
  | .str x, _, _, h, r => by
    cases h
    obtain ⟨t, rfl⟩ := r
    exact ⟨_, Reads.str x t, List.not_mem_nil⟩
  | .list ds, _, _, h, r => by
    cases h with
    | lst hs hn ha =>
      cases r
      obtain ⟨its, rv, ⟨o, n, ho, hc, _, hd⟩, _⟩ := I.list hs
      obtain ⟨as, hr, no⟩ := RD.readsAll I ds _ its ha rv
      refine ⟨_, Reads.list ho hc hd hr, fun z => ?_⟩
      rcases List.mem_cons.mp z with z | z
      · exact hn z.symm
      · exact no z
  | .tuple ds, _, _, h, r => by
    cases h with
    | tup hs ha =>
      cases r
      obtain ⟨its, rv, ⟨o, ho, hc, n, hd⟩, _⟩ := I.tuple hs
      obtain ⟨as, hr, no⟩ := RD.readsAll I ds _ its ha rv
      exact ⟨_, Reads.tuple ho hc hd hr, no⟩
  | .dict kvs, _, _, h, r => by
    cases h with
    | dic hs =>
      cases r
      obtain ⟨_, hn, vs, rel, o, es, ep, ho, hx, hd, _, pr, _⟩ := dk_of I.hok hs
      have e0 : vs = [] := by
        cases rel
        rfl
      subst e0
      have e1 : es.toList = [] := by
        cases h : es.toList with
        | nil => rfl
        | cons a b =>
          rw [h] at pr
          cases pr
      refine ⟨_, Reads.dict (kvs := []) (as := []) (bs := []) ho hx.1 hd (by rw [e1]; exact ReadsAll.nil) (by rw [e1]; exact ReadsAll.nil), fun z => ?_⟩
      have z' := List.mem_singleton.mp (by simpa using z)
      rw [← z'] at hn
      exact absurd hn (by decide)
theorem RD.readsAll (I : Inv X pins σ H s) : ∀ (ds : List PyData) (vs : List V) (us : List Value), RDs X.K H vs ds → Vals vs us → ∃ as, ReadsAll s.heap us ds as ∧ sysModules ∉ as
  | [], _, _, h, r => by
    cases h
    cases r
    exact ⟨_, ReadsAll.nil, List.not_mem_nil⟩
  | d :: ds, _, _, h, r => by
    cases h with
    | cons h1 h2 =>
      cases r with
      | cons r1 r2 =>
        obtain ⟨as, q1, n1⟩ := RD.reads I d _ _ h1 r1
        obtain ⟨bs, q2, n2⟩ := RD.readsAll I ds _ _ h2 r2
        refine ⟨_, ReadsAll.cons q1 q2, fun z => ?_⟩
        rcases List.mem_append.mp z with z | z
        · exact n1 z
        · exact n2 z
end
end
section
variable {X : Cx}
/-- repr of a list -/
def rRepr (K : PySem.W.Frag) : List V → Hp → VK → Prop := fun xs H Q => ∃ (a : Addr) (d : PyData), xs = [.ref a] ∧ RD K H (.ref a) d ∧ d.showable = true ∧ d.depth ≤ 60 ∧ d.shown.length ≤ 100000 ∧ Q (.str d.shown) H
theorem call_repr (hg : X.A.guards = some []) (hu : X.A.units + 64 < cLine) : CallR X (.builtin "repr") (rRepr X.K) := by
  intro pins s σ H xs us Q I r h
  obtain ⟨a, d, rfl, rd, sh, dp, sz, q⟩ := h
  obtain ⟨u, rfl, ru⟩ := vals1 r
  obtain ⟨as, hr, no⟩ := RD.reads I d _ _ rd ru
  obtain rfl : u = Value.ref a := ru
  exact repr_of_reads' hr sh (fun _ => no) hg (by omega) (fun _ _ e => e) (fun h' u tk kp => ⟨.str d.shown, H, I.kept kp, ⟨_, rfl⟩, q⟩) (Nat.le_trans sz (by decide))
/-- a list's display, new above the startup's objects -/
def tLstB (t : TA) : TE := fun σ H Q => t σ H fun xs H1 => xs.length ≤ sizeLine ∧ ∀ p, H1 p = none → p ≠ sysModules → Q (.ref p) (upd H1 p (.lst xs))
theorem pe_lstB {es : List Expr} {t : TA} {pos : Pos} (h : PA X es t) : PE X (.List es pos) (tLstB t) := by
  refine ⟨fun pins s σ H Q I hq => ?_⟩
  refine wpAny_List_spliced (thn (h.run pos pins s σ H _ I hq) fun us s1 ⟨xs, H1, I1, r, z, q⟩ => ⟨?_, ?_⟩)
  · rw [← r.length]
    exact z
  have free : H1 s1.heap.objs.size = none := I1.hok.fresh (Nat.le_refl _)
  refine ⟨.ref s1.heap.objs.size, upd H1 s1.heap.objs.size (.lst xs), ?_, rfl, q _ free (Nat.ne_of_gt I1.big)⟩
  exact I1.laid (t' := s1.toks) (fun b u e => Heap.get?_push_of_some _ e) (Nat.le_refl _) ⟨z, us, 0, r, Heap.get?_push_size _ rfl⟩
end
end KU

set_option Elab.async false
set_option linter.all false
set_option maxRecDepth 100000
set_option maxHeartbeats 4000000
/-! The end of a law's row, the law's def being known where no repr is under way -/
namespace KU
open PySem PySem.Spec PyProof.Rows L2

theorem hid_ns {h : Heap} {H : Hp} {b : Addr} {m : Str → Option Value} (no : ∀ o es ep, h.get? b = some o → o.data = .dict es ep → H b = none) (n : h.Ns b m) : (hidT h H).Ns b m := by
  obtain ⟨o, es, ep, e, d, r⟩ := n
  exact ⟨o, es, ep, hidT_get e (no o es ep e d), d, r⟩

theorem call_law {P : Program} {w : World} {K : PySem.W.Frag} {mg mb : Str → Option Value} {k : Nat} {fa a : Addr} {fd : FuncData} {x : Str} {sp : Sp} {s1 : Shared} {vs : List Value} {ns : List Int}
    (KX : K.In s1.heap) (hns : s1.heap.Ns mainGlobals mg) (hb : s1.heap.Ns builtinsNs mb) (hbb : ∀ x : Str, x ≠ "__name__" → mb x = bootBuiltins x) (hlim : s1.heap.NoLimit) (hg : s1.gens = #[])
    (ha : s1.heap.get? a = some { cls := .type "list", data := .seq vs.toArray }) (hi : IntsAre vs ns) (hl : ns.length ≤ sizeLine) (hr : Room k callerA)
    (F : ∀ base : Heap, K.In base → base.Ns mainGlobals mg → FnG P w K mg base CX0 k fa fd [x] sp) (hbind : ∀ (s : Shared) (u : Value), BindsTo s fd ⟨[u], []⟩ [(x, u)])
    (hsp : ∀ H : Hp, Only H → SqL K H a (ns.map V.int) → sp [.ref a] H (fun v _ => v = .bl true) fun _ _ _ => False) :
    codeAny (model P w) callerA (.call (.ref fa) ⟨[.ref a], []⟩)
      (fun r s' => r = .ok (.ret (.bool true)) ∧ OldK s1.heap s'.heap ∧ s'.os = s1.os ∧ AllBare s'.gens) s1 := by
  have rv := vals_ints hi
  have lenV := hi.length
  have main : ∀ H : Hp, Only H → SqL K H a (ns.map V.int) → HOk P w H s1.heap → (∀ b, H b ≠ none → b = a) → (H a ≠ none → K.lookup a = none) →
      codeAny (model P w) callerA (.call (.ref fa) ⟨[.ref a], []⟩)
        (fun r s' => r = .ok (.ret (.bool true)) ∧ OldK s1.heap s'.heap ∧ s'.os = s1.os ∧ AllBare s'.gens) s1 := by
    intro H only seq ok just hK
    have atA : ∀ {b u}, H b = some u → b = a := fun {b u} q => just b (by rw [q]; simp)
    have noD : ∀ b o es ep, s1.heap.get? b = some o → o.data = .dict es ep → H b = none := by
      intro b o es ep e d
      cases q : H b with
      | none => rfl
      | some u =>
        rw [atA q, ha] at e
        cases e
        have d' : Data.seq vs.toArray _ = Data.dict es ep := d
        cases d'
    have kin : K.In (hidT s1.heap H) := by
      intro b o e
      refine hidT_get (KX b o e) ?_
      cases q : H b with
      | none => rfl
      | some u =>
        have eb := atA q
        subst eb
        rw [hK (by rw [q]; simp)] at e
        cases e
    have lim : (hidT s1.heap H).NoLimit := by
      obtain ⟨mc, h1, h2⟩ := hlim
      exact ⟨mc, hid_ns (noD _) h1, h2⟩
    have md : Mod K mg (hidT s1.heap H) := ⟨kin, hid_ns (noD _) hns, ⟨mb, hid_ns (noD _) hb, hbb⟩, lim⟩
    have e0 : Env0 P w K mg (hidT s1.heap H) callerA [] s1 H :=
      ⟨rfl, md, fun b o e => of_hidT e, Nat.le_of_eq (hidT_size _ _), trivial, fun b hb => absurd hb List.not_mem_nil, ok, .of_eq hg⟩
    have run := (F _ kin (hid_ns (noD _) hns)).goes callerA [] s1 H ⟨[.ref a], []⟩ [.ref a] [.ref a] _ _ rfl hr e0 (hbind s1 (.ref a)) (.cons rfl .nil) (hsp H only seq)
    refine codeAny_mono run fun r s' h => ?_
    cases r with
    | error e => exact h.elim
    | ok fl =>
      cases fl with
      | next => exact h.elim
      | brk => exact h.elim
      | cont => exact h.elim
      | ret u =>
        obtain ⟨v, H', os, bare, un, ok', r', q⟩ := h
        have q' : v = .bl true := q
        subst q'
        obtain rfl : u = Value.bool true := r'
        refine ⟨rfl, OldK.of_keep fun b o e => ?_, os, bare⟩
        cases q : H b with
        | none => exact un.keep b o e q List.not_mem_nil List.not_mem_nil
        | some u =>
          rcases only b with z | ⟨ob, xs, z⟩
          · rw [q] at z
            cases z
          · obtain ⟨e1, _⟩ := ok b _ z
            obtain ⟨e2, _⟩ := ok' b _ (un.frzs b ob _ z)
            rw [e] at e1
            cases e1
            exact e2
  cases hk : K.lookup a with
  | some o =>
    have e := KX a o hk
    rw [ha] at e
    cases e
    refine main (fun _ => none) (fun _ => .inl rfl) (.inr ⟨_, vs.toArray, _, hk, rfl, rfl, rfl, ?_, ?_⟩) (fun b u z => nomatch z) (fun b z => absurd rfl z) fun z => absurd rfl z
    · rw [List.size_toArray, lenV]
      exact hl
    · simpa using rv
  | none =>
    let H1 : Hp := fun b => if b = a then some (.frz { cls := .type "list", data := .seq vs.toArray } (.lst (ns.map V.int))) else none
    have at_ : H1 a = some (.frz { cls := .type "list", data := .seq vs.toArray } (.lst (ns.map V.int))) := if_pos rfl
    have off : ∀ b, b ≠ a → H1 b = none := fun b hb => if_neg hb
    refine main H1 (fun b => ?_) (.inl (.inr ⟨_, at_⟩)) (fun b u z => ?_) (fun b z => ?_) fun _ => hk
    · by_cases hb : b = a
      · subst hb
        exact .inr ⟨_, _, at_⟩
      · exact .inl (off b hb)
    · by_cases hb : b = a
      · subst hb
        rw [at_] at z
        cases z
        refine ⟨ha, ?_, vs, _, rv, ha⟩
        rw [List.length_map]
        exact hl
      · rw [off b hb] at z
        cases z
    · by_cases hb : b = a
      · exact hb
      · exact absurd (off b hb) z

/-- the goal that the head leaves, from the law's promise -/
theorem end_of {l : PySem.W.OpenLaw} {n k : Nat} {q : Program} {loose : List Str} {XP : (Str → Option Value) → Heap → Prop} {YP : World → Heap → Prop} {d : DefRec} {K : Params → PySem.W.Frag} {sp : PySem.W.Frag → Sp} {x : Str}
    (hn : l.most = some n) (hn2 : n ≤ sizeLine) (hdf : d.params.defaults = []) (hr : Room k callerA) (hY : ∀ (w : World) (h : Heap), YP w h → (K w.params).In h)
    (F : ∀ (w : World) (mg : Str → Option Value) (fa : Addr) (h : Heap), (K w.params).In h → h.Ns mainGlobals mg → mg d.name = some (.ref fa) →
      ∃ fd : FuncData, (∀ (s : Shared) (u : Value), BindsTo s fd ⟨[u], []⟩ [(x, u)]) ∧
        ∀ base : Heap, (K w.params).In base → base.Ns mainGlobals mg → FnG l.prog w (K w.params) mg base CX0 k fa fd [x] (sp (K w.params)))
    (hsp : ∀ (K : PySem.W.Frag) (H : Hp) (a : Addr) (ns : List Int), ns.length ≤ n → Only H → SqL K H a (ns.map V.int) → sp K [.ref a] H (fun v _ => v = .bl true) fun _ _ _ => False) :
    PySem.W.WalkO q loose XP YP l.row.toRowW d [] (fun f vs => PySem.call f vs) := by
  refine Att.attach_call hn hdf fun w s₀ s₁ mg mb fa o pm cd doc a vs ns G Y ho hd hcd hmg hobj hints hlen hg => ?_
  have kin := hY w _ Y
  obtain ⟨fd, hb, hF⟩ := F w mg fa _ kin G.T.g hmg
  exact call_law kin G.T.g G.T.b G.T.builtins G.T.nolimit hg hobj hints (Nat.le_trans hlen hn2) hr hF hb fun H hO hS => hsp _ H a ns hlen hO hS
end KU

set_option Elab.async false
set_option linter.all false
set_option maxRecDepth 100000
set_option maxHeartbeats 4000000
/-! The end of a law's row whose defs make lambdas: the tables of their code objects may grow -/
namespace KU
open PySem PySem.Spec PyProof.Rows L2

/-- the empty table of a code object -/
abbrev noCode : Obj := { cls := .none, data := .fields #[] }
/-- what is tracked at the entry of the law: the tables cs, and the script where the written part does not hold it -/
def entryH (cs : List (Addr × Addr)) (script : Option (Addr × HO)) : Hp := fun b =>
  if b ∈ cs.map (·.2) then some (.tbl #[]) else match script with
    | some (a, o) => if b = a then some o else none
    | none => none
theorem call_lawT {P : Program} {w : World} {K : PySem.W.Frag} {mg mb : Str → Option Value} {k : Nat} {fa a : Addr} {fd : FuncData} {x : Str} {sp : Sp} {s1 : Shared} {vs : List Value} {ns : List Int} {cs : List (Addr × Addr)}
    (KX : K.In s1.heap) (hns : s1.heap.Ns mainGlobals mg) (hb : s1.heap.Ns builtinsNs mb) (hbb : ∀ x : Str, x ≠ "__name__" → mb x = bootBuiltins x) (hlim : s1.heap.NoLimit) (hg : s1.gens = #[])
    (tabs : ∀ p ∈ cs, s1.heap.get? p.2 = some noCode) (free : ∀ p ∈ cs, K.lookup p.2 = none) (codes : ∀ p ∈ cs, PySem.W.CodeHd s1.heap p.1 p.2)
    (hbm : ∃ (bm : Addr) (ob : Obj), mg "__builtins__" = some (.ref bm) ∧ bm ≠ builtinsNs ∧ s1.heap.get? bm = some ob ∧ ob.cls = .type "module" ∧ ob.dict = some builtinsNs ∧ ob.data = .plain)
    (ha : s1.heap.get? a = some { cls := .type "list", data := .seq vs.toArray }) (hi : IntsAre vs ns) (hl : ns.length ≤ sizeLine) (hr : Room k callerA)
    (F : ∀ base : Heap, K.In base → base.Ns mainGlobals mg → (∀ p ∈ cs, LamX.TabB base mg p.1 p.2) → FnG P w K mg base CX0 k fa fd [x] sp) (hbind : ∀ (s : Shared) (u : Value), BindsTo s fd ⟨[u], []⟩ [(x, u)])
    (hsp : ∀ H : Hp, (∀ p ∈ cs, H p.2 = some (.tbl #[])) → SqL K H a (ns.map V.int) → sp [.ref a] H (fun v _ => v = .bl true) fun _ _ _ => False) :
    codeAny (model P w) callerA (.call (.ref fa) ⟨[.ref a], []⟩)
      (fun r s' => r = .ok (.ret (.bool true)) ∧ OldK s1.heap s'.heap ∧ s'.os = s1.os ∧ AllBare s'.gens) s1 := by
  have rv := vals_ints hi
  have lenV := hi.length
  have atT : ∀ {b : Addr}, b ∈ cs.map (·.2) → ∃ p ∈ cs, p.2 = b := fun h => List.mem_map.mp h
  have tabOf : ∀ {b : Addr}, b ∈ cs.map (·.2) → s1.heap.get? b = some noCode := fun h => by
    obtain ⟨p, hp, rfl⟩ := atT h
    exact tabs p hp
  have notT : ∀ {b : Addr} {o : Obj}, s1.heap.get? b = some o → o.data ≠ .fields #[] → b ∉ cs.map (·.2) := fun e n h => by
    cases e.symm.trans (tabOf h)
    exact n rfl
  have aNot : a ∉ cs.map (·.2) := notT ha fun z => by cases z
  -- the run, from an H that tracks just these
  have main : ∀ H : Hp, (∀ b ∈ cs.map (·.2), H b = some (.tbl #[])) → (∀ b u, H b = some u → b ∉ cs.map (·.2) → b = a ∧ ∃ ob xs, u = .frz ob (.lst xs)) → SqL K H a (ns.map V.int) → HOk P w H s1.heap → (H a ≠ none → K.lookup a = none) →
      codeAny (model P w) callerA (.call (.ref fa) ⟨[.ref a], []⟩)
        (fun r s' => r = .ok (.ret (.bool true)) ∧ OldK s1.heap s'.heap ∧ s'.os = s1.os ∧ AllBare s'.gens) s1 := by
    intro H isT just seq ok hK
    have untracked : ∀ {b o}, s1.heap.get? b = some o → o.data ≠ .fields #[] → b ≠ a → H b = none := fun {b o} e n nb => by
      cases q : H b with
      | none => rfl
      | some u => exact absurd (just b u q (notT e n)).1 nb
    have noD : ∀ b o es ep, s1.heap.get? b = some o → o.data = .dict es ep → H b = none := fun b o es ep e d => untracked e (fun z => by rw [d] at z; cases z) fun z => by
      rw [z, ha] at e
      cases e
      cases d
    have kin : K.In (hidT s1.heap H) := fun b o e => hidT_get (KX b o e) (by
      by_cases hT : b ∈ cs.map (·.2)
      · obtain ⟨p, hp, rfl⟩ := atT hT
        rw [free p hp] at e
        cases e
      · cases q : H b with
        | none => rfl
        | some u =>
          have eb := (just b u q hT).1
          subst eb
          rw [hK (by rw [q]; simp)] at e
          cases e)
    have md : Mod K mg (hidT s1.heap H) := ⟨kin, hid_ns (noD _) hns, ⟨mb, hid_ns (noD _) hb, hbb⟩, by
      obtain ⟨mc, h1, h2⟩ := hlim
      exact ⟨mc, hid_ns (noD _) h1, h2⟩⟩
    have TB : ∀ p ∈ cs, LamX.TabB (hidT s1.heap H) mg p.1 p.2 := fun p hp => by
      have tp := tabs p hp
      refine ⟨?_, ?_, fun z => ?_⟩
      · obtain ⟨o, us, file, tf, flags, tg, inF, text, tt, e1, c1, d1, at11, rest⟩ := codes p hp
        refine ⟨o, us, file, tf, flags, tg, inF, text, tt, hidT_get e1 (untracked e1 (fun z => ?_) fun z => ?_), c1, d1, at11, rest⟩
        · rw [d1] at z
          cases z
          cases at11
        · rw [z, ha] at e1
          cases e1
          cases d1
      · obtain ⟨bm, ob, b1, b2, b3, b4, b5, b6⟩ := hbm
        refine ⟨bm, ob, b1, b2, fun q => ?_, fun q => ?_, hidT_get b3 (untracked b3 (fun z => by rw [b6] at z; cases z) fun z => ?_), b4, b5, b6⟩
        · obtain ⟨o, es, ep, e, d, _⟩ := hns
          rw [q, e] at b3
          cases b3
          cases d.symm.trans b6
        · rw [q, tp] at b3
          cases b3
          cases b6
        · rw [z, ha] at b3
          cases b3
          cases b6
      · obtain ⟨o, es, ep, e, d, _⟩ := hns
        rw [z, tp] at e
        cases e
        cases d
    have e0 : Env0 P w K mg (hidT s1.heap H) callerA [] s1 H :=
      ⟨rfl, md, fun b o e => of_hidT e, Nat.le_of_eq (hidT_size _ _), trivial, fun b hb => absurd hb List.not_mem_nil, ok, .of_eq hg⟩
    have run := (F _ kin (hid_ns (noD _) hns) TB).goes callerA [] s1 H ⟨[.ref a], []⟩ [.ref a] [.ref a] _ _ rfl hr e0 (hbind s1 (.ref a)) (.cons rfl .nil) (hsp H (fun p hp => isT _ (List.mem_map.mpr ⟨p, hp, rfl⟩)) seq)
    refine codeAny_mono run fun r s' h => ?_
    cases r with
    | error e => exact h.elim
    | ok fl =>
      cases fl with
      | next => exact h.elim
      | brk => exact h.elim
      | cont => exact h.elim
      | ret u =>
        obtain ⟨v, H', os, bare, un, ok', r', q⟩ := h
        have q' : v = .bl true := q
        subst q'
        obtain rfl : u = Value.bool true := r'
        have stays : ∀ b o, b ∉ cs.map (·.2) → s1.heap.get? b = some o → s'.heap.get? b = some o := fun b o nb e => by
          cases q : H b with
          | none => exact un.keep b o e q List.not_mem_nil List.not_mem_nil
          | some u =>
            obtain ⟨_, ob, xs, rfl⟩ := just b u q nb
            obtain ⟨e1, _⟩ := ok b _ q
            obtain ⟨e2, _⟩ := ok' b _ (un.frzs b ob _ q)
            cases e.symm.trans e1
            exact e2
        have grew : ∀ p ∈ cs, ∃ more : Array Value, s'.heap.get? p.2 = some { cls := .none, data := .fields more } := fun p hp => by
          obtain ⟨more, z⟩ := un.tbls p.2 #[] (isT _ (List.mem_map.mpr ⟨p, hp, rfl⟩))
          exact ⟨_, ok' p.2 _ z⟩
        refine ⟨rfl, ⟨fun b o e => ?_, fun b o e => ?_⟩, os, bare⟩
        · by_cases hT : b ∈ cs.map (·.2)
          · obtain ⟨p, hp, rfl⟩ := atT hT
            obtain ⟨more, hm⟩ := grew p hp
            cases e.symm.trans (tabs p hp)
            exact .inr (.inl ⟨((codes p hp).tab (tabs p hp)).isCodeTable, rfl, #[], more, rfl, by rw [Array.empty_append]; exact hm⟩)
          · exact .inl (stays b o hT e)
        · by_cases hT : b ∈ cs.map (·.2)
          · obtain ⟨p, hp, rfl⟩ := atT hT
            obtain ⟨more, hm⟩ := grew p hp
            exact ⟨_, hm⟩
          · exact ⟨o, stays b o hT e⟩
  have inT : ∀ {sc : Option (Addr × HO)} {b : Addr}, b ∈ cs.map (·.2) → entryH cs sc b = some (.tbl #[]) := fun h => if_pos h
  have okT : ∀ {H : Hp} {b : Addr} {u : HO}, b ∈ cs.map (·.2) → some (HO.tbl #[]) = some u → ObjOk P w H s1.heap b u := fun h z => by
    cases z
    exact tabOf h
  cases hk : K.lookup a with
  | some o =>
    have e := KX a o hk
    rw [ha] at e
    cases e
    have off : ∀ {b : Addr}, b ∉ cs.map (·.2) → entryH cs none b = none := fun h => if_neg h
    refine main (entryH cs none) (fun b h => inT h) (fun b u z h => ?_) (.inr ⟨_, vs.toArray, _, hk, rfl, rfl, rfl, ?_, ?_⟩) (fun b u z => ?_) fun z => absurd (off aNot) z
    · rw [off h] at z
      cases z
    · rw [List.size_toArray, lenV]
      exact hl
    · simpa using rv
    · by_cases hT : b ∈ cs.map (·.2)
      · rw [inT hT] at z
        exact okT hT z
      · rw [off hT] at z
        cases z
  | none =>
    let sc : Option (Addr × HO) := some (a, .frz { cls := .type "list", data := .seq vs.toArray } (.lst (ns.map V.int)))
    have atA : entryH cs sc a = some (.frz { cls := .type "list", data := .seq vs.toArray } (.lst (ns.map V.int))) := (if_neg aNot).trans (if_pos rfl)
    have off : ∀ {b : Addr}, b ∉ cs.map (·.2) → b ≠ a → entryH cs sc b = none := fun h n => (if_neg h).trans (if_neg n)
    refine main (entryH cs sc) (fun b h => inT h) (fun b u z h => ?_) (.inl (.inr ⟨_, atA⟩)) (fun b u z => ?_) fun _ => hk
    · by_cases hb : b = a
      · subst hb
        rw [atA] at z
        cases z
        exact ⟨rfl, _, _, rfl⟩
      · rw [off h hb] at z
        cases z
    · by_cases hT : b ∈ cs.map (·.2)
      · rw [inT hT] at z
        exact okT hT z
      · by_cases hb : b = a
        · subst hb
          rw [atA] at z
          cases z
          refine ⟨ha, ?_, vs, _, rv, ha⟩
          rw [List.length_map]
          exact hl
        · rw [off hT hb] at z
          cases z

/-- the goal that the head leaves, from the law's promise; xs: the defs of the text that make lambdas -/
theorem end_ofT {l : PySem.W.OpenLaw} {n k : Nat} {q : Program} {loose : List Str} {XP : (Str → Option Value) → Heap → Prop} {YP : World → Heap → Prop} {d : DefRec} {K : Params → PySem.W.Frag} {sp : PySem.W.Frag → List (Addr × Addr) → Sp} {x : Str} (xs : List Str)
    (hn : l.most = some n) (hn2 : n ≤ sizeLine) (hdf : d.params.defaults = []) (hr : Room k callerA) (hY : ∀ (w : World) (h : Heap), YP w h → (K w.params).In h)
    (hx : (xs.all fun y => ((recsOf q).find? fun e => e.name == y).isSome) = true)
    (F : ∀ (w : World) (mg : Str → Option Value) (fa : Addr) (h : Heap), (K w.params).In h → h.Ns mainGlobals mg → mg d.name = some (.ref fa) →
      ∃ (fd : FuncData) (cs : List (Addr × Addr)), (xs.map fun y => PySem.W.tabIn (K w.params) y) = cs.map some ∧ (∀ p ∈ cs, (K w.params).lookup p.2 = none) ∧ (∀ (s : Shared) (u : Value), BindsTo s fd ⟨[u], []⟩ [(x, u)]) ∧
        ∀ base : Heap, (K w.params).In base → base.Ns mainGlobals mg → (∀ p ∈ cs, LamX.TabB base mg p.1 p.2) → FnG l.prog w (K w.params) mg base CX0 k fa fd [x] (sp (K w.params) cs))
    (hsp : ∀ (K : PySem.W.Frag) (cs : List (Addr × Addr)) (H : Hp) (a : Addr) (ns : List Int), ns.length ≤ n → (∀ p ∈ cs, H p.2 = some (.tbl #[])) → SqL K H a (ns.map V.int) → sp K cs [.ref a] H (fun v _ => v = .bl true) fun _ _ _ => False) :
    PySem.W.WalkO q loose XP YP l.row.toRowW d [] (fun f vs => PySem.call f vs) := by
  refine Att.attach_call hn hdf fun w s₀ s₁ mg mb fa o pm cd doc a vs ns G Y ho hd hcd hmg hobj hints hlen hg => ?_
  have kin := hY w _ Y
  obtain ⟨fd, cs, hcs, free, hb, hF⟩ := F w mg fa _ kin G.T.g hmg
  have both : ∀ p ∈ cs, PySem.W.CodeHd s₁.heap p.1 p.2 ∧ s₁.heap.get? p.2 = some noCode := fun p hp => by
    have m : some p ∈ xs.map fun y => PySem.W.tabIn (K w.params) y := by
      rw [hcs]
      exact List.mem_map.mpr ⟨p, hp, rfl⟩
    obtain ⟨y, hy, e⟩ := List.mem_map.mp m
    obtain ⟨dr, hdr⟩ := Option.isSome_iff_exists.mp (List.all_eq_true.mp hx y hy)
    exact PySem.W.tab_of G.T kin hdr e
  exact call_lawT kin G.T.g G.T.b G.T.builtins G.T.nolimit hg (fun p hp => (both p hp).2) free (fun p hp => (both p hp).1) G.T.bmain hobj hints (Nat.le_trans hlen hn2) hr hF hb fun H hO hS => hsp _ cs H a ns hlen hO hS
end KU

set_option Elab.async false
set_option linter.all false
set_option maxRecDepth 100000
set_option maxHeartbeats 4000000
/-! The laws' draws: the mathematics and the heap that all of them share -/
namespace KU
open PySem PySem.Spec PyProof.Rows L2 Evl

def vints (ns : List Int) : List V := ns.map V.int
def dints (ns : List Int) : List PyData := ns.map PyData.int
theorem dp_ints {K : PySem.W.Frag} {H : Hp} : ∀ ns : List Int, DpAll K H (vints ns) (dints ns)
  | [] => .nil
  | n :: r => .cons (.int n) (dp_ints r)
theorem shaped_ints : ∀ ns : List Int, SeqAt.shaped (.list (dints ns)) = true := by
  intro ns
  have a : ∀ l : List Int, PyData.canLayAll0 (dints l) = true := by
    intro l
    induction l with
    | nil => rfl
    | cons n r ih => simpa [dints, PyData.canLayAll0, PyData.canLay0] using ih
  have b : ∀ l : List Int, PyData.depthAll (dints l) ≤ 1 := by
    intro l
    induction l with
    | nil => simp [dints, PyData.depthAll]
    | cons n r ih =>
      have z : PyData.depthAll (dints (n :: r)) = max (PyData.depth (.int n)) (PyData.depthAll (dints r)) := by simp [dints, PyData.depthAll]
      rw [z]
      have y : PyData.depth (.int n) ≤ 1 := by simp [PyData.depth]
      omega
  unfold SeqAt.shaped
  have c := b ns
  have d : PyData.depth (.list (dints ns)) ≤ 64 := by
    simp only [PyData.depth]
    omega
  simp only [PyData.canLay0, a ns, Bool.true_and, decide_eq_true d]
theorem eqv_empty (ns : List Int) : PyData.eqv (.list (dints ns)) (.list []) = decide (ns = []) := by
  cases ns with
  | nil => rfl
  | cons n r => simp [dints, PyData.eqv, PyData.eqvAll]

/-- nothing but what stands at P has changed -/
def But (P : Addr) (H H' : Hp) : Prop := ∀ b o, b ≠ P → H b = some o → H' b = some o
theorem But.refl (P : Addr) (H : Hp) : But P H H := fun _ _ _ h => h
theorem But.trans {P : Addr} {H H1 H2 : Hp} (a : But P H H1) (b : But P H1 H2) : But P H H2 := fun x o n h => b x o n (a x o n h)
theorem But.of_ex {P : Addr} {H H' : Hp} (e : Ex H H') : But P H H' := fun b o _ h => e b o h
theorem But.put {P : Addr} {H H' : Hp} {o : HO} (e : But P H H') : But P H (upd H' P o) := fun b u n h => by
  rw [upd_ne n]
  exact e b u n h
theorem But.ex {P : Addr} {H0 H H' : Hp} (e : Ex H0 H) (n : H0 P = none) (b : But P H H') : Ex H0 H' := fun a o h => b a o (fun z => by rw [z, n] at h; cases h) (e a o h)

/-- the draws' state at P: the cells at L, the next place s, what is left of a great cell -/
structure Pen (H : Hp) (P L : Addr) (ns : List Int) (s : Nat) (g : Int) : Prop where
  pen : H P = some (.lst [.ref L, .int s, .int g])
  cells : H L = some (.lst (vints ns))
  ne : L ≠ P
  few : ns.length ≤ 63
  left : 0 ≤ g
theorem Pen.mono {H H' : Hp} {P L : Addr} {ns : List Int} {s : Nat} {g : Int} (x : Ex H H') (p : Pen H P L ns s g) : Pen H' P L ns s g := ⟨x _ _ p.pen, x _ _ p.cells, p.ne, p.few, p.left⟩
/-- a number below m is drawn -/
def spDraw : Sp := fun vs H Q _ => ∃ (P L : Addr) (ns : List Int) (s : Nat) (g m : Int), vs = [.ref P, .int m] ∧ 0 < m ∧ m < 1000000000 ∧ Pen H P L ns s g ∧ s ≤ 100000 ∧
  ∀ (d : Nat) (s' : Nat) (g' : Int) (H' : Hp), (d : Int) < m → s' ≤ s + 1 → But P H H' → Pen H' P L ns s' g' → Q (.int d) H'
/-- one of some things (a list at l) is drawn -/
def spPick : Sp := fun vs H Q _ => ∃ (P L l : Addr) (ns : List Int) (xs : List V) (s : Nat) (g : Int), vs = [.ref P, .ref l] ∧ xs ≠ [] ∧ xs.length ≤ 1000 ∧ H l = some (.lst xs) ∧ l ≠ P ∧ Pen H P L ns s g ∧ s ≤ 100000 ∧
  ∀ (v : V) (s' : Nat) (g' : Int) (H' : Hp), v ∈ xs → s' ≤ s + 1 → But P H H' → Pen H' P L ns s' g' → Q v H'
/-- the state is made of the script -/
def spPen (K : PySem.W.Frag) : Sp := fun vs H Q _ => ∃ (a : Addr) (ns : List Int), vs = [.ref a] ∧ SqL K H a (vints ns) ∧ ns.length ≤ 63 ∧
  ∀ (P L : Addr) (ms : List Int) (H' : Hp), H P = none → Ex H H' → Pen H' P L ms 0 0 → Q (.ref P) H'

/-! ### readings of the built-ins that the draws ask -/
section
variable {K : PySem.W.Frag} {H : Hp}
def rInt1 : List V → Hp → VK → Prop := fun xs H Q => (∃ i, xs = [.int i] ∧ Q (.int i) H) ∨ ∃ k, xs = [.bl k] ∧ Q (.int (if k then 1 else 0)) H
def rAbs : List V → Hp → VK → Prop := fun xs H Q => ∃ i, xs = [.int i] ∧ Q (.int (if i < 0 then -i else i)) H
theorem rc_int (i : Int) : RC rInt1 [.int i] H (.int i) := fun H1 _ _ q => .inl ⟨i, rfl, q H1 (Ex.refl H1)⟩
theorem rc_bool (k : Bool) : RC rInt1 [.bl k] H (.int (if k then 1 else 0)) := fun H1 _ _ q => .inr ⟨k, rfl, q H1 (Ex.refl H1)⟩
theorem rc_abs (i : Int) : RC rAbs [.int i] H (.int (if i < 0 then -i else i)) := fun H1 _ _ q => ⟨i, rfl, q H1 (Ex.refl H1)⟩
theorem rv_neD {x y : V} {d e : PyData} (hd : ∀ H1, Ex H H1 → Dp K H1 x d) (he : ∀ H1, Ex H H1 → Dp K H1 y e) (sd : SeqAt.shaped d = true) (se : SeqAt.shaped e = true) : RV (rNeD K) x y H (.bl (!PyData.eqv d e)) :=
  fun H1 x1 _ q => ⟨d, e, hd H1 x1, he H1 x1, sd, se, q H1 (Ex.refl H1)⟩
end
/-! ### bounds -/
theorem bound_mix {m s : Int} (h0 : 0 ≤ m) (h1 : m < 2147483648) (h2 : 0 ≤ s) (h3 : s ≤ 100000) {a b c d : Int} (ha : 0 ≤ a) (ha' : a ≤ 10) (hb : 0 ≤ b) (hb' : b ≤ 1000000) (hc : 0 ≤ c) (hc' : c ≤ 10000000) (hd : 0 ≤ d) (hd' : d ≤ 1000000000) :
    0 ≤ m * (a * s + b) + c * s * s + d ∧ m * (a * s + b) + c * s * s + d < 18446744073709551616 := by
  have e1 : a * s ≤ 10 * 100000 := Int.mul_le_mul ha' h3 h2 (by omega)
  have e2 : 0 ≤ a * s := Int.mul_nonneg ha h2
  have e3 : m * (a * s + b) ≤ 2147483648 * 2000000 := Int.mul_le_mul (by omega) (by omega) (by omega) (by omega)
  have e4 : 0 ≤ m * (a * s + b) := Int.mul_nonneg h0 (by omega)
  have e5 : c * s ≤ 10000000 * 100000 := Int.mul_le_mul hc' h3 h2 (by omega)
  have e6 : 0 ≤ c * s := Int.mul_nonneg hc h2
  have e7 : c * s * s ≤ 1000000000000 * 100000 := Int.mul_le_mul (by omega) h3 h2 (by omega)
  have e8 : 0 ≤ c * s * s := Int.mul_nonneg e6 h2
  omega
end KU

set_option Elab.async false
set_option linter.all false
set_option maxRecDepth 100000
set_option maxHeartbeats 4000000
/-! Defs that make lambdas: entered where no repr is under way, their code object told; called; what stays though tables grow -/
namespace KU
open PySem PySem.Spec PyProof.Rows L2 Evl
/-- a def of the text by its body, where no repr is under way; its code is told -/
theorem FnG.bodyC {P : Program} {w : World} {K : PySem.W.Frag} {mg : Str → Option Value} {base : Heap} {x qual : Str} {st : Stmt} {f : Addr} {fd : FuncData} {N ps : List Str} {k : Nat} {sp : Sp}
    (F : Fun K x qual st f fd) (S : FnScope N ps (defScope st)) (many : ∀ vs H Q E, sp vs H Q E → vs.length = ps.length)
    (walk : ∀ (A : Around) (out : List Env) (s : Shared) (H : Hp) (vs : List V) (Q : VK) (E : XK), A.guards = some [] → Room k (A.deeper (envOfC qual (defScope st) s.heap.objs.size f fd.code)) → sp vs H Q E →
      ∃ t, PSs (cxOf CX0 P w K mg base N qual (defScope st) f fd.code A out s H E).nox (defBody st) t ∧ t { nx := fun _ H' => Q .non H', rt := Q } (start N vs) H) :
    FnG P w K mg base CX0 (k + 1) f fd ps sp := by
  obtain ⟨oc, od, kV, doc, pm, an, cdv, ct, osl, rfl, lk, hcd⟩ := F.ex
  refine ⟨many, fun A out s H args us vs Q E hg hr e0 hb r hsp => ?_⟩
  have small := many _ _ _ _ hsp
  have whole : K.In s.heap := e0.mod.kin.keeps fun b o e => (e0.bs b o e).1
  have lim : s.heap.NoLimit := e0.mod.nolimit.keeps fun b o e => (e0.bs b o e).1
  have kinds : ∀ y ∈ ps.zip us, (defScope st).names.lookup y.1 = some .local ∨ ((defScope st).names.lookup y.1 = some .cell ∧ ((cellsFrom (s.heap.objs.size + 1) (defScope st).names []).lookup y.1).isSome = true) := by
    rintro ⟨n, v⟩ hy
    rcases S.par n (List.of_mem_zip hy).1 with q | q
    · exact .inl q
    · exact .inr ⟨q, PySem.W.cellsFrom_some _ _ _ (.inl q)⟩
  refine codeAny_call_function hr.depth (whole _ _ lk) rfl S.co S.gen rfl (PySem.W.codeRec_of whole hcd) (hb _ _ _ _ ?_)
  refine wpAny_newFunctionEnv_cells S.kind kinds fun env he s1 x => ?_
  subst he
  refine ⟨lim.keeps x.toInCall.keep, codeAny_func ?_⟩
  obtain ⟨t, ht, hq⟩ := walk A out s H vs Q E hg (hr.deeper _) hsp
  have I : Inv (cxOf CX0 P w K mg base N qual (defScope st) f cdv A out s H E) [] (start N vs) H s1 := inv_start S hr.hd e0 small r x
  refine wpAny_mono (ht.nox.run [] s1 (start N vs) H _ I hq) (fun fl s2 h2 => ?_) fun e s2 h2 => h2
  have gives : ∀ {σ' : L2.St} {H' : Hp} {v : V} {u : Value}, Inv (cxOf CX0 P w K mg base N qual (defScope st) f cdv A out s H E) [] σ' H' s2 → RelV v u → Q v H' → CE out P w H s Q u s2 := fun J rv q => ⟨_, _, J.os, J.bare, J.base, J.hok, rv, q⟩
  cases fl with
  | ret u =>
    obtain ⟨v, σ', H', J, rv, q⟩ := h2
    exact gives J rv q
  | next =>
    obtain ⟨σ', H', J, q⟩ := h2
    exact gives (v := V.non) (u := Value.none) J rfl q
  | brk =>
    obtain ⟨_, _, _, q⟩ := h2
    exact q.elim
  | cont =>
    obtain ⟨_, _, _, q⟩ := h2
    exact q.elim
section
variable {X : Cx} {CX : CXT} {f : Addr} {k : Nat} {fd : FuncData} {ps : List Str} {sp : Sp} {E : XK} {x : Str} {p pos : Pos} {e : Expr} {es : List Expr} {t : TA}
theorem pe_callG (F : FnG X.prog X.w X.K X.mg X.base CX k f fd ps sp) (hgd : X.A.guards = some []) (hr : Room k X.A) (hg : Gl X x) (hm : X.mg x = some (.ref f)) (hk : PySem.W.keepIn X.K (.ref f) = true) (hb : Binds X.K fd ps []) (hx : Passes CX X E)
    (ha : PA X (e :: es) t) (hdb : (x == ("__debug__" : Str)) = false := by decide) (he : starEach (e :: es) X.env = (false, eval e X.env) :: starEach es X.env := by rfl) (hpl : (backTo pos (starEach es X.env)).any (·.1) = false := by rfl) :
    PE X (.Call (.Name x p) (e :: es) [] pos) (tCall sp [] E t) := by
  refine ⟨fun pins s σ H Q I h => ?_⟩
  refine wpAny_Call_Name_kw (ld_glob I hg hm ?_ hdb)
  refine PySem.W.callWith_K (h₀ := X.base) I.ok.mod.kin hk (thn (ha.run pos pins s σ H _ I h) fun us s1 ⟨vs, H1, I1, r, q⟩ => ⟨I1.kIn, ?_⟩) he hpl
  have q : sp (vs ++ []) H1 Q E := q
  rw [List.append_nil] at q
  have many : us.length = ps.length := by
    rw [← r.length]
    exact F.many _ _ _ _ q
  have b := hb s1 us I1.kIn (by rw [List.append_nil]; exact many)
  rw [List.append_nil] at b
  refine wpAny_call (codeAny_mono (F.goes X.A X.stack s1 H1 ⟨us, []⟩ us vs Q E hgd hr I1.env0 b r q) fun res s2 back => ?_)
  cases res with
  | error er => exact hx pins σ H1 s1 er s2 I1 back
  | ok fl =>
    cases fl with
    | ret u => exact I1.after back
    | next => exact back.elim
    | brk => exact back.elim
    | cont => exact back.elim
end

/-! ### all but the tables -/
abbrev ExT (H H' : Hp) : Prop := LamX.ExtN H H'
theorem exT {H H' : Hp} (x : Ex H H') : ExT H H' := LamX.ExtN.of x
theorem ext_lst {H H' : Hp} {a : Addr} {xs : List V} (x : ExT H H') (h : H a = some (.lst xs)) : H' a = some (.lst xs) := x _ _ h fun ps z => by cases z
theorem ext_tup {H H' : Hp} {a : Addr} {xs : List V} (x : ExT H H') (h : H a = some (.tup xs)) : H' a = some (.tup xs) := x _ _ h fun ps z => by cases z
theorem ext_ins {H H' : Hp} {a C dx : Addr} {fs : List (Str × V)} (x : ExT H H') (h : H a = some (.ins C dx fs)) : H' a = some (.ins C dx fs) := x _ _ h fun ps z => by cases z
theorem Pen.ext {H H' : Hp} {P L : Addr} {ns : List Int} {s : Nat} {g : Int} (x : ExT H H') (p : Pen H P L ns s g) : Pen H' P L ns s g := ⟨ext_lst x p.pen, ext_lst x p.cells, p.ne, p.few, p.left⟩
theorem tabs_ex {T : List (Addr × Str)} {H H' : Hp} (t : LamX.Tabs T H) (x : Ex H H') : LamX.Tabs T H' := t.ext x
end KU

set_option Elab.async false
set_option linter.all false
set_option maxRecDepth 100000
set_option maxHeartbeats 4000000
/-! A text's error classes in one record each; what evaluates to something with a property -/
namespace KU
open PySem PySem.Spec PyProof.Rows L2 Evl

/-! ### an error class of the text -/
structure Cl (P : Program) (w : World) (K : PySem.W.Frag) (mg : Str → Option Value) (base : Heap) (x : Str) (C : Addr) (fs : List Str) (sp : Sp) : Prop where
  oex : OexC K C
  exc : ExcC K C
  gC : mg x = some (.ref C)
  no : ∀ f ∈ fs, PySem.W.findIn K (.ref C) f = some none
  fn : ∃ (fI : Addr) (fd : FuncData), PySem.W.findIn K (.ref C) "__init__" = some (some (.ref fI)) ∧ PySem.W.typeIn K (.ref fI) = some (.type "function") ∧
    FnOk P w K mg base CX0 1 fI fd (("self" : Str) :: fs) sp ∧ Binds K fd (("self" : Str) :: fs) [] ∧
    ∀ (s : Shared) (a : Addr) (ws : List Value), ws.length = fs.length → BindsTo s fd ⟨[.ref a], fs.reverse.zip ws⟩ ((("self" : Str) :: fs).zip (.ref a :: ws.reverse))
section
variable {X : Cx} {x : Str} {C : Addr} {fs : List Str} {sp : Sp} {p pos : Pos} {e : Expr} {es : List Expr} {kws : List Keyword} {ta tk : TA}
theorem pe_cl (Z : Cl X.prog X.w X.K X.mg X.base x C fs sp) (hr : Room 2 X.A) (ha : PA X (e :: es) ta) (hg : Gl X x := by rfl) (hdb : (x == ("__debug__" : Str)) = false := by decide)
    (he : starEach (e :: es) X.env = (false, eval e X.env) :: starEach es X.env := by rfl) (hpl : (backTo pos (starEach es X.env)).any (·.1) = false := by rfl) :
    PE X (.Call (.Name x p) (e :: es) [] pos) (tErr C sp ta) := by
  obtain ⟨fI, fd, i1, i2, G, b, _⟩ := Z.fn
  exact pe_err Z.oex i1 i2 G hr b Z.gC ha hg hdb he hpl
theorem Vals.rev {zs : List V} {ws : List Value} (r : Vals zs ws) : Vals zs.reverse ws.reverse := by
  induction r with
  | nil => exact .nil
  | cons a _ ih =>
    rw [List.reverse_cons, List.reverse_cons]
    exact Vals.append ih (.cons a .nil)
theorem pe_clK (Z : Cl X.prog X.w X.K X.mg X.base x C fs sp) (hr : Room 2 X.A) (hk : PK X kws tk)
    (hall : (backToKw pos (keywordEach kws X.env)).all (·.1.isSome) = true := by rfl) (hks : (backToKw pos (keywordEach kws X.env)).filterMap (·.1) = fs.reverse := by rfl)
    (hg : Gl X x := by rfl) (hdb : (x == ("__debug__" : Str)) = false := by decide)
    (hpl : ((backTo pos (starEach [] X.env)).any (·.1) || (backToKw pos (keywordEach kws X.env)).any (·.1.isNone)) = false := by rfl) :
    PE X (.Call (.Name x p) [] kws pos) (tErrK C fs.reverse.length sp List.reverse tk) := by
  obtain ⟨fI, fd, i1, i2, G, _, b⟩ := Z.fn
  exact pe_errK (ks := fs.reverse) (gv := List.reverse) (gu := List.reverse) Z.oex i1 i2 G hr (fun s' a ws _ hl => b s' a ws (by rw [hl, List.length_reverse])) (fun r _ => Vals.rev r) Z.gC hk hall hks hg hdb hpl

/-! ### a class without an __init__ of its own -/
theorem run_bare {pins : List (Addr × Obj)} {σ : L2.St} {H : Hp} {s : Shared} {Q : VK} {us : List Value} {bmB : List Value} {B newId initId : String} (F : ExcBaseFacts B newId initId bmB) (q : PySem.W.excIn X.K C bmB newId = true)
    (I : Inv X pins σ H s) (small : us.length ≤ 1000) (hq : ∀ a, H a = none → Q (.ref a) (upd H a (exo a C none))) : wpAny (model X.prog X.w) X.A (call (.ref C) us) (EP X pins σ Q) X.xe s := by
  obtain ⟨bm, N, nm, qn, bs, hdct, sn, sub, ab, col, dd, k0, k1, k2, k3, k5, mN, hC, hN, hni, T⟩ := exc_obj I.kIn q
  refine wpAny_call_exc_subT F T hC hN hni (fun h' a hm => ?_) (by rw [sizeLine_eq]; omega)
  obtain ⟨t, ht, _, _⟩ := hm.there
  have n := I.hok.gone hm.new
  exact ⟨.ref a, upd H a (exo a C none), I.laidN hm.keeps hm.new n (exo_ok ht), rfl, hq a n⟩
/-- C(), C(e, ..) -/
def tBare (C : Addr) (ta : TA) : TE := fun σ H Q => ta σ H fun vs H1 => vs.length ≤ 1000 ∧ ∀ a, H1 a = none → Q (.ref a) (upd H1 a (exo a C none))
theorem pe_bare0 {bmB : List Value} {B newId initId : String} (F : ExcBaseFacts B newId initId bmB) (q : PySem.W.excIn X.K C bmB newId = true) (gC : X.mg x = some (.ref C)) (kC : PySem.W.keepIn X.K (.ref C) = true)
    (hg : Gl X x := by rfl) (hdb : (x == ("__debug__" : Str)) = false := by decide) : PE X (.Call (.Name x p) [] [] pos) (tBare C tNil) := by
  refine ⟨fun pins s σ H Q I h => ?_⟩
  refine wpAny_Call_Name_kw (ld_glob I hg gC ?_ hdb)
  exact PySem.W.callWith_K0 I.kIn kC (run_bare (us := []) F q I (Nat.zero_le _) h.2)
theorem pe_bare1 {bmB : List Value} {B newId initId : String} (F : ExcBaseFacts B newId initId bmB) (q : PySem.W.excIn X.K C bmB newId = true) (gC : X.mg x = some (.ref C)) (kC : PySem.W.keepIn X.K (.ref C) = true) (ha : PA X (e :: es) ta)
    (hg : Gl X x := by rfl) (hdb : (x == ("__debug__" : Str)) = false := by decide) (he : starEach (e :: es) X.env = (false, eval e X.env) :: starEach es X.env := by rfl)
    (hpl : (backTo pos (starEach es X.env)).any (·.1) = false := by rfl) : PE X (.Call (.Name x p) (e :: es) [] pos) (tBare C ta) := by
  refine ⟨fun pins s σ H Q I h => ?_⟩
  refine wpAny_Call_Name_kw (ld_glob I hg gC ?_ hdb)
  refine PySem.W.callWith_K (h₀ := X.base) I.ok.mod.kin kC (thn (ha.run pos pins s σ H _ I h) fun us s1 ⟨vs, H1, I1, r1, hz, q1⟩ => ⟨I1.kIn, ?_⟩) he hpl
  exact run_bare (us := us) F q I1 (by rw [← r1.length]; exact hz) q1
end

/-! ### what evaluates to something with a property -/
def EvP (te : TE) (σ : L2.St) (H : Hp) (P : V → Hp → Prop) : Prop := ∀ H1, Ex H H1 → ∀ Q : VK, (∀ v H2, Ex H1 H2 → P v H2 → Q v H2) → te σ H1 Q
def EvPA (ta : TA) (σ : L2.St) (H : Hp) (P : List V → Hp → Prop) : Prop := ∀ H1, Ex H H1 → ∀ Q : List V → Hp → Prop, (∀ vs H2, Ex H1 H2 → P vs H2 → Q vs H2) → ta σ H1 Q
def Up (P : V → Hp → Prop) : Prop := ∀ v H H', Ex H H' → P v H → P v H'
/-- the values have the properties, one by one -/
def Each (Ps : List (V → Hp → Prop)) (vs : List V) (H : Hp) : Prop := Paired (fun (P : V → Hp → Prop) v => P v H) Ps vs
theorem Each.up {Ps : List (V → Hp → Prop)} (u : ∀ P ∈ Ps, Up P) {vs : List V} {H H' : Hp} (e : Ex H H') (h : Each Ps vs H) : Each Ps vs H' := by
  unfold Each at h ⊢
  induction h with
  | nil => exact .nil
  | cons a _ ih => exact .cons (u _ (List.mem_cons_self ..) _ _ _ e a) (ih fun P hP => u P (List.mem_cons_of_mem _ hP))
theorem Each.app {Ps Qs : List (V → Hp → Prop)} {vs ws : List V} {H : Hp} (a : Each Ps vs H) (b : Each Qs ws H) : Each (Ps ++ Qs) (vs ++ ws) H := by
  unfold Each at a b ⊢
  induction a with
  | nil => exact b
  | cons x _ ih => exact .cons x ih
theorem Each.len {Ps : List (V → Hp → Prop)} {vs : List V} {H : Hp} (a : Each Ps vs H) : vs.length = Ps.length := (Paired.length a).symm
theorem Each.get {Ps : List (V → Hp → Prop)} {vs : List V} {H : Hp} (a : Each Ps vs H) : ∀ {i : Nat} {P : V → Hp → Prop}, Ps[i]? = some P → ∃ v, vs[i]? = some v ∧ P v H := by
  unfold Each at a
  induction a with
  | nil =>
    intro i P h
    simp at h
  | @cons P0 v0 _ _ h0 _ ih =>
    intro i P h
    cases i with
    | zero =>
      simp at h
      subst h
      exact ⟨v0, rfl, h0⟩
    | succ i =>
      obtain ⟨v, h1, h2⟩ := ih (i := i) (P := P) (by simpa using h)
      exact ⟨v, by simpa using h1, h2⟩
section
variable {σ : L2.St} {H : Hp} {ta te tb : TE} {tr : TA} {P P1 P2 P3 : V → Hp → Prop} {Ps Qs : List (V → Hp → Prop)} {v : V}
theorem EvP.of {te : TE} (h : Ev te σ H v) : EvP te σ H (fun u _ => u = v) := fun H1 e Q q => h H1 e Q fun H2 e2 => q v H2 e2 rfl
theorem ep_nil : EvPA tNil σ H (Each []) := fun H1 _ _ q => q [] H1 (Ex.refl H1) .nil
theorem ep_cons (u : Up P) (h : EvP te σ H P) (hr : EvPA tr σ H (Each Ps)) : EvPA (tCons te tr) σ H (Each (P :: Ps)) := fun H1 e Q q =>
  h H1 e _ fun v H2 e2 p => hr H2 (e.trans e2) _ fun vs H3 e3 ps => q _ H3 (e2.trans e3) (.cons (u _ _ _ e3 p) ps)
/-- a list of such -/
def IsL (Ps : List (V → Hp → Prop)) (v : V) (H : Hp) : Prop := ∃ (l : Addr) (xs : List V), v = .ref l ∧ H l = some (.lst xs) ∧ Each Ps xs H
def IsT (Ps : List (V → Hp → Prop)) (v : V) (H : Hp) : Prop := ∃ (l : Addr) (xs : List V), v = .ref l ∧ H l = some (.tup xs) ∧ Each Ps xs H
theorem up_isL (u : ∀ P ∈ Ps, Up P) : Up (IsL Ps) := fun v H H' e ⟨l, xs, h1, h2, h3⟩ => ⟨l, xs, h1, e _ _ h2, h3.up u e⟩
theorem up_isT (u : ∀ P ∈ Ps, Up P) : Up (IsT Ps) := fun v H H' e ⟨l, xs, h1, h2, h3⟩ => ⟨l, xs, h1, e _ _ h2, h3.up u e⟩
theorem ep_lst (u : ∀ P ∈ Ps, Up P) (h : EvPA tr σ H (Each Ps)) (small : Ps.length ≤ 100000) : EvP (tLst tr) σ H (IsL Ps) := fun H1 e Q q =>
  h H1 e _ fun vs H2 e2 ps => ⟨by rw [ps.len]; exact sz_of small, fun p hp => q _ _ (e2.trans (Ex.new hp)) ⟨p, vs, rfl, upd_same, ps.up u (Ex.new hp)⟩⟩
theorem ep_tup (u : ∀ P ∈ Ps, Up P) (h : EvPA tr σ H (Each Ps)) (small : Ps.length ≤ 100000) : EvP (tTup tr) σ H (IsT Ps) := fun H1 e Q q =>
  h H1 e _ fun vs H2 e2 ps => ⟨by rw [ps.len]; exact sz_of small, fun p hp => q _ _ (e2.trans (Ex.new hp)) ⟨p, vs, rfl, upd_same, ps.up u (Ex.new hp)⟩⟩
/-- two lists joined -/
theorem ep_cat (u1 : ∀ P ∈ Ps, Up P) (u2 : ∀ P ∈ Qs, Up P) (h1 : EvP ta σ H (IsL Ps)) (h2 : EvP tb σ H (IsL Qs)) (small : Ps.length + Qs.length ≤ 100000) : EvP (tOp rCat ta tb) σ H (IsL (Ps ++ Qs)) := fun H1 e Q q =>
  h1 H1 e _ fun v H2 e2 p1 => h2 H2 (e.trans e2) _ fun w H3 e3 p2 => by
    obtain ⟨l, xs, rfl, hl, ex⟩ := up_isL u1 v _ _ e3 p1
    obtain ⟨m, ys, rfl, hm, ey⟩ := p2
    refine ⟨l, m, xs, ys, rfl, rfl, hl, hm, by rw [ex.len, ey.len]; exact sz_of small, fun p hp => q _ _ ((e2.trans e3).trans (Ex.new hp)) ⟨p, xs ++ ys, rfl, upd_same, (ex.app ey).up ?_ (Ex.new hp)⟩⟩
    intro P hP
    rcases List.mem_append.mp hP with z | z
    · exact u1 P z
    · exact u2 P z
theorem s_asgP {D : Ends} {i : Nat} (h : EvP te σ H P) (k : ∀ v H1, Ex H H1 → P v H1 → D.nx (σ.set i (some v)) H1) : tAsg te (gName i) D σ H := h H (Ex.refl H) _ fun v H1 e p => k v H1 e p
theorem q_asgP {D : Ends} {tz : TS} {i : Nat} (h : EvP te σ H P) (k : ∀ v H1, Ex H H1 → P v H1 → tz D (σ.set i (some v)) H1) : tSeq (tAsg te (gName i)) tz D σ H := s_asgP (D := { D with nx := tz D }) h k
theorem s_retP {D : Ends} (h : EvP te σ H P) (k : ∀ v H1, Ex H H1 → P v H1 → D.rt v H1) : tRet te D σ H := h H (Ex.refl H) _ fun v H1 e p => k v H1 e p
theorem ep_var {i : Nat} (u : Up P) (h : σ[i]? = some (some v)) (p : P v H) : EvP (tVar i) σ H P := fun H1 e Q q => ⟨v, h, q v H1 (Ex.refl H1) (u _ _ _ e p)⟩
end

/-! ### own errors evaluate so -/
/-- an error of this class with these fields -/
def IsE (C : Addr) (fs : List (Str × V)) (v : V) (H : Hp) : Prop := ∃ e, v = .ref e ∧ ErrAt H e C fs
theorem up_isE (C : Addr) (fs : List (Str × V)) : Up (IsE C fs) := fun v H H' x ⟨e, h1, h2⟩ => ⟨e, h1, h2.mono x⟩
theorem up_eq (u : V) : Up (fun v _ => v = u) := fun _ _ _ _ h => h
section
variable {K : PySem.W.Frag} {σ : L2.St} {H : Hp} {ta tb : TE} {C : Addr} {f g : Str} {y z : V}
theorem made1 {H1 : Hp} {Q : VK} (T : OexC K C) (no : PySem.W.findIn K (.ref C) f = some none) (q : ∀ v H2, Ex H1 H2 → IsE C [(f, y)] v H2 → Q v H2) :
    ∀ a, H1 a = none → spI1 K f [.ref a, y] (upd H1 a (exo a C none)) (fun v H2 => v = .non ∧ Q (.ref a) H2) fun _ _ _ => False := fun a hn =>
  ⟨a, C, y, rfl, T, no, upd_same, fun dx hd ne => ⟨rfl, q _ _ (by
    have e1 : Ex H1 (upd H1 a (exo a C none)) := Ex.new hn
    have e2 : Ex (upd H1 a (exo a C none)) (upd (upd H1 a (exo a C none)) dx (exd dx [(f, y)])) := Ex.new hd
    exact (e1.trans e2).mut hn) ⟨a, rfl, .inl ⟨dx, upd_same, by rw [upd_ne ne]; exact upd_same⟩⟩⟩⟩
theorem made2 {H1 : Hp} {Q : VK} (T : OexC K C) (no : PySem.W.findIn K (.ref C) f = some none) (no2 : PySem.W.findIn K (.ref C) g = some none) (q : ∀ v H2, Ex H1 H2 → IsE C [(g, z), (f, y)] v H2 → Q v H2) :
    ∀ a, H1 a = none → spI2 K f g [.ref a, y, z] (upd H1 a (exo a C none)) (fun v H2 => v = .non ∧ Q (.ref a) H2) fun _ _ _ => False := fun a hn =>
  ⟨a, C, y, z, rfl, T, no, no2, upd_same, fun dx H' hd ne h1 h2 h3 => ⟨rfl, q _ _ (fun b o hb => by
    have n1 : b ≠ a := ne_of_none hb hn
    have n2 : b ≠ dx := fun e => by
      rw [e] at hb
      rw [upd_ne ne, hb] at hd
      cases hd
    rw [h3 b n1 n2, upd_ne n1]
    exact hb) ⟨a, rfl, .inl ⟨dx, h1, h2⟩⟩⟩⟩
theorem ep_err1 (T : OexC K C) (no : PySem.W.findIn K (.ref C) f = some none) (h : Ev ta σ H y) : EvP (tErr C (spI1 K f) (tCons ta tNil)) σ H (IsE C [(f, y)]) := fun H1 e Q q =>
  h H1 e _ fun H2 e2 => ⟨by show 1 ≤ 1000; decide, made1 T no fun v H3 e3 p => q v H3 (e2.trans e3) p⟩
theorem ep_err2 (T : OexC K C) (no : PySem.W.findIn K (.ref C) f = some none) (no2 : PySem.W.findIn K (.ref C) g = some none) (h : Ev ta σ H y) (h2 : Ev tb σ H z) :
    EvP (tErr C (spI2 K f g) (tCons ta (tCons tb tNil))) σ H (IsE C [(g, z), (f, y)]) := fun H1 e Q q =>
  h H1 e _ fun H2 e2 => h2 H2 (e.trans e2) _ fun H3 e3 => ⟨by show 2 ≤ 1000; decide, made2 T no no2 fun v H4 e4 p => q v H4 ((e2.trans e3).trans e4) p⟩
theorem ep_errK1 (T : OexC K C) (no : PySem.W.findIn K (.ref C) f = some none) (h : Ev ta σ H y) : EvP (tErrK C 1 (spI1 K f) List.reverse (tCons ta tNil)) σ H (IsE C [(f, y)]) := fun H1 e Q q =>
  h H1 e _ fun H2 e2 => ⟨rfl, by show 1 ≤ 1000; decide, made1 T no fun v H3 e3 p => q v H3 (e2.trans e3) p⟩
theorem ep_errK2 (T : OexC K C) (no : PySem.W.findIn K (.ref C) f = some none) (no2 : PySem.W.findIn K (.ref C) g = some none) (h2 : Ev tb σ H z) (h : Ev ta σ H y) :
    EvP (tErrK C 2 (spI2 K f g) List.reverse (tCons tb (tCons ta tNil))) σ H (IsE C [(g, z), (f, y)]) := fun H1 e Q q =>
  h2 H1 e _ fun H2 e2 => h H2 (e.trans e2) _ fun H3 e3 => ⟨rfl, by show 2 ≤ 1000; decide, made2 T no no2 fun v H4 e4 p => q v H4 ((e2.trans e3).trans e4) p⟩
theorem ep_bare {ta : TA} {vs : List V} (h : EvA ta σ H vs) (small : vs.length ≤ 1000) : EvP (tBare C ta) σ H (IsE C []) := fun H1 e Q q =>
  h H1 e _ fun H2 e2 => ⟨small, fun a hn => q _ _ (e2.trans (Ex.new hn)) ⟨a, rfl, .inr ⟨rfl, upd_same⟩⟩⟩
/-- e.f -/
theorem ev_errF {e : Addr} {fs : List (Str × V)} {v : V} (T : ExcC K C) (no : PySem.W.findIn K (.ref C) f = some none) (at_ : ErrAt H e C fs) (lk : fs.lookup f = some v) (h : Ev ta σ H (.ref e)) : Ev (tErrF K f ta) σ H v := fun H1 x Q q =>
  h H1 x _ fun H2 x2 => ⟨e, C, fs, v, rfl, T, no, at_.mono (x.trans x2), lk, q H2 x2⟩
/-- isinstance(e, D) -/
theorem rc_isErr {e : Addr} {fs : List (Str × V)} {c : V} {u : Value} {b : Bool} (T : ExcC K C) (k : ClsV c u) (at_ : ErrAt H e C fs) (hb : PySem.W.kitOne K (.ref C) u = some b) : RC (rIsErr K) [.ref e, c] H (.bl b) := fun H1 x _ q =>
  ⟨e, C, fs, c, u, b, rfl, k, T, at_.mono x, hb, q H1 (Ex.refl H1)⟩
theorem ev_isErr {e : Addr} {fs : List (Str × V)} {c : V} {u : Value} {b : Bool} (T : ExcC K C) (k : ClsV c u) (at_ : ErrAt H e C fs) (hb : PySem.W.kitOne K (.ref C) u = some b) (h : Ev ta σ H (.ref e)) : Ev (tCB (rIsErr K) (tCons ta (tCons (tC c) tNil))) σ H (.bl b) :=
  ev_cb (ea_cons h (ea_cons ev_c ea_nil)) (rc_isErr T k at_ hb)
end

/-! ### the __init__s -/
section
variable {K : PySem.W.Frag} {H : Hp} {Q : VK} {E : XK} {vs : List V}
theorem init1_reads {f : Str} {N : List Str} (hN : start N vs = vs.map some) (h : spI1 K f vs H Q E) : tOst K f (tVar 0) (tVar 1) { nx := fun _ H' => Q .non H', rt := Q } (start N vs) H := by
  obtain ⟨a, C, y, rfl, T, no, ha, k⟩ := h
  rw [hN]
  exact ⟨_, rfl, _, rfl, a, C, rfl, T, no, .inl ⟨ha, fun dx h1 h2 => k dx h1 h2⟩⟩
theorem init2_reads {f g : Str} {N : List Str} (hN : start N vs = vs.map some) (h : spI2 K f g vs H Q E) :
    tSeq (tOst K f (tVar 0) (tVar 1)) (tOst K g (tVar 0) (tVar 2)) { nx := fun _ H' => Q .non H', rt := Q } (start N vs) H := by
  obtain ⟨a, C, y, z, rfl, T, no, no2, ha, k⟩ := h
  rw [hN]
  refine ⟨_, rfl, _, rfl, a, C, rfl, T, no, .inl ⟨ha, fun dx h1 h2 => ?_⟩⟩
  refine ⟨_, rfl, _, rfl, a, C, rfl, T, no2, .inr ⟨dx, [(f, y)], upd_same, by rw [upd_ne h2]; exact upd_same, (by show 1 ≤ 900; decide), ?_⟩⟩
  refine k dx _ h1 h2 (by rw [upd_ne (Ne.symm h2)]; exact upd_same) upd_same fun b n1 n2 => ?_
  rw [upd_ne n2, upd_ne n1, upd_ne n2]
end
end KU

set_option Elab.async false
set_option linter.all false
set_option maxRecDepth 100000
set_option maxHeartbeats 4000000
/-! The facts of an error class of the text, by bundled checks over the written part -/
namespace KU
open PySem PySem.Spec PyProof.Rows L2 Evl
/-- what is looked up of an error class: the rest of it -/
def clB (K : PySem.W.Frag) (C fI : Addr) (cd : Value) (q : Str) (fs : List Str) : Bool :=
  PySem.W.findIn K (.ref C) "__setattr__" == some (some (.builtin "object.__setattr__")) && PySem.W.findIn K (.ref C) "__getattribute__" == some (some (.builtin "BaseException.__getattribute__")) &&
  PySem.W.findIn K (.ref C) "__getattr__" == some none && PySem.W.typeIn K (.ref fI) == some (.type "function") && PySem.W.codeIn K cd q && PySem.W.keepIn K (.ref fI) && PySem.W.keepIn K (.ref C) &&
  PySem.W.subIn K (.ref C) (.type "BaseException") == some true && PySem.W.typeIn K (.ref C) == some (.type "type") && PySem.W.hasDictIn K C && PySem.W.findIn K (.ref C) "__class__" == some (some (.builtin "object.__class__")) &&
  PySem.W.mroIn K C (.type "object") == some true && fs.all (fun f => PySem.W.findIn K (.ref C) f == some none)
def getB (K : PySem.W.Frag) : Bool := PySem.W.specialIn K (.builtin "object.__class__") "__get__" == some (some (.builtin "getset_descriptor.__get__")) && PySem.W.takesIn K (.builtin "object.__class__") == some true
structure ClF (K : PySem.W.Frag) (mg : Str → Option Value) (x q : Str) (st : Stmt) (C : Addr) (fs : List Str) : Prop where
  gC : mg x = some (.ref C)
  oex : OexC K C
  ga : PySem.W.findIn K (.ref C) "__getattribute__" = some (some (.builtin "BaseException.__getattribute__"))
  gg : PySem.W.findIn K (.ref C) "__getattr__" = some none
  hd : PySem.W.hasDictIn K C = true
  ha : PySem.W.findIn K (.ref C) "__class__" = some (some (.builtin "object.__class__"))
  hm : PySem.W.mroIn K C (.type "object") = some true
  no : ∀ f ∈ fs, PySem.W.findIn K (.ref C) f = some none
  fn : ∃ (fI : Addr) (fd : FuncData), PySem.W.findIn K (.ref C) "__init__" = some (some (.ref fI)) ∧ PySem.W.typeIn K (.ref fI) = some (.type "function") ∧ Fun K "__init__" q st fI fd
theorem clf_mk {K : PySem.W.Frag} {h : Heap} {mg : Str → Option Value} (X : K.In h) (G : h.Ns mainGlobals mg) {x q : Str} {st : Stmt} {fs : List Str} {C fI N : Addr} {nm qn : Str} {bs bm : List Value} {sn : List Str} {sub : List Value} {ab : Bool} {col : Option Bool}
    {dd : Option Addr} {m0 m1 m2 m3 m5 : Option Value} {oc kV dc pm cd ct : Value} {od an : Option Addr} {osl : Array (Option Value)}
    (aC : PySem.W.nsIn K mainGlobals x = some (some (.ref C))) (xL : K.lookup C = some (excClassObj nm qn C N bs bm true sn sub ab col dd m0 m1 m2 m3 m5 "ValueError.__new__")) (a1 : PySem.W.findIn K (.ref C) "__init__" = some (some (.ref fI)))
    (l1 : K.lookup fI = some ⟨oc, od, .func (PySem.W.fnOf "__init__" q (defArgs st) (defBody st) (defScope st) .none kV dc pm an cd ct), osl⟩) (hb : PySem.HandSPX.refsVE bm = true) (B : clB K C fI cd q fs = true) : ClF K mg x q st C fs := by
  unfold clB at B
  simp only [Bool.and_eq_true, beq_iff_eq, List.all_eq_true] at B
  obtain ⟨⟨⟨⟨⟨⟨⟨⟨⟨⟨⟨⟨b1, b2⟩, b3⟩, b4⟩, b5⟩, b6⟩, b7⟩, b8⟩, b9⟩, b10⟩, b11⟩, b12⟩, b13⟩ := B
  exact { gC := PySem.W.mg_of X G aC, oex := ⟨⟨nm, qn, N, bs, bm, sn, sub, ab, col, dd, m0, m1, m2, m3, m5, xL, hb⟩, b1, b8, b9, b7⟩, ga := b2, gg := b3, hd := b10, ha := b11, hm := b12, no := b13, fn := ⟨fI, _, a1, b4, fun_mk l1 b5 b6⟩ }
section
variable {P : Program} {w : World} {K : PySem.W.Frag} {mg : Str → Option Value} {base : Heap}
theorem exc_of {C : Addr} (gb : getB K = true) (ga : PySem.W.findIn K (.ref C) "__getattribute__" = some (some (.builtin "BaseException.__getattribute__"))) (gg : PySem.W.findIn K (.ref C) "__getattr__" = some none)
    (hs : PySem.W.subIn K (.ref C) (.type "BaseException") = some true) (hd : PySem.W.hasDictIn K C = true) (ha : PySem.W.findIn K (.ref C) "__class__" = some (some (.builtin "object.__class__"))) (hm : PySem.W.mroIn K C (.type "object") = some true) : ExcC K C := by
  unfold getB at gb
  simp only [Bool.and_eq_true, beq_iff_eq] at gb
  exact ⟨ga, gg, hs, hd, ha, gb.1, gb.2, hm⟩
/-- a class with one field, its __init__ being read -/
theorem cl1_of {x q f : Str} {st : Stmt} {C : Addr} (gb : getB K = true) (Z : ClF K mg x q st C [f]) (init : ∀ {fI : Addr} {fd : FuncData}, Fun K "__init__" q st fI fd → FnOk P w K mg base CX0 1 fI fd ["self", f] (spI1 K f))
    (bind : ∀ (kV doc pm : Value) (an : Option Addr) (cdv ct : Value) (us : List Value), us.length = (["self", f] : List Str).length → bindArgs (PySem.W.fnOf "__init__" q (defArgs st) (defBody st) (defScope st) .none kV doc pm an cdv ct) ⟨us, []⟩ = pure ((["self", f] : List Str).zip us))
    (bindk : ∀ (kV doc pm : Value) (an : Option Addr) (cdv ct a v : Value), bindArgs (PySem.W.fnOf "__init__" q (defArgs st) (defBody st) (defScope st) .none kV doc pm an cdv ct) ⟨[a], [(f, v)]⟩ = pure [(("self" : Str), a), (f, v)]) : Cl P w K mg base x C [f] (spI1 K f) := by
  obtain ⟨fI, fd, h1, h2, F⟩ := Z.fn
  refine ⟨Z.oex, exc_of gb Z.ga Z.gg Z.oex.exC Z.hd Z.ha Z.hm, Z.gC, Z.no, fI, fd, h1, h2, init F, F.binds bind, fun s a ws hl => ?_⟩
  obtain ⟨oc, od, kV, doc, pm, an, cdv, ct, osl, rfl, _, _⟩ := F.ex
  exact match ws, hl with | [v], _ => .of_eq (bindk _ _ _ _ _ _ _ _)
end
end KU

set_option Elab.async false
set_option linter.all false
set_option maxRecDepth 100000
set_option maxHeartbeats 4000000
/-! A caught error that is known behind its try -/
namespace KU
open PySem PySem.Spec PyProof.Rows L2 Evl

/-- at a: what was caught, an instance of cls, its dict at d -/
def hxo (a : Addr) (cls : Value) (d : Option Addr) : HO := .ext fun h => ∃ (o : Obj) (vs : Array Value), h.get? a = some o ∧ o.cls = cls ∧ o.dict = d ∧ o.data = .fields vs
theorem hxo_ok {P : Program} {w : World} {H : Hp} {h : Heap} {a : Addr} {cls : Value} {d : Option Addr} {o : Obj} {vs : Array Value} (he : h.get? a = some o) (hc : o.cls = cls) (hd : o.dict = d) (hv : o.data = .fields vs) : ObjOk P w H h a (hxo a cls d) :=
  ⟨⟨o, vs, he, hc, hd, hv⟩, ⟨_, he⟩, fun h1 h2 z k => by
    obtain ⟨o, vs, q, r⟩ := z
    exact ⟨o, vs, k _ q, r⟩⟩
theorem hxo_at {P : Program} {w : World} {H : Hp} {h : Heap} {a : Addr} {cls : Value} {d : Option Addr} (hok : HOk P w H h) (he : H a = some (hxo a cls d)) : ∃ (o : Obj) (vs : Array Value), h.get? a = some o ∧ o.cls = cls ∧ o.dict = d ∧ o.data = .fields vs := by
  have x : ObjOk P w H h a (.ext fun h => ∃ (o : Obj) (vs : Array Value), h.get? a = some o ∧ o.cls = cls ∧ o.dict = d ∧ o.data = .fields vs) := hok a _ he
  exact x.1
theorem track {X : Cx} {pins : List (Addr × Obj)} {σ : L2.St} {H : Hp} {s : Shared} {a : Addr} {o : HO} (I : Inv X pins σ H s) (n0 : X.s_0.heap.get? a = none) (na : H a = none) (nL : a ≠ X.env.locals)
    (nC : ∀ x c, X.env.cells.lookup x = some c → c ≠ a) (np : ∀ p ∈ X.pn ++ pins, p.1 ≠ a) (new : ObjOk X.prog X.w (upd H a o) s.heap a o) : Inv X pins σ (upd H a o) s := by
  have n1 : ∀ b u, X.s_0.heap.get? b = some u → b ≠ a := fun b u e z => by
    rw [z, n0] at e
    cases e
  refine ⟨I.ok, I.os, I.bare, ⟨I.base.keep, I.base.slot, fun b u e n hx => ?_, I.base.there, fun b xs e => ?_, fun b u xs e => ?_, fun b ps e => ?_⟩, I.loc, I.cell, ?_, fun x c e => ?_, fun p hp => ?_, I.hok.laidN (fun _ _ e => e) na new, I.len⟩
  · rw [upd_ne (n1 b u e)]
    exact I.base.free b u e n hx
  · have z := I.base.tups b xs e
    rw [upd_ne (ne_of_none z na)]
    exact z
  · have z := I.base.frzs b u xs e
    rw [upd_ne (ne_of_none z na)]
    exact z
  · obtain ⟨m, z⟩ := I.base.tbls b ps e
    exact ⟨m, by rw [upd_ne (ne_of_none z na)]; exact z⟩
  · rw [upd_ne (Ne.symm nL)]
    exact I.free
  · rw [upd_ne (nC x c e)]
    exact I.freeC x c e
  · obtain ⟨h1, h2, h3⟩ := I.pin p hp
    exact ⟨h1, by rw [upd_ne (np p hp)]; exact h2, h3⟩

/-- an error that has come down over the frames of X: where it stands, and where it does not -/
structure Lone (X : Cx) (pins : List (Addr × Obj)) (sI : Shared) (a : Addr) : Prop where
  frames : a ∉ frs X.stack
  loc : a ≠ X.env.locals
  fs : a ∉ X.fs
  here : sI.heap.get? a = none
  entry : X.s_0.heap.get? a = none
  pins : ∀ p ∈ X.pn ++ pins, p.1 ≠ a
section
variable {X : Cx} {pins : List (Addr × Obj)} {σ : L2.St} {H : Hp} {sI s : Shared} {a : Addr} {B h : Heap} {Z : Obj → Prop}
theorem lone_of (hs : X.stack = X.env :: X.outer) (hf : X.env.frame = some X.env.locals) (hex : X.ex = []) (I : Inv X pins σ H sI) (ground : ∀ b o, sI.heap.get? b = some o → b ∉ frs X.stack → B.get? b = some o)
    (fl : HandSPX.FlyingZ B X.stack a Z h) : Lone X pins sI a := by
  obtain ⟨oe, vs, he, _, hv⟩ := fl.there
  obtain ⟨_, nB, ff, _⟩ := fl
  have out : a ∉ frs X.stack := fun m => by
    obtain ⟨_, o, e, k⟩ := ff.mem m
    cases he.symm.trans e
    exact k _ hv
  have none1 : sI.heap.get? a = none := Option.eq_none_iff_forall_ne_some.mpr fun o e => by
    cases nB.symm.trans (ground a o e out)
  refine ⟨out, fun z => out ?_, fun m => out ?_, none1, Option.eq_none_iff_forall_ne_some.mpr fun o e => ?_, fun p hp z => ?_⟩
  · rw [hs, z]
    exact List.mem_filterMap.mpr ⟨X.env, List.mem_cons_self, hf⟩
  · obtain ⟨en, h1, h2⟩ := List.mem_filterMap.mp m
    rw [hs]
    exact List.mem_filterMap.mpr ⟨en, List.mem_cons_of_mem _ h1, h2⟩
  · obtain ⟨u, q⟩ := I.base.there a o e (by rw [hex]; exact List.not_mem_nil)
    cases none1.symm.trans q
  · have q := (I.pin p hp).1
    rw [z, none1] at q
    cases q
/-- a suite's state, as one of the def with a pin more -/
theorem unpin {oe : Obj} (ok : X.Ok) (S : Inv (X.suite a ((a, oe) :: (X.pn ++ pins))) [] σ H s) : Inv X ((a, oe) :: pins) σ H s := by
  refine { ok := ok, os := S.os, bare := S.bare, base := S.base, loc := S.loc, cell := S.cell, free := S.free, freeC := S.freeC, hok := S.hok, len := S.len, pin := fun p hp => S.pin p (List.mem_append_left _ ?_) }
  rcases List.mem_append.mp hp with m | m
  · exact List.mem_cons_of_mem _ (List.mem_append_left _ m)
  · rcases List.mem_cons.mp m with rfl | m
    · exact List.mem_cons_self
    · exact List.mem_cons_of_mem _ (List.mem_append_right _ m)
theorem drop_pin {q : Addr × Obj} (I : Inv X (q :: pins) σ H s) : Inv X pins σ H s := by
  refine { ok := I.ok, os := I.os, bare := I.bare, base := I.base, loc := I.loc, cell := I.cell, free := I.free, freeC := I.freeC, hok := I.hok, len := I.len, pin := fun p hp => I.pin p ?_ }
  rcases List.mem_append.mp hp with m | m
  · exact List.mem_append_left _ m
  · exact List.mem_append_right _ (List.mem_cons_of_mem _ m)
/-- a pinned error is known from now on -/
theorem know_pin {oe : Obj} {vs : Array Value} {cls : Value} {d : Option Addr} (L : Lone X pins sI a) (hz : Zc cls d oe) (hv : oe.data = .fields vs) (I : Inv X ((a, oe) :: pins) σ H s) : H a = none ∧ Inv X pins σ (upd H a (hxo a cls d)) s := by
  obtain ⟨p1, p2, _, _, p5⟩ := I.pin (a, oe) (List.mem_append_right _ List.mem_cons_self)
  refine ⟨p2, track (drop_pin I) L.entry p2 L.loc (fun x c e z => ?_) L.pins (hxo_ok p1 hz.1 hz.2 hv)⟩
  obtain ⟨v, o, ho, hc⟩ := I.cell x c e
  rw [z] at ho
  cases (show s.heap.get? a = some oe from p1).symm.trans ho
  exact p5 v hc
end
/-- what the clause 'except x as n' (slot i) wishes of errors that it takes: behind it the error is known -/
def wAsK (K : PySem.W.Frag) (c : Value) (i : Nat) (ts : Addr → Value → Option Addr → TS) (D : Ends) : WX := fun cls d σ H => PySem.W.exmOne K cls c = some true ∧
  ∀ a, H a = none → ts a cls d { nx := fun τ G => G a = none → D.nx (τ.set i none) (upd G a (hxo a cls d)), rt := D.rt, bk := fun τ G => D.bk (τ.set i none) G, ct := fun τ G => D.ct (τ.set i none) G } (σ.set i (some (.ref a))) H
section
variable {X : Cx} {x n : Str} {c : Value} {i : Nat} {body suite : List Stmt} {b₀ : Stmt} {np pos pos' : Pos} {tb : WX → TS} {ts : Addr → Value → Option Addr → TS}
/-- the suite, entered on the ground; behind it the name goes -/
theorem suite_run {pins : List (Addr × Obj)} {σ : L2.St} {H : Hp} {sI s : Shared} {a : Addr} {oe : Obj} {vs : Array Value} {cls : Value} {d : Option Addr} {D : Ends} {E1 E2 : Value → Shared → Prop} (hN : X.N.Nodup) (hi : X.N[i]? = some n) (hln : X.env.kindOf n = some .local)
    (L : Lone X pins sI a) (hz : Zc cls d oe) (hv : oe.data = .fields vs) (he : s.heap.get? a = some oe) (na : H a = none) (I : Inv X pins σ H s) (S : PSs (X.suite a ((a, oe) :: (X.pn ++ pins))) (b₀ :: suite) (ts a cls d))
    (w : ts a cls d { nx := fun τ G => G a = none → D.nx (τ.set i none) (upd G a (hxo a cls d)), rt := D.rt, bk := fun τ G => D.bk (τ.set i none) G, ct := fun τ G => D.ct (τ.set i none) G } (σ.set i (some (.ref a))) H) :
    wpAny (model X.prog X.w) (X.A.mark (some (.ref a))) (storeName X.env n (.ref a)) (fun _ s1 => wpAny (model X.prog X.w) (X.A.mark (some (.ref a))) (execs (b₀ :: suite) X.env)
      (fun f s2 => wpAny (model X.prog X.w) X.A (do bindName X.env n .none; unbindBehindTheSuite X.env n pos') (fun _ s3 => SP X pins D f s3) X.xe s2) E1 s1) E2 s := by
  have T0 := I.suite he hv na L.loc L.fs
  refine store_ok (X := X.suite a ((a, oe) :: (X.pn ++ pins))) (v := .ref a) T0 hN hi (.inl hln) rfl (fun s1 T1 => ?_) (.inr hln)
  refine wpAny_mono (S.run [] s1 _ H _ T1 w) (fun f s2 r => ?_) fun _ _ z => False.elim z
  have goes : ∀ {τ : L2.St} {G : Hp} {R : Shared → Prop}, Inv (X.suite a ((a, oe) :: (X.pn ++ pins))) [] τ G s2 → (∀ s3, Inv X ((a, oe) :: pins) (τ.set i none) G s3 → R s3) →
      wpAny (model X.prog X.w) X.A (do bindName X.env n .none; unbindBehindTheSuite X.env n pos') (fun _ s3 => R s3) X.xe s2 := fun T2 k => gone_ok (unpin I.ok T2) hN hi hln k
  cases f with
  | next =>
    obtain ⟨τ, G, T2, q⟩ := r
    refine goes T2 fun s3 J => ?_
    obtain ⟨n1, J2⟩ := know_pin L hz hv J
    exact ⟨_, _, J2, q n1⟩
  | ret u =>
    obtain ⟨v, τ, G, T2, rv, q⟩ := r
    exact goes T2 fun s3 J => ⟨v, _, _, drop_pin J, rv, q⟩
  | brk =>
    obtain ⟨τ, G, T2, q⟩ := r
    exact goes T2 fun s3 J => ⟨_, _, drop_pin J, q⟩
  | cont =>
    obtain ⟨τ, G, T2, q⟩ := r
    exact goes T2 fun s3 J => ⟨_, _, drop_pin J, q⟩
/-- try: body / except x as n: suite, where the clause takes whatever comes -/
theorem ps_try_asK (hs : X.stack = X.env :: X.outer) (hf : X.env.frame = some X.env.locals) (hex : X.ex = []) (hN : X.N.Nodup) (hi : X.N[i]? = some n) (hln : X.env.kindOf n = some .local) (hc : Names X x c)
    (hb : ∀ (W : WX) (pn : List (Addr × Obj)) (xe : Value → Shared → Prop), Takes (X.tr pn xe) W → PSs (X.tr pn xe) body (tb W))
    (hsu : ∀ (a : Addr) (oe : Obj) (cls : Value) (d : Option Addr) (pn : List (Addr × Obj)), PSs (X.suite a ((a, oe) :: pn)) (b₀ :: suite) (ts a cls d)) :
    PS X (.Try body [.ExceptHandler (some (.Name x np)) (some n) (b₀ :: suite) pos'] [] [] pos) (fun D σ H => tb (wAsK X.K c i ts D) D σ H) := by
  refine ⟨fun pins s σ H D I h => wpAny_Try_except ?_⟩
  have frm : X.A.frames = some (X.env :: X.outer) := by rw [I.ok.frames, hs]
  refine wpAny_mono ((hb (wAsK X.K c i ts D) (X.pn ++ pins) _ fun u s1 air => ?_).run [] s σ H D (I.toTry fun e s1 => wpAny (model X.prog X.w) X.A (noteFrame e X.env) (fun _ s2 => wpAny (model X.prog X.w) X.A (setFlight e none) (fun _ s3 =>
      wpAny (model X.prog X.w) X.A (handleBy e X.env [.ExceptHandler (some (.Name x np)) (some n) (b₀ :: suite) pos']) (SP X pins D) X.xe s3) X.xe s2) X.xe s1) h) (fun f s1 r => ?_) fun _ _ z => z
  · obtain ⟨a, B, sI, pins', τ, G, cls, d, rfl, J0, ground, up, sky, na, os, bare, takes, run⟩ := air
    have J := J0.ofTry I.ok
    have sky : Sky B (X.env :: X.outer) a (Zc cls d) X.env.locals s1.heap := by
      rw [← hs]
      exact sky
    refine (?_ : wpAny (model X.prog X.w) X.A (noteFrame (.ref a) X.env) _ _ s1)
    refine Sky.land Zc.steady frm hf sky fun h2 fl2 up2 => ?_
    have L : Lone X pins sI a := lone_of (h := h2) hs hf hex J ground (by rw [hs]; exact fl2)
    have J2 : Inv X pins τ G { s1 with heap := h2 } := J.landed ground fl2.1 (up.trans up2) os bare
    obtain ⟨o2, v2, e2, z2, d2⟩ := fl2.there
    have S2 := J2.suite e2 d2 na L.loc L.fs
    refine wpAny_handleBy_cons (codeAny_handlers_test ?_) fun q => nomatch q
    have cl : PySem.W.Looks (model X.prog X.w) h2 (typeOf (.ref a)) cls := fun _ _ _ _ k q => wpAny_typeOf_ref (k _ _ e2) (by rw [z2.1]; exact q)
    have name : ∀ {R E : Value → Shared → Prop}, R c { s1 with heap := h2 } → wpAny (model X.prog X.w) (X.A.mark (some (.ref a))) (eval (.Name x np) X.env) R E { s1 with heap := h2 } := fun q => by
      obtain ⟨g1, g2, g3 | ⟨g3, g4, g5⟩⟩ := hc
      · exact ld_glob (X := X.suite a ((a, o2) :: (X.pn ++ pins))) S2 g1 g3 q g2
      · exact ld_blt (X := X.suite a ((a, o2) :: (X.pn ++ pins))) S2 g1 g3 g4 q g5 g2
    refine name ((PySem.W.exm_one (M := model X.prog X.w) J2.kIn cl takes).here ?_)
    refine codeAny_handlers_suite_as (HandSPX.lands_againZ fl2 fun h3 fl3 up3 => ?_)
    have J3 : Inv X pins τ G { s1 with heap := h3 } := J.landed ground fl3.1 ((up.trans up2).trans up3) os bare
    obtain ⟨o3, v3, e3, z3, d3⟩ := fl3.there
    exact suite_run hN hi hln L z3 d3 e3 na J3 (hsu a o3 cls d _) (run a na)
  · cases f with
    | next =>
      obtain ⟨τ, G, J, q⟩ := r
      exact wpAny_execs_nil ⟨τ, G, J.ofTry I.ok, q⟩
    | ret u =>
      obtain ⟨v, τ, G, J, rv, q⟩ := r
      exact ⟨v, τ, G, J.ofTry I.ok, rv, q⟩
    | brk =>
      obtain ⟨τ, G, J, q⟩ := r
      exact ⟨τ, G, J.ofTry I.ok, q⟩
    | cont =>
      obtain ⟨τ, G, J, q⟩ := r
      exact ⟨τ, G, J.ofTry I.ok, q⟩
end

/-! ### its class and its fields -/
/-- a caught error at a: of the class at C, its fields fs -/
def CauAt (H : Hp) (a C : Addr) (fs : List (Str × V)) : Prop := ∃ d, H a = some (hxo a (.ref C) (some d)) ∧ H d = some (.xd fs)
theorem CauAt.mono {H H' : Hp} {a C : Addr} {fs : List (Str × V)} (x : Evl.Ex H H') (h : CauAt H a C fs) : CauAt H' a C fs := by
  obtain ⟨d, h1, h2⟩ := h
  exact ⟨d, x _ _ h1, x _ _ h2⟩
section
variable {X : Cx} {pins : List (Addr × Obj)} {σ : L2.St} {H : Hp} {s : Shared} {e : Expr} {te : TE} {f : Str} {pos : Pos}
theorem cau_inst {a C : Addr} {fs : List (Str × V)} (I : Inv X pins σ H s) (h : CauAt H a C fs) : ∃ (o od : Obj) (d : Addr) (mA : Str → Option Value), PySem.W.InstAt s.heap a o C (some od) ∧ s.heap.Ns1 d mA ∧ s.heap.get? d = some od ∧
    (∀ f, RelO (fs.lookup f) (mA f)) ∧ ∀ f, PySem.W.lookIn f od = some (mA f) := by
  obtain ⟨d, h1, h2⟩ := h
  obtain ⟨o, vs, ho, hc, hd, hv⟩ := hxo_at I.hok h1
  have hx : ObjOk X.prog X.w H s.heap d (.xd fs) := I.hok d _ h2
  obtain ⟨mA, hns, rel⟩ := hx
  obtain ⟨od, hod, hlk⟩ := lookIn_ns hns
  exact ⟨o, od, d, mA, ⟨ho, hc, by unfold PySem.W.notCls; rw [hv] <;> rfl, by rw [hd]; exact hod⟩, hns, hod, rel, hlk⟩
/-- e.f of a caught error -/
def tCauF (K : PySem.W.Frag) (f : Str) (te : TE) : TE := fun σ H Q => te σ H fun x H1 => ∃ (a C : Addr) (fs : List (Str × V)) (v : V), x = .ref a ∧ ExcC K C ∧ PySem.W.findIn K (.ref C) f = some none ∧
  CauAt H1 a C fs ∧ fs.lookup f = some v ∧ Q v H1
theorem pe_cauF (he : PE X e te) (hb : attributeBase e f X.env (eval e X.env) = eval e X.env := by rfl) : PE X (.Attribute e f pos) (tCauF X.K f te) := by
  refine ⟨fun pins s σ H Q I h => ?_⟩
  refine attr_of hb (thn (he.run pins s σ H _ I h) fun u s1 ⟨x, H1, I1, rx, a, C, fs, v, ex, T, no, at_, lk, q⟩ => ?_)
  subst ex
  obtain rfl : u = Value.ref a := rx
  obtain ⟨o, od, d, mA, J, hns, hod, rel, hlk⟩ := cau_inst I1 at_
  obtain ⟨y, hy, ry⟩ := RelO.some_of (v := v) (o := mA f) (by rw [← lk]; exact rel f)
  exact HandSPX.exc_get I1.kIn J T.hg T.hk T.hs (PySem.W.findObj_own T.hd no rfl (by rw [hlk, hy])) (handed_of ry) ⟨v, H1, I1.tok _, ry, q⟩
/-- isinstance(e, c), e a caught error -/
def rIsCau (K : PySem.W.Frag) : List V → Hp → VK → Prop := fun xs H Q => ∃ (a C : Addr) (fs : List (Str × V)) (c : V) (u : Value) (b : Bool), xs = [.ref a, c] ∧ ClsV c u ∧ ExcC K C ∧ CauAt H a C fs ∧
  PySem.W.kitOne K (.ref C) u = some b ∧ Q (.bl b) H
theorem call_isCau : CallR X (.builtin "isinstance") (rIsCau X.K) := by
  intro pins s σ H xs us Q I r h
  obtain ⟨a, C, fs, c, w, b, rfl, k, T, at_, e, q⟩ := h
  obtain ⟨u1, u2, rfl, r1, r2⟩ := vals2 r
  obtain rfl : u1 = Value.ref a := r1
  have e2 := k.eq r2
  subst e2
  have hc : (PySem.W.clsIn X.K C).isSome = true := by
    have z := T.hd
    unfold PySem.W.hasDictIn at z
    cases q : PySem.W.clsIn X.K C with
    | none =>
      rw [q] at z
      cases z
    | some cd => rfl
  have fin : ∀ tk, EP X pins σ Q (.bool b) { s with toks := tk } := fun tk => ⟨.bl b, H, I.tok tk, rfl, q⟩
  obtain ⟨o, od, d, mA, J, hns, hod, rel, hlk⟩ := cau_inst I at_
  exact PySem.W.kia_one (PySem.W.kitx_exc hc T.hg T.hk T.hs T.ha T.hn T.ht T.hm) I.kIn J e (fun z => nomatch z) fin
end
section
variable {K : PySem.W.Frag} {σ : L2.St} {H : Hp} {ta : TE} {f : Str}
theorem ev_cauF {e C : Addr} {fs : List (Str × V)} {v : V} (T : ExcC K C) (no : PySem.W.findIn K (.ref C) f = some none) (at_ : CauAt H e C fs) (lk : fs.lookup f = some v) (h : Ev ta σ H (.ref e)) : Ev (tCauF K f ta) σ H v := fun H1 x Q q =>
  h H1 x _ fun H2 x2 => ⟨e, C, fs, v, rfl, T, no, at_.mono (x.trans x2), lk, q H2 x2⟩
theorem ev_isCau {e C : Addr} {fs : List (Str × V)} {c : V} {u : Value} {b : Bool} (T : ExcC K C) (k : ClsV c u) (at_ : CauAt H e C fs) (hb : PySem.W.kitOne K (.ref C) u = some b) (h : Ev ta σ H (.ref e)) : Ev (tCB (rIsCau K) (tCons ta (tCons (tC c) tNil))) σ H (.bl b) :=
  ev_cb (ea_cons h (ea_cons ev_c ea_nil)) fun H1 x _ q => ⟨e, C, fs, c, u, b, rfl, k, T, at_.mono x, hb, q H1 (Ex.refl H1)⟩
end
/-! ### an own error raised -/
section
variable {X : Cx} {x : Str} {C : Addr} {f : Str} {p pos pos2 : Pos} {e : Expr} {ta : TA} {W : WX}
/-- raise C(e), C with one field -/
def tRaise1 (K : PySem.W.Frag) (C : Addr) (f : Str) (W : WX) (ta : TA) : TS := fun _ σ H => tMkO C (spI1 K f) [] ta σ H fun cls d H' => W cls d σ H'
theorem ps_raise1 (hc : X.calm = true) (tk : Takes X W) (Z : Cl X.prog X.w X.K X.mg X.base x C [f] (spI1 X.K f)) (hr : Room 2 X.A) (ha : PA X [e] ta) (hg : Gl X x := by rfl) (hdb : (x == ("__debug__" : Str)) = false := by decide)
    (he : starEach [e] X.env = (false, eval e X.env) :: starEach [] X.env := by rfl) (hpl : (backTo pos (starEach [] X.env)).any (·.1) = false := by rfl) :
    PS X (.Raise (some (.Call (.Name x p) [e] [] pos)) none pos2) (tRaise1 X.K C f W ta) := by
  obtain ⟨fI, fd, i1, i2, G, b, _⟩ := Z.fn
  exact ps_raise (pos := pos2) hc tk (pmk_oex (CX := CX0) (dvs := []) (ds := []) (pos := pos) (p := p) Z.oex i1 i2 G hr b .nil pass0 hg Z.gC ha hdb he hpl)
theorem s_raise1 {K : PySem.W.Frag} {σ : L2.St} {H : Hp} {D : Ends} {v : V} (T : OexC K C) (no : PySem.W.findIn K (.ref C) f = some none) (h : EvA ta σ H [v])
    (k : ∀ d H2, Ex H H2 → H2 d = some (.xd [(f, v)]) → W (.ref C) (some d) σ H2) : tRaise1 K C f W ta D σ H := by
  unfold tRaise1 tMkO
  refine h H (Ex.refl _) _ fun H1 x1 => ⟨(by show 1 ≤ 1000; decide), fun a hn => ⟨a, C, v, rfl, T, no, upd_same, fun dx hd ne => ⟨rfl, dx, [(f, v)], upd_same, by rw [upd_ne ne]; exact upd_same, ?_, ?_⟩⟩⟩
  · rw [upd_ne ne] at hd
    exact hd
  · rw [upd_ne ne] at hd
    refine k dx _ (fun b o e => ?_) upd_same
    have e := x1 b o e
    have n1 : b ≠ dx := ne_of_none e hd
    have n2 : b ≠ a := ne_of_none e hn
    rw [upd_ne n1, del_ne n2, upd_ne n2, upd_ne n1, upd_ne n2]
    exact e
end
end KU

set_option Elab.async false
set_option linter.all false
set_option maxRecDepth 100000
set_option maxHeartbeats 4000000
/-! Errors of two fields raised; more facts of their classes -/
namespace KU
open PySem PySem.Spec PyProof.Rows L2 Evl
section
variable {X : Cx} {x : Str} {C : Addr} {f g : Str} {p pos pos2 : Pos} {e e2 : Expr} {ta : TA} {W : WX}
/-- raise C(e, e2), C with two fields -/
def tRaise2 (K : PySem.W.Frag) (C : Addr) (f g : Str) (W : WX) (ta : TA) : TS := fun _ σ H => tMkO C (spI2 K f g) [] ta σ H fun cls d H' => W cls d σ H'
theorem ps_raise2 (hc : X.calm = true) (tk : Takes X W) (Z : Cl X.prog X.w X.K X.mg X.base x C [f, g] (spI2 X.K f g)) (hr : Room 2 X.A) (ha : PA X [e, e2] ta) (hg : Gl X x := by rfl) (hdb : (x == ("__debug__" : Str)) = false := by decide)
    (he : starEach [e, e2] X.env = (false, eval e X.env) :: starEach [e2] X.env := by rfl) (hpl : (backTo pos (starEach [e2] X.env)).any (·.1) = false := by rfl) :
    PS X (.Raise (some (.Call (.Name x p) [e, e2] [] pos)) none pos2) (tRaise2 X.K C f g W ta) := by
  obtain ⟨fI, fd, i1, i2, G, b, _⟩ := Z.fn
  exact ps_raise (pos := pos2) hc tk (pmk_oex (CX := CX0) (dvs := []) (ds := []) (pos := pos) (p := p) Z.oex i1 i2 G hr b .nil pass0 hg Z.gC ha hdb he hpl)
theorem s_raise2 {K : PySem.W.Frag} {σ : L2.St} {H : Hp} {D : Ends} {v w : V} (T : OexC K C) (no : PySem.W.findIn K (.ref C) f = some none) (no2 : PySem.W.findIn K (.ref C) g = some none) (h : EvA ta σ H [v, w])
    (k : ∀ d H2, Ex H H2 → H2 d = some (.xd [(g, w), (f, v)]) → W (.ref C) (some d) σ H2) : tRaise2 K C f g W ta D σ H := by
  unfold tRaise2 tMkO
  refine h H (Ex.refl H) _ fun H1 x1 => ⟨(by show 2 ≤ 1000; decide), fun a hn => ⟨a, C, v, w, rfl, T, no, no2, upd_same, fun dx H' hd ne h1 h2 h3 => ⟨rfl, dx, [(g, w), (f, v)], h1, h2, ?_, ?_⟩⟩⟩
  · rw [upd_ne ne] at hd
    exact hd
  · rw [upd_ne ne] at hd
    refine k dx _ (fun b o e => ?_) upd_same
    have e := x1 b o e
    have n1 : b ≠ dx := ne_of_none e hd
    have n2 : b ≠ a := ne_of_none e hn
    rw [upd_ne n1, del_ne n2, h3 b n2 n1, upd_ne n2]
    exact e
end
/-- a class with two fields, its __init__ being read -/
theorem cl2_of {P : Program} {w : World} {K : PySem.W.Frag} {mg : Str → Option Value} {base : Heap} {x q f g : Str} {st : Stmt} {C : Addr} (gb : getB K = true) (Z : ClF K mg x q st C [f, g]) (init : ∀ {fI : Addr} {fd : FuncData}, Fun K "__init__" q st fI fd → FnOk P w K mg base CX0 1 fI fd ["self", f, g] (spI2 K f g))
    (bind : ∀ (kV doc pm : Value) (an : Option Addr) (cdv ct : Value) (us : List Value), us.length = (["self", f, g] : List Str).length → bindArgs (PySem.W.fnOf "__init__" q (defArgs st) (defBody st) (defScope st) .none kV doc pm an cdv ct) ⟨us, []⟩ = pure ((["self", f, g] : List Str).zip us))
    (bindk : ∀ (kV doc pm : Value) (an : Option Addr) (cdv ct a v u : Value), bindArgs (PySem.W.fnOf "__init__" q (defArgs st) (defBody st) (defScope st) .none kV doc pm an cdv ct) ⟨[a], [(g, v), (f, u)]⟩ = pure [(("self" : Str), a), (f, u), (g, v)]) : Cl P w K mg base x C [f, g] (spI2 K f g) := by
  obtain ⟨fI, fd, h1, h2, F⟩ := Z.fn
  refine ⟨Z.oex, exc_of gb Z.ga Z.gg Z.oex.exC Z.hd Z.ha Z.hm, Z.gC, Z.no, fI, fd, h1, h2, init F, F.binds bind, fun s a ws hl => ?_⟩
  obtain ⟨oc, od, kV, doc, pm, an, cdv, ct, osl, rfl, _, _⟩ := F.ex
  exact match ws, hl with | [v, u], _ => .of_eq (bindk _ _ _ _ _ _ _ _ _)
theorem or_fn {P : Program} {w : World} {K : PySem.W.Frag} {mg : Str → Option Value} {base : Heap} {CX : CXT} {k : Nat} {f : Addr} {fd : FuncData} {ps : List Str} {sp1 sp2 : Sp} (F : FnOk P w K mg base CX k f fd ps sp1) (G : FnOk P w K mg base CX k f fd ps sp2) : FnOk P w K mg base CX k f fd ps (fun vs H Q E => sp1 vs H Q E ∨ sp2 vs H Q E) :=
  ⟨fun vs H Q E h => h.elim (F.len vs H Q E) (G.len vs H Q E), fun A outer s H args us vs Q E hr e0 hb r h => h.elim (F.run A outer s H args us vs Q E hr e0 hb r) (G.run A outer s H args us vs Q E hr e0 hb r)⟩
end KU

set_option Elab.async false
set_option linter.all false
set_option maxRecDepth 100000
set_option maxHeartbeats 4000000
/-! Own classes: operators, comparisons, len, str, in by the class's own defs -/
namespace KU
open PySem PySem.Spec PyProof.Rows L2
section
variable {X : Cx} {CX : CXT} {pins : List (Addr × Obj)} {σ : L2.St} {H : Hp} {s : Shared} {C g : Addr} {n : Nat} {sp : Sp} {E : XK}
theorem ins_at {a dx : Addr} {fs : List (Str × V)} (I : Inv X pins σ H s) (h : H a = some (.ins C dx fs)) : ∃ od, PySem.W.InstAt s.heap a (PySem.W.instObj C dx) C (some od) := by
  obtain ⟨mA, O, _⟩ := ins_get I.hok h
  obtain ⟨od, J, _⟩ := O.look
  exact ⟨od, J⟩
/-- an own def is called by values -/
theorem own_call {A : Around} {Q : VK} {us : List Value} {vs : List V} (F : FnR X.prog X.w X.K X.mg X.base CX n g sp) (hr : Room n A) (e0 : Env0 X.prog X.w X.K X.mg X.base A X.stack s H) (hx : Passes CX X E)
    (I : Inv X pins σ H s) (r : Vals vs us) (h : sp vs H Q E) : wpAny (model X.prog X.w) A (call (.ref g) us) (EP X pins σ Q) X.xe s :=
  wpAny_call (SlX.run_at F hr e0 hx I r h)
/-- a compared with b, a and b instances, by the own def of a's class -/
def rCmpI (K : PySem.W.Frag) (C : Addr) (sp : Sp) (E : XK) : R2 := fun x y H Q => ∃ (a dx : Addr) (fs : List (Str × V)) (b C' dy : Addr) (gs : List (Str × V)), x = .ref a ∧ y = .ref b ∧ H a = some (.ins C dx fs) ∧ H b = some (.ins C' dy gs) ∧
  PySem.W.notFirst K C (.ref C') = true ∧ sp [x, y] H Q E
theorem op_cmpI {op : CmpOp} (hop : ∀ a b, compareOp op a b = richCompare op a b) (hs : PySem.W.findIn X.K (.ref C) (cmpInfo op).2.1 = some (some (.ref g))) (hf : PySem.W.isFn X.K (.ref g) = true)
    (F : FnR X.prog X.w X.K X.mg X.base CX n g sp) (hr : Room n X.A) (hx : Passes CX X E) : OpR X (compareOp op) (rCmpI X.K C sp E) := by
  intro pins s σ H x y u v Q I rx ry h
  obtain ⟨a, dx, fs, b, C', dy, gs, rfl, rfl, ha, hb, nf, q⟩ := h
  obtain rfl : u = Value.ref a := rx
  obtain rfl : v = Value.ref b := ry
  obtain ⟨od, Ja⟩ := ins_at I ha
  obtain ⟨oe, Jb⟩ := ins_at I hb
  obtain ⟨m, fr⟩ := I.fr
  rw [hop]
  refine PySem.W.cmp_K (Nat.lt_of_le_of_lt (Nat.le_add_right _ 64) hr.units) fr I.ok.mod.kin Ja Jb.type nf hs hf ?_
  exact wpAny_mono (own_call F hr I.env0 hx I (vs := [.ref a, .ref b]) (.cons rfl (.cons rfl .nil)) q) (fun u s' ⟨z, H', I', rz, qz⟩ => SlX.cmpback rz ⟨z, H', I', rz, qz⟩) fun e s' z => z
/-- a op b, both of one class, by its own def -/
def rBinI (C : Addr) (sp : Sp) (E : XK) : R2 := fun x y H Q => ∃ (a dx : Addr) (fs : List (Str × V)) (b dy : Addr) (gs : List (Str × V)), x = .ref a ∧ y = .ref b ∧ H a = some (.ins C dx fs) ∧ H b = some (.ins C dy gs) ∧ sp [x, y] H Q E
theorem op_binI {op : Operator} (sf : PySem.W.selfFirst X.K C = true) (hs : PySem.W.findIn X.K (.ref C) (dunder op.info.2) = some (some (.ref g))) (hf : PySem.W.isFn X.K (.ref g) = true)
    (F : FnR X.prog X.w X.K X.mg X.base CX n g sp) (hr : Room n X.A) (hx : Passes CX X E) : OpR X (binaryOp op) (rBinI C sp E) := by
  intro pins s σ H x y u v Q I rx ry h
  obtain ⟨a, dx, fs, b, dy, gs, rfl, rfl, ha, hb, q⟩ := h
  obtain rfl : u = Value.ref a := rx
  obtain rfl : v = Value.ref b := ry
  obtain ⟨od, Ja⟩ := ins_at I ha
  obtain ⟨oe, Jb⟩ := ins_at I hb
  obtain ⟨m, fr⟩ := I.fr
  refine PySem.W.binop_K fr I.ok.mod.kin Ja Jb.type sf hs hf ?_
  exact wpAny_mono (own_call F hr I.env0 hx I (vs := [.ref a, .ref b]) (.cons rfl (.cons rfl .nil)) q) (fun u s' ⟨z, H', I', rz, qz⟩ => SlX.cmpback rz ⟨z, H', I', rz, qz⟩) fun e s' z => z
/-- len(a) -/
def rLenI (C : Addr) (sp : Sp) (E : XK) : List V → Hp → VK → Prop := fun xs H Q => ∃ (a dx : Addr) (fs : List (Str × V)), xs = [.ref a] ∧ H a = some (.ins C dx fs) ∧ sp [.ref a] H (fun z H' => ∃ k : Nat, z = .int (k : Int) ∧ k < 9223372036854775808 ∧ Q (.int (k : Int)) H') E
theorem call_lenI (hs : PySem.W.findIn X.K (.ref C) "__len__" = some (some (.ref g))) (hf : PySem.W.isFn X.K (.ref g) = true)
    (F : FnR X.prog X.w X.K X.mg X.base CX n g sp) (hr : Room (n + 1) X.A) (hx : Passes CX X E) : CallR X (.builtin "len") (rLenI C sp E) := by
  intro pins s σ H xs us Q I r h
  obtain ⟨a, dx, fs, rfl, ha, q⟩ := h
  obtain ⟨u, rfl, r1⟩ := vals1 r
  obtain rfl : u = Value.ref a := r1
  obtain ⟨od, Ja⟩ := ins_at I ha
  obtain ⟨m, fr⟩ := I.fr
  refine PySem.W.len_K fr I.ok.mod.kin Ja hs hf ?_
  refine wpAny_mono (own_call F hr.in1 I.env0.in1 hx I (vs := [.ref a]) (.cons rfl .nil) q) (fun u s' ⟨z, H', I', rz, k, ez, hk, qz⟩ => ?_) fun e s' z => z
  subst ez
  obtain ⟨t, rfl⟩ := rz
  exact ⟨⟨by omega, by omega⟩, ⟨.int (k : Int), H', I'.tok _, ⟨_, rfl⟩, qz⟩⟩
/-- str(a) -/
def rStrI (C : Addr) (sp : Sp) (E : XK) : List V → Hp → VK → Prop := fun xs H Q => ∃ (a dx : Addr) (fs : List (Str × V)), xs = [.ref a] ∧ H a = some (.ins C dx fs) ∧ sp [.ref a] H (fun z H' => ∃ t : Str, z = .str t ∧ Q (.str t) H') E
theorem call_strI (hs : PySem.W.findIn X.K (.ref C) "__str__" = some (some (.ref g))) (hf : PySem.W.isFn X.K (.ref g) = true)
    (F : FnR X.prog X.w X.K X.mg X.base CX n g sp) (hr : Room (n + 2) X.A) (hx : Passes CX X E) : CallR X (.type "str") (rStrI C sp E) := by
  intro pins s σ H xs us Q I r h
  obtain ⟨a, dx, fs, rfl, ha, q⟩ := h
  obtain ⟨u, rfl, r1⟩ := vals1 r
  obtain rfl : u = Value.ref a := r1
  obtain ⟨od, Ja⟩ := ins_at I ha
  refine PySem.W.kso_call (Nat.lt_of_le_of_lt (Nat.le_add_right _ 64) hr.in1.in1.units) I.kIn Ja hs hf ?_
  refine wpAny_mono (own_call F hr.in1.in1 I.env0.in1.in1 hx I (vs := [.ref a]) (.cons rfl .nil) q) (fun u s' ⟨z, H', I', rz, t, ez, qz⟩ => ?_) fun e s' z => z
  subst ez
  obtain ⟨tk, rfl⟩ := rz
  exact ⟨.str t, H', I', ⟨_, rfl⟩, qz⟩
/-- v in a -/
def rInI (C : Addr) (sp : Sp) (E : XK) : R2 := fun v x H Q => ∃ (a dx : Addr) (fs : List (Str × V)), x = .ref a ∧ H a = some (.ins C dx fs) ∧ sp [.ref a, v] H (fun z H' => ∃ k : Bool, z = .bl k ∧ Q (.bl k) H') E
theorem op_inI (hs : PySem.W.findIn X.K (.ref C) "__contains__" = some (some (.ref g))) (hf : PySem.W.isFn X.K (.ref g) = true)
    (F : FnR X.prog X.w X.K X.mg X.base CX n g sp) (hr : Room n X.A) (hx : Passes CX X E) : OpR X (compareOp .In) (rInI C sp E) := by
  intro pins s σ H v x u w Q I rv rx h
  obtain ⟨a, dx, fs, rfl, ha, q⟩ := h
  obtain rfl : w = Value.ref a := rx
  obtain ⟨od, Ja⟩ := ins_at I ha
  obtain ⟨m, fr⟩ := I.fr
  refine PySem.W.in_K fr I.ok.mod.kin Ja hs hf ?_
  refine wpAny_mono (own_call F hr I.env0 hx I (vs := [.ref a, v]) (.cons rfl (.cons rv .nil)) q) (fun u s' ⟨z, H', I', rz, k, ez, qz⟩ => ?_) fun e s' z => z
  subst ez
  cases rz
  exact wpAny_pure ⟨.bl k, H', I', rfl, qz⟩
end
end KU

set_option Elab.async false
set_option linter.all false
set_option maxRecDepth 100000
set_option maxHeartbeats 4000000
/-! Own classes: what __iter__ tells, walked; truth by len; != by the own == -/
namespace KU
open PySem PySem.Spec PyProof.Rows L2
/-- a def of the text, called where something more is known of what surrounds the call -/
structure FnP (Pre : Around → Shared → Prop) (P : Program) (w : World) (K : PySem.W.Frag) (mg : Str → Option Value) (base : Heap) (CX : CXT) (k : Nat) (f : Addr) (fd : FuncData) (ps : List Str) (sp : Sp) : Prop where
  many : ∀ vs H Q E, sp vs H Q E → vs.length = ps.length
  goes : ∀ (A : Around) (out : List Env) (s : Shared) (H : Hp) (args : Args) (us : List Value) (vs : List V) (Q : VK) (E : XK), Pre A s → Room k A →
    Env0 P w K mg base A out s H → BindsTo s fd args (ps.zip us) → Vals vs us → sp vs H Q E → codeAny (model P w) A (.call (.ref f) args) (CR CX out P w H s Q E) s
theorem FnP.body {Pre : Around → Shared → Prop} {P : Program} {w : World} {K : PySem.W.Frag} {mg : Str → Option Value} {base : Heap} {x qual : Str} {st : Stmt} {f : Addr} {fd : FuncData} {N ps : List Str} {k : Nat} {sp : Sp}
    (F : Fun K x qual st f fd) (S : FnScope N ps (defScope st)) (many : ∀ vs H Q E, sp vs H Q E → vs.length = ps.length)
    (walk : ∀ (cdv : Value) (A : Around) (out : List Env) (s : Shared) (H : Hp) (vs : List V) (Q : VK) (E : XK), Pre A s → Room k (A.deeper (envOfC qual (defScope st) s.heap.objs.size f cdv)) → sp vs H Q E →
      ∃ t, PSs (cxOf CX0 P w K mg base N qual (defScope st) f cdv A out s H E).nox (defBody st) t ∧ t { nx := fun _ H' => Q .non H', rt := Q } (start N vs) H) :
    FnP Pre P w K mg base CX0 (k + 1) f fd ps sp := by
  refine ⟨many, fun A out s H args us vs Q E hg hr e0 hb r hsp => ?_⟩
  obtain ⟨oc, od, kV, doc, pm, an, cdv, ct, osl, rfl, lk, hcd⟩ := F.ex
  have hl := many _ _ _ _ hsp
  have KX : K.In s.heap := e0.mod.kin.keeps fun b o e => (e0.bs b o e).1
  have lim : s.heap.NoLimit := e0.mod.nolimit.keeps fun b o e => (e0.bs b o e).1
  have kinds : ∀ y ∈ ps.zip us, (defScope st).names.lookup y.1 = some .local ∨ ((defScope st).names.lookup y.1 = some .cell ∧ ((cellsFrom (s.heap.objs.size + 1) (defScope st).names []).lookup y.1).isSome = true) := by
    intro ⟨n, v⟩ hy
    rcases S.par n (List.of_mem_zip hy).1 with q | q
    · exact .inl q
    · exact .inr ⟨q, PySem.W.cellsFrom_some _ _ _ (.inl q)⟩
  refine codeAny_call_function hr.depth (KX _ _ lk) rfl S.co S.gen rfl (PySem.W.codeRec_of KX hcd) (hb _ _ _ _ ?_)
  refine wpAny_newFunctionEnv_cells S.kind kinds fun env he s1 x => ?_
  subst he
  refine ⟨lim.keeps x.toInCall.keep, codeAny_func ?_⟩
  obtain ⟨t, ht, hq⟩ := walk cdv A out s H vs Q E hg (hr.deeper _) hsp
  have I : Inv (cxOf CX0 P w K mg base N qual (defScope st) f cdv A out s H E) [] (start N vs) H s1 := inv_start S hr.hd e0 hl r x
  refine wpAny_mono (ht.nox.run [] s1 (start N vs) H _ I hq) (fun fl s' hs => ?_) fun e s' hs => hs
  have last : ∀ {σ' : L2.St} {H' : Hp} {v : V} {u : Value}, Inv (cxOf CX0 P w K mg base N qual (defScope st) f cdv A out s H E) [] σ' H' s' → RelV v u → Q v H' → CE out P w H s Q u s' := by
    intro σ' H' v u J rv q
    exact ⟨v, H', J.os, J.bare, J.base, J.hok, rv, q⟩
  cases fl with
  | next =>
    obtain ⟨σ', H', J, q⟩ := hs
    exact last (v := V.non) (u := Value.none) J rfl q
  | ret u =>
    obtain ⟨v, σ', H', J, rv, q⟩ := hs
    exact last J rv q
  | brk =>
    obtain ⟨_, _, _, q⟩ := hs
    exact q.elim
  | cont =>
    obtain ⟨_, _, _, q⟩ := hs
    exact q.elim
section
variable {X : Cx} {CX : CXT} {pins : List (Addr × Obj)} {σ : L2.St} {H : Hp} {s : Shared} {C g : Addr} {n : Nat} {sp : Sp} {E : XK}
/-- iter(t), t a tuple, not yet walked -/
def TtO (t it : Addr) : HO := .ext fun h => h.IsTupleIter it t 0
theorem tto_ok {t it : Addr} {P : Program} {w : World} {H : Hp} {h : Heap} (e : h.IsTupleIter it t 0) : ObjOk P w H h it (TtO t it) :=
  ⟨e, by
    obtain ⟨o, ho, _⟩ := e
    exact ⟨o, ho⟩, fun h1 h2 e1 k => by
    obtain ⟨o, ho, hc, hd⟩ := e1
    exact ⟨o, k _ ho, hc, hd⟩⟩
theorem call_iter_of {P : Program} {w : World} {A : Around} {Ex : Value → Shared → Prop} {v : Value} {Q : Value → Shared → Prop} {s : Shared} (h : wpAny (model P w) A.in1 (pyIter v) Q Ex s) :
    wpAny (model P w) A (call (.builtin "iter") [v]) Q Ex s := by
  refine call_function_tree (b := Builtin.iter) (by decide +kernel) (by decide +kernel) rfl rfl ?_
  show wpAny _ _ (someArgs "iter" 1 2 ⟨[v], []⟩ >>= _) _ _ _
  refine wpAny_bind (wpAny_pure ?_)
  exact wpAny_bind (thn h fun u s1 q => wpAny_pure q)
/-- iter(t) as a value: new to the whole call -/
def rIterT (K : PySem.W.Frag) (N : Nat) : List V → Hp → VK → Prop := fun xs H Q => ∃ (t : Addr) (zs : List V), xs = [.ref t] ∧ SqT K H t zs ∧ ∀ it, H it = none → N ≤ it → Q (.ref it) (upd H it (TtO t it))
theorem call_iterT : CallR X (.builtin "iter") (rIterT X.K X.s_0.heap.objs.size) := by
  intro pins s σ H xs us Q I r h
  obtain ⟨t, zs, rfl, hs, q⟩ := h
  obtain ⟨u, rfl, r1⟩ := vals1 r
  obtain rfl : u = Value.ref t := r1
  obtain ⟨its, rv, ht, hn⟩ := I.tuple hs
  refine call_iter_of (wpAny_pyIter_tuple (items := its.toArray) ht ?_)
  have e : (s.heap.push { cls := Value.type "tuple_iterator", data := Data.fields #[Value.ref t, Value.int 0 0] }).IsTupleIter s.heap.objs.size t 0 := ⟨_, Heap.get?_push_size _ rfl, rfl, rfl⟩
  exact ⟨.ref s.heap.objs.size, _, I.laid (fun b u hb => Heap.get?_push_of_some _ hb) (Nat.le_refl _) (tto_ok e), rfl, q _ (I.hok.fresh (Nat.le_refl _)) I.sz⟩
/-- for .. in e, e an instance: by its own __iter__, which tells an iterator over a tuple -/
def iOwn (K : PySem.W.Frag) (C : Addr) (N : Nat) (sp : Sp) (te : TE) : TI := fun σ H R => te σ H fun x H1 => ∃ (a dx : Addr) (fs : List (Str × V)), x = .ref a ∧ H1 a = some (.ins C dx fs) ∧
  sp [.ref a] H1 (fun z H2 => ∃ it t, z = .ref it ∧ N ≤ it ∧ H2 it = some (TtO t it) ∧ R (Itt K t) (ItX.dropH H2 it)) fun _ _ _ => False
theorem spec_tit {M : Model} {A : Around} {Ex : Value → Shared → Prop} {s : Shared} {it t : Addr} {i : Nat} {Q : Option Value → Shared → Prop} (h : s.heap.IsTupleIter it t i) (q : ∀ v, Q (some v) s) :
    wpAny M A (specialOf (.ref it) "__next__") Q Ex s := by
  obtain ⟨o, ho, hc, _⟩ := h
  unfold specialOf
  refine wpAny_bind (wpAny_typeOf_ref ho ?_)
  rw [hc]
  have e : typeLookup (.type "tuple_iterator") "__next__" = pure (some (.builtin "tuple_iterator.__next__")) := rfl
  rw [e]
  exact wpAny_pure (q _)
theorem pi_own {tg e : Expr} {te : TE} {k : Nat} {fd : FuncData} {ps : List Str} {spN : Nat → Sp} (he : PE X e te) (hs : PySem.W.findIn X.K (.ref C) "__iter__" = some (some (.ref g))) (hf : PySem.W.isFn X.K (.ref g) = true)
    (F : ∀ N, FnP (fun _ s => N ≤ s.heap.objs.size) X.prog X.w X.K X.mg X.base CX0 k g fd ps (spN N)) (hb : Binds X.K fd ps []) (hr : Room k X.A) : PI X tg e (iOwn X.K C X.s_0.heap.objs.size (spN X.s_0.heap.objs.size) te) := by
  refine ⟨fun pins s σ H R I h => thn (he.run pins s σ H _ I h) fun u s1 ⟨x, H1, I1, rx, a, dx, fs, ex, ha, q⟩ => ?_⟩
  subst ex
  obtain rfl : u = Value.ref a := rx
  obtain ⟨od, Ja⟩ := ins_at I1 ha
  obtain ⟨m, fr⟩ := I1.fr
  refine PySem.W.owit_iter fr I1.ok.mod.kin Ja hs hf ?_
  refine wpAny_call (codeAny_mono ((F _).goes X.A X.stack s1 H1 ⟨[.ref a], []⟩ [.ref a] [.ref a] _ (fun _ _ _ => False) I1.sz hr I1.env0 ?_ (.cons rfl .nil) q) fun rs s' back => ?_)
  · have hl := (F _).many _ _ _ _ q
    have z := hb s1 [.ref a] I1.kIn (by rw [List.append_nil]; exact hl)
    rw [List.append_nil] at z
    exact z
  cases rs with
  | error er => exact back.elim
  | ok fl =>
    cases fl with
    | ret u =>
      obtain ⟨v, H', I3, rv, it, t, ev, hN, hit, hR⟩ := I1.after back
      subst ev
      obtain rfl : u = Value.ref it := rv
      have at_ : s'.heap.IsTupleIter it t 0 := (I3.hok _ _ hit).1
      refine spec_tit at_ fun _ => ?_
      exact ⟨it, [it], _, Itt X.K t, ItX.dropH H' it, rfl, ItX.inv_drop I3 hit, turn_tuple t it, at_, fun b hb' => by
        obtain rfl := List.mem_singleton.mp hb'
        exact ItX.inv_fp I3 hit hN, hR⟩
    | next => exact back.elim
    | brk => exact back.elim
    | cont => exact back.elim
end
end KU

set_option Elab.async false
set_option linter.all false
set_option maxRecDepth 100000
set_option maxHeartbeats 4000000
/-! Comprehensions over tuples, over lists or tuples, over anything that is walked -/
namespace KU
open PySem PySem.Spec PyProof.Rows L2 Evl
section
variable {K : PySem.W.Frag} {σ : L2.St} {H : Hp} {te tl : TE} {t : TT} {xs : List V} {j : Nat} {vs : List Nat}
theorem lc_cw {J : It} {G : Hp → Prop} (w : Walk J xs.length G (YAt xs)) (hG : ∀ H1, Ex H H1 → G H1) (hl : xs.length ≤ 40000) (f : Nat → Bool) (v : Nat → V)
    (hw : ∀ x : V, wipe ((wipe σ vs).set j (some x)) vs = wipe σ vs)
    (ht : ∀ (i : Nat) (x : V) (H1 : Hp), Ex H H1 → xs[i]? = some x → EvT t ((wipe σ vs).set j (some x)) H1 (f i))
    (he : ∀ (i : Nat) (x : V) (H1 : Hp), Ex H H1 → xs[i]? = some x → f i = true → Ev te ((wipe σ vs).set j (some x)) H1 (v i))
    {H1 : Hp} (x1 : Ex H H1) {D : Addr} (hD : H1 D = none) {Q : VK} (q : ∀ (p : Addr) (H2 : Hp), H1 p = none → Ex H1 H2 → H2 p = some (.lst (given xs.length f v)) → Q (.ref p) H2) :
    ∃ W : Nat → Nat → Hp → Prop, (∃ m, W 0 m (upd H1 D (.lst []))) ∧ ∀ (i m : Nat) (H' : Hp), W i m H' → (J.stop i H' ∧ Q (.ref D) H') ∨ (J.go i H' ∧ ∃ Nx : Hp → Prop, (∀ H', Nx H' → ∃ m', m' < m ∧ W (i + 1) m' H') ∧
      ∀ (x : V) (H2 : Hp), J.yld i H' x H2 → gName j x (wipe σ vs) H2 fun σ2 H3 => wipe σ2 vs = wipe σ vs ∧ t σ2 H3 fun b H4 => if b = true then te σ2 H4 fun y H5 => ∃ acc, H5 D = some (.lst acc) ∧ acc.length < sizeLine ∧ Nx (upd H5 D (.lst (acc ++ [y]))) else Nx H4) := by
  refine lc_it w (Pv := fun i H' => Cw H1 f v D i H') ⟨hD, Ex.new hD, upd_same⟩ (fun i H' _ c => hG H' (x1.trans c.2.1)) (fun i x H' H2 hi c y => ?_) fun H' c => q D H' hD c.2.1 c.2.2
  obtain ⟨rfl, hx⟩ := y
  exact ⟨hw x, cw_turn c (by omega) (ht i x H1 x1 hx) (he i x H1 x1 hx)⟩
theorem el_lcT {a : Addr} (f : Nat → Bool) (v : Nat → V) (hx : Ev tl σ H (.ref a)) (hs : SqT K H a xs) (hl : xs.length ≤ 40000)
    (hw : ∀ x : V, wipe ((wipe σ vs).set j (some x)) vs = wipe σ vs)
    (ht : ∀ (i : Nat) (x : V) (H1 : Hp), Ex H H1 → xs[i]? = some x → EvT t ((wipe σ vs).set j (some x)) H1 (f i))
    (he : ∀ (i : Nat) (x : V) (H1 : Hp), Ex H H1 → xs[i]? = some x → f i = true → Ev te ((wipe σ vs).set j (some x)) H1 (v i)) : EvL (tLc (iTup K tl) (gName j) t te vs) σ H (given xs.length f v) := by
  intro H1 x1 Q q
  refine hx H1 x1 _ fun H2 x2 => ⟨a, rfl, ⟨xs, ex_t (x1.trans x2) hs⟩, fun D hD => ?_⟩
  exact lc_cw walk_tup (fun H3 x3 => ex_t x3 hs) hl f v hw ht he (x1.trans x2) hD fun p H3 hp x3 e => q p H3 (fresh_back x2 hp) (x2.trans x3) e
/-- a list or a tuple that a name holds, walked -/
def iSeqV (K : PySem.W.Frag) (i : Nat) : TI := fun σ H R => ∃ a xs, σ[i]? = some (some (.ref a)) ∧ ((SqL K H a xs ∧ R (Itl K a) H) ∨ (SqT K H a xs ∧ R (Itt K a) H))
theorem pi_seqV {X : Cx} {tg e : Expr} {i : Nat} (he : PE X e (tVar i)) : PI X tg e (iSeqV X.K i) := by
  refine ⟨fun pins s σ H R I h => ?_⟩
  obtain ⟨a, xs, hv, h⟩ := h
  rcases h with ⟨hs, r⟩ | ⟨hs, r⟩
  · exact (pi_list he).run pins s σ H R I ⟨_, hv, a, rfl, ⟨xs, hs⟩, r⟩
  · exact (pi_tup he).run pins s σ H R I ⟨_, hv, a, rfl, ⟨xs, hs⟩, r⟩
theorem el_lcS {a : Addr} {i : Nat} (f : Nat → Bool) (v : Nat → V) (hx : σ[i]? = some (some (.ref a))) (hs : SqL K H a xs ∨ SqT K H a xs) (hl : xs.length ≤ 40000)
    (hw : ∀ x : V, wipe ((wipe σ vs).set j (some x)) vs = wipe σ vs)
    (ht : ∀ (i : Nat) (x : V) (H1 : Hp), Ex H H1 → xs[i]? = some x → EvT t ((wipe σ vs).set j (some x)) H1 (f i))
    (he : ∀ (i : Nat) (x : V) (H1 : Hp), Ex H H1 → xs[i]? = some x → f i = true → Ev te ((wipe σ vs).set j (some x)) H1 (v i)) : EvL (tLc (iSeqV K i) (gName j) t te vs) σ H (given xs.length f v) := by
  intro H1 x1 Q q
  rcases hs with hs | hs
  · refine ⟨a, xs, hx, .inl ⟨ex_l x1 hs, fun D hD => ?_⟩⟩
    exact lc_cw walk_list (fun H3 x3 => ex_l x3 hs) hl f v hw ht he x1 hD q
  · refine ⟨a, xs, hx, .inr ⟨ex_t x1 hs, fun D hD => ?_⟩⟩
    exact lc_cw walk_tup (fun H3 x3 => ex_t x3 hs) hl f v hw ht he x1 hD q
/-- what a comprehension gives, over the items themselves -/
theorem given_map (xs : List α) (f : Nat → Bool) (v : Nat → β) (p : α → Bool) (φ : α → β) (hf : ∀ i x, xs[i]? = some x → f i = p x) (hv : ∀ i x, xs[i]? = some x → v i = φ x) :
    ((List.range xs.length).filter f).map v = (xs.filter p).map φ := by
  induction xs generalizing f v with
  | nil => rfl
  | cons a r ih =>
    have h0 : f 0 = p a := hf 0 a rfl
    have v0 : v 0 = φ a := hv 0 a rfl
    have z := ih (fun i => f (i + 1)) (fun i => v (i + 1)) (fun i x h => hf (i + 1) x (by simpa using h)) fun i x h => hv (i + 1) x (by simpa using h)
    rw [List.length_cons, List.range_succ_eq_map, List.filter_cons, List.filter_cons, h0]
    have m : ((List.map Nat.succ (List.range r.length)).filter f).map v = (r.filter p).map φ := by
      rw [List.filter_map, List.map_map]
      exact z
    split
    · rw [List.map_cons, List.map_cons, m, v0]
    · exact m
theorem given_all (xs : List α) (v : Nat → β) (φ : α → β) (hv : ∀ i x, xs[i]? = some x → v i = φ x) : ((List.range xs.length).filter fun _ => true).map v = xs.map φ := by
  have z := given_map xs (fun _ => true) v (fun _ => true) φ (fun _ _ _ => rfl) hv
  rw [z]
  congr 1
  exact List.filter_eq_self.mpr fun _ _ => rfl
def orNon (φ : V → V) : Option V → V
  | some y => φ y
  | none => .non
def orNo (p : V → Bool) : Option V → Bool
  | some y => p y
  | none => false
theorem given_fm (xs : List V) (p : V → Bool) (φ : V → V) : given xs.length (fun i => orNo p xs[i]?) (fun i => orNon φ xs[i]?) = (xs.filter p).map φ :=
  given_map xs _ _ p φ (fun i x h => by rw [h]; rfl) fun i x h => by rw [h]; rfl
theorem et_yes : EvT tYes σ H true := fun H1 x1 Q q => q H1 (Ex.refl _)
theorem el_fmS {a : Addr} {i : Nat} (p : V → Bool) (φ : V → V) (hx : σ[i]? = some (some (.ref a))) (hs : SqL K H a xs ∨ SqT K H a xs) (hl : xs.length ≤ 40000)
    (hw : ∀ x : V, wipe ((wipe σ vs).set j (some x)) vs = wipe σ vs)
    (ht : ∀ (x : V) (H1 : Hp), Ex H H1 → x ∈ xs → EvT t ((wipe σ vs).set j (some x)) H1 (p x))
    (he : ∀ (x : V) (H1 : Hp), Ex H H1 → x ∈ xs → p x = true → Ev te ((wipe σ vs).set j (some x)) H1 (φ x)) : EvL (tLc (iSeqV K i) (gName j) t te vs) σ H ((xs.filter p).map φ) := by
  rw [← given_fm]
  refine el_lcS _ _ hx hs hl hw (fun i x H1 x1 e => ?_) fun i x H1 x1 e k => ?_
  · rw [e]
    exact ht x H1 x1 (List.mem_of_getElem? e)
  · rw [e] at k ⊢
    exact he x H1 x1 (List.mem_of_getElem? e) k
theorem el_fmL {a : Addr} (p : V → Bool) (φ : V → V) (hx : Ev tl σ H (.ref a)) (hs : SqL K H a xs) (hl : xs.length ≤ 40000)
    (hw : ∀ x : V, wipe ((wipe σ vs).set j (some x)) vs = wipe σ vs)
    (ht : ∀ (x : V) (H1 : Hp), Ex H H1 → x ∈ xs → EvT t ((wipe σ vs).set j (some x)) H1 (p x))
    (he : ∀ (x : V) (H1 : Hp), Ex H H1 → x ∈ xs → p x = true → Ev te ((wipe σ vs).set j (some x)) H1 (φ x)) : EvL (tLc (iList K tl) (gName j) t te vs) σ H ((xs.filter p).map φ) := by
  rw [← given_fm]
  refine el_lcL _ _ hx hs hl hw (fun i x H1 x1 e => ?_) fun i x H1 x1 e k => ?_
  · rw [e]
    exact ht x H1 x1 (List.mem_of_getElem? e)
  · rw [e] at k ⊢
    exact he x H1 x1 (List.mem_of_getElem? e) k
theorem el_fmN (p : V → Bool) (φ : V → V) (hx : EvL tl σ H xs) (hl : xs.length ≤ 40000)
    (hw : ∀ x : V, wipe ((wipe σ vs).set j (some x)) vs = wipe σ vs)
    (ht : ∀ (x : V) (H1 : Hp), Ex H H1 → x ∈ xs → EvT t ((wipe σ vs).set j (some x)) H1 (p x))
    (he : ∀ (x : V) (H1 : Hp), Ex H H1 → x ∈ xs → p x = true → Ev te ((wipe σ vs).set j (some x)) H1 (φ x)) : EvL (tLc (iList K tl) (gName j) t te vs) σ H ((xs.filter p).map φ) := by
  rw [← given_fm]
  refine el_lcNL _ _ hx hl hw (fun i x H1 x1 e => ?_) fun i x H1 x1 e k => ?_
  · rw [e]
    exact ht x H1 x1 (List.mem_of_getElem? e)
  · rw [e] at k ⊢
    exact he x H1 x1 (List.mem_of_getElem? e) k
theorem el_fmT {a : Addr} (p : V → Bool) (φ : V → V) (hx : Ev tl σ H (.ref a)) (hs : SqT K H a xs) (hl : xs.length ≤ 40000)
    (hw : ∀ x : V, wipe ((wipe σ vs).set j (some x)) vs = wipe σ vs)
    (ht : ∀ (x : V) (H1 : Hp), Ex H H1 → x ∈ xs → EvT t ((wipe σ vs).set j (some x)) H1 (p x))
    (he : ∀ (x : V) (H1 : Hp), Ex H H1 → x ∈ xs → p x = true → Ev te ((wipe σ vs).set j (some x)) H1 (φ x)) : EvL (tLc (iTup K tl) (gName j) t te vs) σ H ((xs.filter p).map φ) := by
  rw [← given_fm]
  refine el_lcT _ _ hx hs hl hw (fun i x H1 x1 e => ?_) fun i x H1 x1 e k => ?_
  · rw [e]
    exact ht x H1 x1 (List.mem_of_getElem? e)
  · rw [e] at k ⊢
    exact he x H1 x1 (List.mem_of_getElem? e) k
/-- the same over texts -/
def onS (φ : Str → V) : V → V
  | .str w => φ w
  | _ => .non
def onSB (p : Str → Bool) : V → Bool
  | .str w => p w
  | _ => false
theorem fm_str (ws : List Str) (p : Str → Bool) (φ : Str → V) : ((ws.map V.str).filter (onSB p)).map (onS φ) = (ws.filter p).map φ := by
  rw [List.filter_map, List.map_map]
  rfl
theorem mem_str {ws : List Str} {x : V} (h : x ∈ ws.map V.str) : ∃ w ∈ ws, x = .str w := by
  obtain ⟨w, m, rfl⟩ := List.mem_map.mp h
  exact ⟨w, m, rfl⟩
theorem el_strS {a : Addr} {i : Nat} {ws : List Str} (p : Str → Bool) (φ : Str → V) (hx : σ[i]? = some (some (.ref a))) (hs : SqL K H a (ws.map V.str) ∨ SqT K H a (ws.map V.str)) (hl : ws.length ≤ 40000)
    (hw : ∀ x : V, wipe ((wipe σ vs).set j (some x)) vs = wipe σ vs)
    (ht : ∀ (x : Str) (H1 : Hp), Ex H H1 → x ∈ ws → EvT t ((wipe σ vs).set j (some (.str x))) H1 (p x))
    (he : ∀ (x : Str) (H1 : Hp), Ex H H1 → x ∈ ws → p x = true → Ev te ((wipe σ vs).set j (some (.str x))) H1 (φ x)) : EvL (tLc (iSeqV K i) (gName j) t te vs) σ H ((ws.filter p).map φ) := by
  rw [← fm_str]
  refine el_fmS _ _ hx hs (by rw [List.length_map]; exact hl) hw (fun x H1 x1 m => ?_) fun x H1 x1 m k => ?_
  · obtain ⟨w, mw, rfl⟩ := mem_str m
    exact ht w H1 x1 mw
  · obtain ⟨w, mw, rfl⟩ := mem_str m
    exact he w H1 x1 mw k
theorem all_str (ws : List α) : ws.filter (fun _ => true) = ws := List.filter_eq_self.mpr fun _ _ => rfl
end
end KU

set_option Elab.async false
set_option linter.all false
set_option maxRecDepth 100000
set_option maxHeartbeats 4000000
/-! Walks over an instance that a name holds, also within a comprehension -/
namespace KU
open PySem PySem.Spec PyProof.Rows L2 Evl
theorem fnr_of {P : Program} {w : World} {K : PySem.W.Frag} {mg : Str → Option Value} {base : Heap} {CX : CXT} {k : Nat} {f : Addr} {fd : FuncData} {ps : List Str} {sp : Sp} (F : FnOk P w K mg base CX k f fd ps sp) (hb : Binds K fd ps []) : FnR P w K mg base CX k f sp :=
  (F.raw hb .nil).imp fun vs H Q E h => by rw [List.append_nil]; exact h
/-- for .. in x, x a name that holds an instance -/
def iOwnV (K : PySem.W.Frag) (C : Addr) (spN : Nat → Sp) (i : Nat) : TI := fun σ H R => ∃ (a dx : Addr) (fs : List (Str × V)), σ[i]? = some (some (.ref a)) ∧ H a = some (.ins C dx fs) ∧
  ∀ N, spN N [.ref a] H (fun z H2 => ∃ it t, z = .ref it ∧ N ≤ it ∧ H2 it = some (TtO t it) ∧ R (Itt K t) (ItX.dropH H2 it)) fun _ _ _ => False
theorem pi_ownV {X : Cx} {C g : Addr} {tg e : Expr} {i k : Nat} {fd : FuncData} {ps : List Str} {spN : Nat → Sp} (he : PE X e (tVar i)) (hs : PySem.W.findIn X.K (.ref C) "__iter__" = some (some (.ref g))) (hf : PySem.W.isFn X.K (.ref g) = true)
    (F : ∀ N, FnP (fun _ s => N ≤ s.heap.objs.size) X.prog X.w X.K X.mg X.base CX0 k g fd ps (spN N)) (hb : Binds X.K fd ps []) (hr : Room k X.A) : PI X tg e (iOwnV X.K C spN i) := by
  refine ⟨fun pins s σ H R I h => ?_⟩
  obtain ⟨a, dx, fs, hx, ha, q⟩ := h
  exact (pi_own he hs hf F hb hr).run pins s σ H R I ⟨_, hx, a, dx, fs, rfl, ha, q _⟩
section
variable {K : PySem.W.Frag} {σ : L2.St} {H : Hp} {te tl : TE} {t : TT} {xs : List V} {j i : Nat} {vs : List Nat} {C : Addr} {spN : Nat → Sp}
theorem drop_new {H : Hp} {it : Addr} {o : HO} (h : H it = none) : ItX.dropH (upd H it o) it = H := by
  funext b
  unfold ItX.dropH
  by_cases c : b = it
  · subst c
    rw [if_pos rfl, h]
  · rw [if_neg c, upd_ne c]
/-- a comprehension over an instance whose __iter__ walks over a tuple -/
theorem el_ownV {a dx : Addr} {fs : List (Str × V)} (p : V → Bool) (φ : V → V) (hx : σ[i]? = some (some (.ref a))) (ha : H a = some (.ins C dx fs))
    (sp : ∀ (N : Nat) (H1 : Hp) (R : VK), Ex H H1 → (∀ W it, H1 W = some (.tup xs) → H1 it = none → N ≤ it → R (.ref it) (upd H1 it (TtO W it))) → spN N [.ref a] H1 R fun _ _ _ => False) (hl : xs.length ≤ 40000)
    (hw : ∀ x : V, wipe ((wipe σ vs).set j (some x)) vs = wipe σ vs)
    (ht : ∀ (x : V) (H1 : Hp), Ex H H1 → x ∈ xs → EvT t ((wipe σ vs).set j (some x)) H1 (p x))
    (he : ∀ (x : V) (H1 : Hp), Ex H H1 → x ∈ xs → p x = true → Ev te ((wipe σ vs).set j (some x)) H1 (φ x)) : EvL (tLc (iOwnV K C spN i) (gName j) t te vs) σ H ((xs.filter p).map φ) := by
  rw [← given_fm]
  intro H1 x1 Q q
  refine ⟨a, dx, fs, hx, x1 _ _ ha, fun N => sp N H1 _ x1 fun W it hW hit hN => ⟨it, W, rfl, hN, upd_same, ?_⟩⟩
  rw [drop_new hit]
  refine fun D hD => lc_cw (H := H1) walk_tup (fun H3 x3 => ex_t x3 (st_of hW)) hl (fun i => orNo p xs[i]?) (fun i => orNon φ xs[i]?) hw (fun k x H3 x3 e => ?_) (fun k x H3 x3 e kk => ?_) (Ex.refl _) hD q
  · rw [e]
    exact ht x H3 (x1.trans x3) (List.mem_of_getElem? e)
  · rw [e] at kk ⊢
    exact he x H3 (x1.trans x3) (List.mem_of_getElem? e) kk
/-- the same where a list is made in each turn -/
theorem el_ownLL {a dx : Addr} {fs : List (Str × V)} {ys : List V} (hx : σ[i]? = some (some (.ref a))) (ha : H a = some (.ins C dx fs))
    (sp : ∀ (N : Nat) (H1 : Hp) (R : VK), Ex H H1 → (∀ W it, H1 W = some (.tup xs) → H1 it = none → N ≤ it → R (.ref it) (upd H1 it (TtO W it))) → spN N [.ref a] H1 R fun _ _ _ => False) (hl : xs.length ≤ 40000)
    (hw : ∀ x : V, wipe ((wipe σ vs).set j (some x)) vs = wipe σ vs)
    (he : ∀ (x : V) (H1 : Hp), Ex H H1 → x ∈ xs → EvL te ((wipe σ vs).set j (some x)) H1 ys) {H1 : Hp} {Q : VK} (x1 : Ex H H1)
    (q : ∀ (p : Addr) (H2 : Hp) (rs : List Addr), H1 p = none → Ex H1 H2 → H2 p = some (.lst (rs.map V.ref)) → rs.length = xs.length → (∀ r ∈ rs, H2 r = some (.lst ys)) → Q (.ref p) H2) : tLc (iOwnV K C spN i) (gName j) tYes te vs σ H1 Q := by
  refine ⟨a, dx, fs, hx, x1 _ _ ha, fun N => sp N H1 _ x1 fun W it hW hit hN => ⟨it, W, rfl, hN, upd_same, ?_⟩⟩
  rw [drop_new hit]
  refine fun D hD => lc_it walk_tup (Pv := fun k H' => Ex H1 H' ∧ ∃ rs : List Addr, H' D = some (.lst (rs.map V.ref)) ∧ rs.length = k ∧ ∀ r ∈ rs, r ≠ D ∧ H' r = some (.lst ys)) ⟨Ex.new hD, [], upd_same, rfl, fun r hr => by cases hr⟩ (fun k H' _ p => ex_t p.1 (st_of hW)) (fun k x H' H2 hk p y => ?_) fun H' p => ?_
  · obtain ⟨rfl, hxk⟩ := y
    obtain ⟨xx, rs, eD, rl, all⟩ := p
    refine ⟨hw x, et_yes (H := H2) H2 (Ex.refl _) _ fun H3 x3 => ?_⟩
    rw [if_pos rfl]
    refine he x H3 ((x1.trans xx).trans x3) (List.mem_of_getElem? hxk) H3 (Ex.refl _) _ fun l H4 hl4 x4 e4 => ?_
    have eD4 := x4 _ _ (x3 _ _ eD)
    have lD : l ≠ D := by
      rintro rfl
      rw [x3 _ _ eD] at hl4
      cases hl4
    refine ⟨_, eD4, ?_, fun b o hb => ?_, rs ++ [l], ?_, ?_, fun r hr => ?_⟩
    · rw [List.length_map, sizeLine_eq]
      omega
    · have ne : b ≠ D := by
        rintro rfl
        rw [hD] at hb
        cases hb
      rw [upd_ne ne]
      exact x4 _ _ (x3 _ _ (xx _ _ hb))
    · rw [upd_same, List.map_append]
      rfl
    · rw [List.length_append, rl]
      rfl
    · rcases List.mem_append.mp hr with h | h
      · exact ⟨(all r h).1, by rw [upd_ne (all r h).1]; exact x4 _ _ (x3 _ _ (all r h).2)⟩
      · rw [List.mem_singleton.mp h]
        exact ⟨lD, by rw [upd_ne lD]; exact e4⟩
  · obtain ⟨xx, rs, eD, rl, all⟩ := p
    exact q D H' rs hD xx eD rl fun r hr => (all r hr).2
end
end KU

set_option Elab.async false
set_option linter.all false
set_option maxRecDepth 100000
set_option maxHeartbeats 4000000
/-! An own class called with starred arguments -/
namespace KU
open PySem PySem.Spec PyProof.Rows L2 Evl
theorem pe_makeS {X : Cx} {CX : CXT} {k : Nat} {f C : Addr} {sp : Sp} {E : XK} {x : Str} {e : Expr} {es : List Expr} {t : TA} {p pos : Pos} (M : Mk X.K C f) (F : FnR X.prog X.w X.K X.mg X.base CX k f sp) (hr : Room (k + 1) X.A) (hg : Gl X x)
    (hm : X.mg x = some (.ref C)) (hx : Passes CX X E) (ha : PA X (e :: es) t) (hdb : (x == ("__debug__" : Str)) = false := by decide) (he : starEach (e :: es) X.env = (false, eval e X.env) :: starEach es X.env := by rfl)
    (hst : (backTo pos (starEach es X.env)).any (·.1) = true := by rfl) : PE X (.Call (.Name x p) (e :: es) [] pos) (StX.tMakeR C sp E t) := by
  refine ⟨fun pins s σ H Q I h => ?_⟩
  refine wpAny_Call_Name_kw (ld_glob I hg hm (PySem.W.callWith_S2 I.ok.mod.kin M.kp (thn (ha.run pos pins s σ H _ I h) fun us s1 z => ?_) he hst) hdb)
  obtain ⟨vs, H1, I1, r, q⟩ := z
  exact ⟨I1.kIn, StX.run_makeR M F hr hx I1 r q⟩
section
variable {K : PySem.W.Frag} {σ : L2.St} {H : Hp} {te tl ta tb : TE} {t : TA}
theorem ea_star {p : Addr} {xs ys : List V} (h : Ev te σ H (.ref p)) (hs : SqT K H p xs ∨ SqL K H p xs) (r : EvA t σ H ys) : EvA (StX.tStar K te t) σ H (xs ++ ys) :=
  fun H1 x1 Q q => h H1 x1 _ fun H2 x2 => ⟨p, xs, rfl, hs.imp (ex_t (x1.trans x2)) (ex_l (x1.trans x2)), r H2 (x1.trans x2) _ fun H3 x3 => q H3 (x2.trans x3)⟩
end
end KU

set_option Elab.async false
set_option linter.all false
set_option maxRecDepth 100000
set_option maxHeartbeats 4000000
/-! Dict comprehensions, walks over the keys of a locked dict -/
namespace KU
open PySem PySem.Spec PyProof.Rows L2 Evl
section
variable {K : PySem.W.Frag} {σ : L2.St} {H : Hp} {te tl tk tv : TE} {t : TT} {xs : List V} {j : Nat} {vs : List Nat}
theorem dc_it {J : It} {n : Nat} {G : Hp → Prop} {Y : Nat → Hp → V → Hp → Prop} (w : Walk J n G Y) {g : TG} {H1 : Hp} {D : Addr} {Qd : Hp → Prop} (Pv : Nat → Hp → Prop) (h0 : Pv 0 (upd H1 D (.dK []))) (hG : ∀ i H, i ≤ n → Pv i H → G H)
    (hs : ∀ i x H H', i < n → Pv i H → Y i H x H' → g x (wipe σ vs) H' fun σ2 H2 => wipe σ2 vs = wipe σ vs ∧ t σ2 H2 fun b H3 => if b = true then tk σ2 H3 fun y H4 => tv σ2 H4 fun z H5 =>
      ∃ kvs k, y = kV k ∧ H5 D = some (.dK kvs) ∧ kvs.length < sizeLine ∧ Pv (i + 1) (upd H5 D (.dK (putK kvs k z))) else Pv (i + 1) H3) (hd : ∀ H, Pv n H → Qd H) :
    ∃ W : Nat → Nat → Hp → Prop, (∃ m, W 0 m (upd H1 D (.dK []))) ∧ ∀ i m H, W i m H → (J.stop i H ∧ Qd H) ∨ (J.go i H ∧ ∃ Nx : Hp → Prop, (∀ H', Nx H' → ∃ m', m' < m ∧ W (i + 1) m' H') ∧
      ∀ x H', J.yld i H x H' → g x (wipe σ vs) H' fun σ2 H2 => wipe σ2 vs = wipe σ vs ∧ t σ2 H2 fun b H3 => if b = true then tk σ2 H3 fun y H4 => tv σ2 H4 fun z H5 =>
        ∃ kvs k, y = kV k ∧ H5 D = some (.dK kvs) ∧ kvs.length < sizeLine ∧ Nx (upd H5 D (.dK (putK kvs k z))) else Nx H3) := by
  refine ⟨fun i m H => i ≤ n ∧ m = n - i ∧ Pv i H, ⟨n, Nat.zero_le _, rfl, h0⟩, fun i m H ⟨hi, hm, p⟩ => ?_⟩
  by_cases e : i = n
  · subst e
    exact .inl ⟨w.stops H (hG i H hi p), hd H p⟩
  · have lt : i < n := by omega
    exact .inr ⟨w.goes i H lt (hG i H hi p), Pv (i + 1), fun H' q => ⟨n - (i + 1), by omega, by omega, rfl, q⟩, fun x H' y => hs i x H H' lt p (w.yields i H x H' lt (hG i H hi p) y)⟩
theorem on_true {p q : Prop} (h : p) : if true = true then p else q := by
  rw [if_pos rfl]
  exact h
/-- the texts of a walk as keys, in the order in which they first come -/
def keysD (ws : List Str) : List (Key × V) := ws.foldl (fun kvs w => putK kvs (Sum.inr w) (.bl true)) []
theorem keysD_snoc (ws : List Str) (w : Str) : keysD (ws ++ [w]) = putK (keysD ws) (Sum.inr w) (.bl true) := by
  unfold keysD
  rw [List.foldl_append]
  rfl
theorem putK_len (kvs : List (Key × V)) (k : Key) (v : V) : (putK kvs k v).length ≤ kvs.length + 1 := by
  unfold putK
  split
  · rw [List.length_map]
    omega
  · rw [List.length_append]
    exact Nat.le_refl _
theorem keysD_len (ws : List Str) : (keysD ws).length ≤ ws.length := by
  have : ∀ (acc : List (Key × V)), (ws.foldl (fun kvs w => putK kvs (Sum.inr w) (.bl true)) acc).length ≤ acc.length + ws.length := by
    induction ws with
    | nil => intro acc; exact Nat.le_refl _
    | cons a r ih =>
      intro acc
      have z := ih (putK acc (Sum.inr a) (.bl true))
      have y := putK_len acc (Sum.inr a) (.bl true)
      rw [List.foldl_cons, List.length_cons]
      omega
  have z := this []
  rw [List.length_nil, Nat.zero_add] at z
  exact z
/-- {w: True for w in ws}: a new dict -/
theorem dc_str {a : Addr} {i : Nat} {ws : List Str} {H1 : Hp} {Q : VK} (hx : σ[i]? = some (some (.ref a))) (hs : SqL K H1 a (ws.map V.str) ∨ SqT K H1 a (ws.map V.str)) (hl : ws.length ≤ 40000)
    (hw : ∀ x : V, wipe ((wipe σ vs).set j (some x)) vs = wipe σ vs)
    (hk : ∀ (x : Str) (H2 : Hp), Ev tk ((wipe σ vs).set j (some (.str x))) H2 (.str x))
    (q : ∀ (D : Addr) (H2 : Hp), H1 D = none → Ex H1 H2 → H2 D = some (.dK (keysD ws)) → Q (.ref D) H2) : tDc (iSeqV K i) (gName j) tYes tk (tC (.bl true)) vs σ H1 Q := by
  have core : ∀ (J : It) (G : Hp → Prop), Walk J (ws.map V.str).length G (YAt (ws.map V.str)) → (∀ H2, Ex H1 H2 → G H2) → ∀ D, H1 D = none → ∃ W : Nat → Nat → Hp → Prop, (∃ m, W 0 m (upd H1 D (.dK []))) ∧ ∀ i m H, W i m H → (J.stop i H ∧ Q (.ref D) H) ∨ (J.go i H ∧ ∃ Nx : Hp → Prop, (∀ H', Nx H' → ∃ m', m' < m ∧ W (i + 1) m' H') ∧
      ∀ x H', J.yld i H x H' → gName j x (wipe σ vs) H' fun σ2 H2 => wipe σ2 vs = wipe σ vs ∧ tYes σ2 H2 fun b H3 => if b = true then tk σ2 H3 fun y H4 => tC (.bl true) σ2 H4 fun z H5 =>
        ∃ kvs k, y = kV k ∧ H5 D = some (.dK kvs) ∧ kvs.length < sizeLine ∧ Nx (upd H5 D (.dK (putK kvs k z))) else Nx H3) := by
    intro J G w hG D hD
    refine dc_it w (Pv := fun i H2 => Ex H1 H2 ∧ H2 D = some (.dK (keysD (ws.take i)))) ⟨Ex.new hD, upd_same⟩ (fun i H2 _ c => hG H2 c.1) (fun i x H2 H3 hi c y => ?_) fun H2 c => ?_
    · obtain ⟨rfl, hx⟩ := y
      rw [List.getElem?_map] at hx
      cases e : ws[i]? with
      | none =>
        rw [e] at hx
        cases hx
      | some w0 =>
        rw [e] at hx
        cases hx
        refine ⟨hw _, ?_⟩
        refine et_yes (H := H3) H3 (Ex.refl _) _ fun H5 x5 => ?_
        rw [if_pos rfl]
        refine hk w0 H5 H5 (Ex.refl _) _ fun H4 x4' => ?_
        have x4 := x5.trans x4'
        refine ⟨keysD (ws.take i), Sum.inr w0, rfl, x4 _ _ c.2, ?_, ?_, ?_⟩
        · have := keysD_len (ws.take i)
          rw [sizeLine_eq]
          rw [List.length_take] at this
          omega
        · intro b o hb
          have ne : b ≠ D := by
            rintro rfl
            rw [hD] at hb
            cases hb
          rw [upd_ne ne]
          exact x4 _ _ (c.1 _ _ hb)
        · rw [upd_same]
          have e2 : ws.take (i + 1) = ws.take i ++ [w0] := by
            rw [List.take_succ, e]
            rfl
          rw [e2, keysD_snoc]
    · have e : (ws.map V.str).length = ws.length := List.length_map _
      rw [e, List.take_length] at c
      exact q D H2 hD c.1 c.2
  rcases hs with hs | hs
  · exact ⟨a, _, hx, .inl ⟨hs, fun D hD => core _ _ walk_list (fun H2 x2 => ex_l x2 hs) D hD⟩⟩
  · exact ⟨a, _, hx, .inr ⟨hs, fun D hD => core _ _ walk_tup (fun H2 x2 => ex_t x2 hs) D hD⟩⟩
/-- a comprehension over the keys of a dict that is locked -/
theorem el_fmK {d : Addr} {o : Obj} {kvs : List (Key × V)} (p : V → Bool) (φ : V → V) (hx : Ev tl σ H (.ref d)) (hd : H d = some (.frz o (.dK kvs))) (hl : kvs.length ≤ 40000)
    (hw : ∀ x : V, wipe ((wipe σ vs).set j (some x)) vs = wipe σ vs)
    (ht : ∀ (x : V) (H1 : Hp), Ex H H1 → x ∈ kvs.map (fun kv => kV kv.1) → EvT t ((wipe σ vs).set j (some x)) H1 (p x))
    (he : ∀ (x : V) (H1 : Hp), Ex H H1 → x ∈ kvs.map (fun kv => kV kv.1) → p x = true → Ev te ((wipe σ vs).set j (some x)) H1 (φ x)) : EvL (tLc (iKeys tl) (gName j) t te vs) σ H (((kvs.map fun kv => kV kv.1).filter p).map φ) := by
  rw [← given_fm]
  intro H1 x1 Q q
  refine hx H1 x1 _ fun H2 x2 => ⟨d, o, rfl, .inl ⟨kvs, (x1.trans x2) _ _ hd, fun D hD => ?_⟩⟩
  have wk : Walk (Itk d o kvs) (kvs.map fun kv => kV kv.1).length (fun H => H d = some (.frz o (.dK kvs))) (YAt (kvs.map fun kv => kV kv.1)) := by
    rw [List.length_map]
    refine walk_keys.mono (fun _ h => h) fun i H3 x H4 hi h y => ⟨y.1, ?_⟩
    obtain ⟨_, k, v, e, rfl⟩ := y
    rw [List.getElem?_map, e]
    rfl
  refine lc_cw wk (fun H3 x3 => x3 _ _ hd) (by rw [List.length_map]; exact hl) _ _ hw (fun i x H3 x3 e => ?_) (fun i x H3 x3 e k => ?_) (x1.trans x2) hD fun p H3 hp x3 e => q p H3 (fresh_back x2 hp) (x2.trans x3) e
  · rw [e]
    exact ht x H3 x3 (List.mem_of_getElem? e)
  · rw [e] at k ⊢
    exact he x H3 x3 (List.mem_of_getElem? e) k
theorem q_asgR {te : TE} {i : Nat} {tz : TS} {D : Ends} (h : te σ H fun x H1 => tz D (σ.set i (some x)) H1) : tSeq (tAsg te (gName i)) tz D σ H := h
theorem q_lockR {te : TE} {i : Nat} {tz : TS} {D : Ends} {d : Addr} {u : HO} (hd : H d = some u) (m : Mut (some u))
    (h : ∀ od, te σ (upd H d (.frz od u)) fun x H1 => H1 d = some (.frz od u) ∧ tz D (σ.set i (some x)) (upd H1 d u)) : tSeq (tLock (tAsg te (gName i))) tz D σ H := ⟨d, u, hd, m, h⟩
theorem ev_call_vl {ta : TE} {sp : Sp} {E : XK} {v z : V} (ha : Ev ta σ H v) (hl : EvL tl σ H xs) (h : ∀ (p : Addr) (H1 : Hp), Ex H H1 → H1 p = some (.lst xs) → SpV sp [v, .ref p] H1 z) : Ev (tCall sp [] E (tCons ta (tCons tl tNil))) σ H z :=
  fun H1 x1 Q q => ha H1 x1 _ fun H2 x2 => hl H2 (x1.trans x2) _ fun p H3 hp x3 e => h p H3 ((x1.trans x2).trans x3) e H3 (Ex.refl _) Q (fun H4 x4 => q H4 ((x2.trans x3).trans x4)) E
theorem q_forS {g : TG} {tb tz : TS} {D : Ends} {H0 : Hp} {a : Addr} {i : Nat} (hx : σ[i]? = some (some (.ref a))) (hs : SqL K H0 a xs ∨ SqT K H0 a xs) (Pv : Nat → L2.St → Hp → Prop) (x0 : Ex H0 H) (h0 : Pv 0 σ H) (hex : ∀ i σ' H', Pv i σ' H' → Ex H0 H')
    (ht : ∀ (i : Nat) (x : V) (σ' : L2.St) (H' : Hp), xs[i]? = some x → Pv i σ' H' → g x σ' H' fun σ2 H2 => tb { nx := Pv (i + 1), rt := D.rt, bk := tz D, ct := Pv (i + 1) } σ2 H2) (hd : ∀ σ' H', Pv xs.length σ' H' → tz D σ' H') : tSeq (tFor (iSeqV K i) g tb) tz D σ H := by
  rcases hs with hs | hs
  · refine ⟨a, xs, hx, .inl ⟨ex_l x0 hs, ?_⟩⟩
    exact for_it (D := { D with nx := tz D }) walk_list Pv h0 (fun i σ' H' _ p => ex_l (hex i σ' H' p) hs) (fun i x σ' H' H2 hi p y => by
      obtain ⟨rfl, e⟩ := y
      exact ht i x σ' _ e p) hd
  · refine ⟨a, xs, hx, .inr ⟨ex_t x0 hs, ?_⟩⟩
    exact for_it (D := { D with nx := tz D }) walk_tup Pv h0 (fun i σ' H' _ p => ex_t (hex i σ' H' p) hs) (fun i x σ' H' H2 hi p y => by
      obtain ⟨rfl, e⟩ := y
      exact ht i x σ' _ e p) hd
theorem el_lockE {d : Addr} {u : HO} (hd : H d = some u) (m : Mut (some u)) (h : ∀ od H1, Ex H H1 → EvL tl σ (upd H1 d (.frz od u)) xs) : EvL (tLockE tl) σ H xs := by
  intro H1 x1 Q q
  refine ⟨d, u, x1 _ _ hd, m, fun od => h od H1 x1 _ (Ex.refl _) _ fun p H2 hp x2 e => ⟨x2 _ _ upd_same, ?_⟩⟩
  have ne : p ≠ d := by
    rintro rfl
    rw [upd_same] at hp
    cases hp
  rw [upd_ne ne] at hp
  refine q p _ hp (fun b o hb => ?_) (by rw [upd_ne ne]; exact e)
  by_cases nb : b = d
  · subst nb
    rw [x1 _ _ hd] at hb
    rw [upd_same, hb]
  · rw [upd_ne nb]
    refine x2 _ _ ?_
    rw [upd_ne nb]
    exact hb
end
end KU

set_option Elab.async false
set_option linter.all false
set_option maxRecDepth 100000
set_option maxHeartbeats 4000000
/-! Dict comprehensions over texts in a sequence, over the signs of a text: what is known of the entries -/
namespace KU
open PySem PySem.Spec PyProof.Rows L2 Evl
section
variable {K : PySem.W.Frag} {σ : L2.St} {H : Hp} {te tl tk tv : TE} {t : TT} {xs : List V} {j : Nat} {vs : List Nat}
theorem dc_seqG {a : Addr} {i : Nat} {ws : List Str} {H1 : Hp} {Q : VK} {φ : Str → V} (Iv : Nat → List (Key × V) → Prop) (i0 : Iv 0 []) (few : ∀ i kvs, Iv i kvs → kvs.length ≤ i)
    (step : ∀ i w kvs, ws[i]? = some w → Iv i kvs → Iv (i + 1) (putK kvs (Sum.inr w) (φ w))) (hx : σ[i]? = some (some (.ref a))) (hs : SqL K H1 a (ws.map V.str) ∨ SqT K H1 a (ws.map V.str)) (hl : ws.length ≤ 40000)
    (hw : ∀ x : V, wipe ((wipe σ vs).set j (some x)) vs = wipe σ vs) (hk : ∀ (x : Str) (H2 : Hp), Ev tk ((wipe σ vs).set j (some (.str x))) H2 (.str x)) (hv : ∀ (x : Str) (H2 : Hp), Ex H1 H2 → x ∈ ws → Ev tv ((wipe σ vs).set j (some (.str x))) H2 (φ x))
    (q : ∀ (D : Addr) (H2 : Hp) (kvs : List (Key × V)), H1 D = none → Ex H1 H2 → H2 D = some (.dK kvs) → Iv ws.length kvs → Q (.ref D) H2) : tDc (iSeqV K i) (gName j) tYes tk tv vs σ H1 Q := by
  have core : ∀ (J : It) (G : Hp → Prop), Walk J (ws.map V.str).length G (YAt (ws.map V.str)) → (∀ H2, Ex H1 H2 → G H2) → ∀ D, H1 D = none → ∃ W : Nat → Nat → Hp → Prop, (∃ m, W 0 m (upd H1 D (.dK []))) ∧ ∀ i m H, W i m H → (J.stop i H ∧ Q (.ref D) H) ∨ (J.go i H ∧ ∃ Nx : Hp → Prop, (∀ H', Nx H' → ∃ m', m' < m ∧ W (i + 1) m' H') ∧
      ∀ x H', J.yld i H x H' → gName j x (wipe σ vs) H' fun σ2 H2 => wipe σ2 vs = wipe σ vs ∧ tYes σ2 H2 fun b H3 => if b = true then tk σ2 H3 fun y H4 => tv σ2 H4 fun z H5 =>
        ∃ kvs k, y = kV k ∧ H5 D = some (.dK kvs) ∧ kvs.length < sizeLine ∧ Nx (upd H5 D (.dK (putK kvs k z))) else Nx H3) := by
    intro J G w hG D hD
    refine dc_it w (Pv := fun i H2 => Ex H1 H2 ∧ ∃ kvs, H2 D = some (.dK kvs) ∧ Iv i kvs) ⟨Ex.new hD, [], upd_same, i0⟩ (fun i H2 _ c => hG H2 c.1) (fun i x H2 H3 hi c y => ?_) fun H2 c => ?_
    · obtain ⟨rfl, hx⟩ := y
      obtain ⟨xx, kvs, eD, iv⟩ := c
      rw [List.getElem?_map] at hx
      cases e : ws[i]? with
      | none =>
        rw [e] at hx
        cases hx
      | some w0 =>
        rw [e] at hx
        cases hx
        refine ⟨hw _, et_yes (H := H3) H3 (Ex.refl _) _ fun H5 x5 => ?_⟩
        rw [if_pos rfl]
        refine hk w0 H5 H5 (Ex.refl _) _ fun H4 x4 => hv w0 H4 ((xx.trans x5).trans x4) (List.mem_of_getElem? e) H4 (Ex.refl _) _ fun H6 x6 => ?_
        have x3 := (x5.trans x4).trans x6
        refine ⟨kvs, Sum.inr w0, rfl, x3 _ _ eD, ?_, ?_, _, upd_same, step i w0 kvs e iv⟩
        · have := few i kvs iv
          have lt := (List.getElem?_eq_some_iff.mp e).1
          rw [sizeLine_eq]
          omega
        · intro b o hb
          have ne : b ≠ D := by
            rintro rfl
            rw [hD] at hb
            cases hb
          rw [upd_ne ne]
          exact x3 _ _ (xx _ _ hb)
    · obtain ⟨xx, kvs, eD, iv⟩ := c
      rw [List.length_map] at iv
      exact q D H2 kvs hD xx eD iv
  rcases hs with hs | hs
  · exact ⟨a, _, hx, .inl ⟨hs, fun D hD => core _ _ walk_list (fun H2 x2 => ex_l x2 hs) D hD⟩⟩
  · exact ⟨a, _, hx, .inr ⟨hs, fun D hD => core _ _ walk_tup (fun H2 x2 => ex_t x2 hs) D hD⟩⟩
/-- {c: .. for c in z}, z a text: an entry for each of its signs -/
theorem dc_txtG {z : Str} {H1 : Hp} {Q : VK} {φ : Nat → V} (hz : Ev te σ H1 (.str z)) (hl : z.length ≤ 40000) (hw : ∀ x : V, wipe ((wipe σ vs).set j (some x)) vs = wipe σ vs)
    (hk : ∀ (c : Nat) (H2 : Hp), Ev tk ((wipe σ vs).set j (some (.str ⟨#[c]⟩))) H2 (.str ⟨#[c]⟩)) (hv : ∀ (c : Nat) (H2 : Hp), Ex H1 H2 → c ∈ z.cps.toList → Ev tv ((wipe σ vs).set j (some (.str ⟨#[c]⟩))) H2 (φ c))
    (q : ∀ (D : Addr) (H2 : Hp) (kvs : List (Key × V)), H1 D = none → Ex H1 H2 → H2 D = some (.dK kvs) → kvs.length ≤ z.length → (∀ c ∈ z.cps.toList, valV kvs (Sum.inr ⟨#[c]⟩) = some (φ c)) → Q (.ref D) H2) : tDc (iStr te) (gName j) tYes tk tv vs σ H1 Q := by
  refine hz H1 (Ex.refl _) _ fun H1' x1 => ⟨z, rfl, fun D hD' => ?_⟩
  have hD : H1 D = none := fresh_back x1 hD'
  refine dc_it walk_str (Pv := fun i H2 => Ex H1 H2 ∧ ∃ kvs, H2 D = some (.dK kvs) ∧ kvs.length ≤ i ∧ ∀ k c, k < i → z.cps.toList[k]? = some c → valV kvs (Sum.inr ⟨#[c]⟩) = some (φ c)) ⟨x1.trans (Ex.new hD'), [], upd_same, Nat.le_refl _, fun k c h _ => absurd h (Nat.not_lt_zero _)⟩
    (fun _ _ _ _ => trivial) (fun i x H2 H3 hi p y => ?_) fun H2 p => ?_
  · obtain ⟨rfl, c0, hc, rfl⟩ := y
    obtain ⟨xx, kvs, eD, kl, all⟩ := p
    have hc' : z.cps.toList[i]? = some c0 := by
      rw [Array.getElem?_toList]
      exact hc
    refine ⟨hw _, et_yes (H := H3) H3 (Ex.refl _) _ fun H5 x5 => ?_⟩
    rw [if_pos rfl]
    refine hk c0 H5 H5 (Ex.refl _) _ fun H4 x4 => hv c0 H4 ((xx.trans x5).trans x4) (List.mem_of_getElem? hc') H4 (Ex.refl _) _ fun H6 x6 => ?_
    have x3 := (x5.trans x4).trans x6
    refine ⟨kvs, Sum.inr ⟨#[c0]⟩, rfl, x3 _ _ eD, ?_, ?_, _, upd_same, ?_, fun k c hk2 hk3 => ?_⟩
    · have e : z.length = z.cps.size := rfl
      rw [sizeLine_eq]
      omega
    · intro b o hb
      have ne : b ≠ D := by
        rintro rfl
        rw [hD] at hb
        cases hb
      rw [upd_ne ne]
      exact x3 _ _ (xx _ _ hb)
    · have := putK_len kvs (Sum.inr ⟨#[c0]⟩) (φ c0)
      omega
    · rw [valV_put]
      by_cases e : c = c0
      · subst e
        rw [if_pos rfl]
      · rw [if_neg fun q => e (by cases q; rfl)]
        refine all k c ?_ hk3
        refine Nat.lt_of_le_of_ne (Nat.le_of_lt_succ hk2) ?_
        rintro rfl
        rw [hc'] at hk3
        cases hk3
        exact e rfl
  · obtain ⟨xx, kvs, eD, kl, all⟩ := p
    refine q D H2 kvs hD xx eD kl fun c hc => ?_
    obtain ⟨k, hk1, hk2⟩ := List.getElem_of_mem hc
    refine all k c ?_ (by rw [List.getElem?_eq_getElem hk1, hk2])
    rw [Array.length_toList] at hk1
    exact hk1
end
end KU

set_option Elab.async false
set_option linter.all false
set_option maxRecDepth 100000
/-! Texts in order, each once -/
namespace KU
open PySem PySem.Spec PyProof.Rows L2
theorem ltCps_iff : ∀ a b : List Nat, ltCps a b = true ↔ a < b
  | [], [] => by simp [ltCps]
  | [], _ :: _ => by simp [ltCps]
  | _ :: _, [] => by simp [ltCps]
  | a :: r, b :: t => by
    have ih := ltCps_iff r t
    rw [List.cons_lt_cons_iff]
    simp only [ltCps]
    rw [← ih]
    simp [Bool.or_eq_true, Bool.and_eq_true]
theorem str_ext {a b : Str} (h : a.cps.toList = b.cps.toList) : a = b := by
  cases a with
  | mk x =>
    cases b with
    | mk y =>
      congr 1
      exact Array.ext' h
theorem rising_pw (x : Str) (l : List Str) (h : risingS x l = true) : (x :: l).Pairwise fun a b => a.cps.toList ≤ b.cps.toList := by
  induction l generalizing x with
  | nil => exact List.pairwise_singleton _ _
  | cons y r ih =>
    simp only [risingS, Bool.and_eq_true, Bool.not_eq_true'] at h
    have z := ih y h.2
    have le : x.cps.toList ≤ y.cps.toList := by
      refine List.not_lt.mp fun q => ?_
      have := (ltCps_iff _ _).mpr q
      rw [this] at h
      exact absurd h.1 (by decide)
    refine List.Pairwise.cons (fun b hb => ?_) z
    rcases List.mem_cons.mp hb with rfl | hb
    · exact le
    · exact List.le_trans le (List.rel_of_pairwise_cons z hb)
theorem sorted_pw {l : List Str} (h : sortedS l = true) : l.Pairwise fun a b => a.cps.toList ≤ b.cps.toList := by
  cases l with
  | nil => exact List.Pairwise.nil
  | cons x r => exact rising_pw x r h
theorem sorted_unique {a b : List Str} (p : a.Perm b) (ha : sortedS a = true) (hb : sortedS b = true) : a = b :=
  p.eq_of_pairwise (fun x y _ _ h1 h2 => str_ext (List.le_antisymm h1 h2)) (sorted_pw ha) (sorted_pw hb)
/-- the texts, each at its first place -/
def uniq (ws : List Str) : List Str := ws.foldl (fun acc w => if w ∈ acc then acc else acc ++ [w]) []
theorem uniq_snoc (ws : List Str) (w : Str) : uniq (ws ++ [w]) = if w ∈ uniq ws then uniq ws else uniq ws ++ [w] := by
  unfold uniq
  rw [List.foldl_append]
  rfl
theorem snoc_ind {α : Type} {p : List α → Prop} (h0 : p []) (h1 : ∀ l a, p l → p (l ++ [a])) (l : List α) : p l := by
  have : ∀ r : List α, p r.reverse := by
    intro r
    induction r with
    | nil => exact h0
    | cons a t ih =>
      rw [List.reverse_cons]
      exact h1 _ _ ih
  have z := this l.reverse
  rw [List.reverse_reverse] at z
  exact z
theorem mem_uniq (ws : List Str) (x : Str) : x ∈ uniq ws ↔ x ∈ ws := by
  induction ws using snoc_ind with
  | h0 => exact Iff.rfl
  | h1 l a ih =>
    rw [uniq_snoc]
    split
    · rename_i h
      rw [ih, List.mem_append, List.mem_singleton]
      constructor
      · exact .inl
      · rintro (q | rfl)
        · exact q
        · exact ih.mp h
    · rw [List.mem_append, List.mem_append, ih]
theorem nodup_uniq (ws : List Str) : (uniq ws).Nodup := by
  induction ws using snoc_ind with
  | h0 => exact List.nodup_nil
  | h1 l a ih =>
    rw [uniq_snoc]
    split
    · exact ih
    · rename_i h
      refine List.nodup_append.mpr ⟨ih, List.pairwise_singleton _ _, fun x hx y hy => ?_⟩
      rw [List.mem_singleton] at hy
      subst hy
      rintro rfl
      exact h hx
theorem uniq_len (ws : List Str) : (uniq ws).length ≤ ws.length := by
  induction ws using snoc_ind with
  | h0 => exact Nat.le_refl _
  | h1 l a ih =>
    rw [uniq_snoc]
    split
    · rw [List.length_append]
      omega
    · rw [List.length_append, List.length_append]
      exact Nat.add_le_add_right ih _
theorem keysD_uniq (ws : List Str) : keysD ws = (uniq ws).map fun w => (Sum.inr w, V.bl true) := by
  induction ws using snoc_ind with
  | h0 => rfl
  | h1 l a ih =>
    rw [keysD_snoc, uniq_snoc, ih]
    unfold putK
    by_cases h : a ∈ uniq l
    · have e : (((uniq l).map fun w => ((Sum.inr w : Key), V.bl true)).any fun kv => decide (kv.1 = Sum.inr a)) = true := by
        rw [List.any_map, List.any_eq_true]
        exact ⟨a, h, by simp⟩
      rw [if_pos e, if_pos h, List.map_map]
      refine List.map_congr_left fun x _ => ?_
      show (if (Sum.inr x : Key) = Sum.inr a then ((Sum.inr x : Key), V.bl true) else (Sum.inr x, V.bl true)) = _
      split <;> rfl
    · have e : ¬ (((uniq l).map fun w => ((Sum.inr w : Key), V.bl true)).any fun kv => decide (kv.1 = Sum.inr a)) = true := by
        rw [List.any_map, List.any_eq_true]
        rintro ⟨x, hx, q⟩
        have : (Sum.inr x : Key) = Sum.inr a := of_decide_eq_true q
        cases this
        exact h hx
      rw [if_neg e, if_neg h, List.map_append]
      rfl
theorem keysD_keys (ws : List Str) : (keysD ws).map (fun kv => kV kv.1) = (uniq ws).map V.str := by
  rw [keysD_uniq, List.map_map]
  rfl
/-- two lists of texts, each once, of the same texts, sorted: one list -/
theorem sorted_same {a b x y : List Str} (pa : x.Perm a) (pb : y.Perm b) (na : a.Nodup) (nb : b.Nodup) (same : ∀ t, t ∈ a ↔ t ∈ b) (hx : sortedS x = true) (hy : sortedS y = true) : x = y :=
  sorted_unique ((pa.trans ((List.perm_ext_iff_of_nodup na nb).mpr same)).trans pb.symm) hx hy
end KU

set_option Elab.async false
set_option linter.all false
set_option maxRecDepth 100000
/-! Lists and tuples of texts as data -/
namespace KU
open PySem PySem.Spec PyProof.Rows L2 Evl
def dstrs (ws : List Str) : List PyData := ws.map PyData.str
theorem dp_strs {K : PySem.W.Frag} {H : Hp} : ∀ ws : List Str, DpAll K H (ws.map V.str) (dstrs ws)
  | [] => .nil
  | n :: r => .cons (.str n) (dp_strs r)
theorem lay_strs (l : List Str) (h : ∀ t ∈ l, PyData.strOk t = true) : PyData.canLayAll0 (dstrs l) = true := by
  induction l with
  | nil => rfl
  | cons n r ih =>
    have z := ih fun t m => h t (List.mem_cons_of_mem _ m)
    have y := h n List.mem_cons_self
    simp only [dstrs, List.map_cons, PyData.canLayAll0, PyData.canLay0, Bool.and_eq_true] at z ⊢
    exact ⟨y, z⟩
theorem depth_strs (l : List Str) : PyData.depthAll (dstrs l) ≤ 1 := by
  induction l with
  | nil => simp [dstrs, PyData.depthAll]
  | cons n r ih =>
    have z : PyData.depthAll (dstrs (n :: r)) = max (PyData.depth (.str n)) (PyData.depthAll (dstrs r)) := by simp [dstrs, PyData.depthAll]
    rw [z]
    have y : PyData.depth (.str n) ≤ 1 := by simp [PyData.depth]
    omega
theorem eqvAll_strs : ∀ a b : List Str, PyData.eqvAll (dstrs a) (dstrs b) = decide (a = b)
  | [], [] => rfl
  | [], _ :: _ => by simp [dstrs, PyData.eqvAll]
  | _ :: _, [] => by simp [dstrs, PyData.eqvAll]
  | x :: r, y :: t => by
    have ih := eqvAll_strs r t
    have e : PyData.eqvAll (dstrs (x :: r)) (dstrs (y :: t)) = (PyData.eqv (.str x) (.str y) && PyData.eqvAll (dstrs r) (dstrs t)) := by simp [dstrs, PyData.eqvAll]
    rw [e, ih]
    have e2 : PyData.eqv (.str x) (.str y) = decide (x = y) := by
      show (x == y) = decide (x = y)
      by_cases h : x = y
      · subst h
        simp
      · rw [decide_eq_false h]
        exact beq_eq_false_iff_ne.mpr h
    rw [e2]
    by_cases h : x = y
    · by_cases g : r = t
      · simp [h, g]
      · simp [h, g]
    · simp [h]
theorem shaped_strsL (l : List Str) (h : ∀ t ∈ l, PyData.strOk t = true) : SeqAt.shaped (.list (dstrs l)) = true := by
  unfold SeqAt.shaped
  have c := depth_strs l
  have d : PyData.depth (.list (dstrs l)) ≤ 64 := by
    simp only [PyData.depth]
    omega
  simp only [PyData.canLay0, lay_strs l h, Bool.true_and, decide_eq_true d]
theorem shaped_strsT (l : List Str) (h : ∀ t ∈ l, PyData.strOk t = true) : SeqAt.shaped (.tuple (dstrs l)) = true := by
  unfold SeqAt.shaped
  have c := depth_strs l
  have d : PyData.depth (.tuple (dstrs l)) ≤ 64 := by
    simp only [PyData.depth]
    omega
  simp only [PyData.canLay0, lay_strs l h, Bool.true_and, decide_eq_true d]
theorem eqv_strsL (a b : List Str) : PyData.eqv (.list (dstrs a)) (.list (dstrs b)) = decide (a = b) := by
  rw [← eqvAll_strs]
  simp [PyData.eqv]
theorem eqv_strsT (a b : List Str) : PyData.eqv (.tuple (dstrs a)) (.tuple (dstrs b)) = decide (a = b) := by
  rw [← eqvAll_strs]
  simp [PyData.eqv]
section
variable {K : PySem.W.Frag} {σ : L2.St} {H : Hp} {te tl ta tb : TE}
/-- two tuples of texts -/
theorem ev_eqT {p q : Addr} {a b : List Str} (ha : Ev ta σ H (.ref p)) (hb : Ev tb σ H (.ref q)) (h1 : H p = some (.tup (a.map V.str))) (h2 : H q = some (.tup (b.map V.str))) (o1 : ∀ t ∈ a, PyData.strOk t = true) (o2 : ∀ t ∈ b, PyData.strOk t = true) :
    Ev (tOp (rEqD K) ta tb) σ H (.bl (decide (a = b))) := ev_op ha hb fun H1 x1 Q k => by
  rw [← eqv_strsT] at k
  exact ⟨_, _, .tup (st_of (x1 _ _ h1)) (dp_strs a), .tup (st_of (x1 _ _ h2)) (dp_strs b), shaped_strsT a o1, shaped_strsT b o2, k H1 (Ex.refl _)⟩
theorem ev_neT {p q : Addr} {a b : List Str} (ha : Ev ta σ H (.ref p)) (hb : Ev tb σ H (.ref q)) (h1 : H p = some (.tup (a.map V.str))) (h2 : H q = some (.tup (b.map V.str))) (o1 : ∀ t ∈ a, PyData.strOk t = true) (o2 : ∀ t ∈ b, PyData.strOk t = true) :
    Ev (tOp (rNeD K) ta tb) σ H (.bl (!decide (a = b))) := ev_op ha hb fun H1 x1 Q k => by
  rw [← eqv_strsT] at k
  exact ⟨_, _, .tup (st_of (x1 _ _ h1)) (dp_strs a), .tup (st_of (x1 _ _ h2)) (dp_strs b), shaped_strsT a o1, shaped_strsT b o2, k H1 (Ex.refl _)⟩
end
end KU

set_option Elab.async false
set_option linter.all false
set_option maxRecDepth 100000
set_option maxHeartbeats 4000000
/-! Lists of texts by ==, != -/
namespace KU
open PySem PySem.Spec PyProof.Rows L2 Evl
/-- a new list is told -/
def NewL (xs : List V) (H : Hp) (Q : VK) : Prop := ∀ (p : Addr) (H' : Hp), H p = none → Ex H H' → H' p = some (.lst xs) → Q (.ref p) H'
theorem NewL.mono {xs : List V} {H H' : Hp} {Q : VK} (x : Ex H H') (k : NewL xs H Q) : NewL xs H' Q := fun p H2 hp x2 e => k p H2 (fresh_back x hp) (x.trans x2) e
section
variable {K : PySem.W.Frag} {σ : L2.St} {H : Hp} {te tl ta tb : TE} {D : Ends}
theorem rv_eqL {p q : Addr} {a b : List Str} (h1 : H p = some (.lst (a.map V.str))) (h2 : H q = some (.lst (b.map V.str))) (o1 : ∀ t ∈ a, PyData.strOk t = true) (o2 : ∀ t ∈ b, PyData.strOk t = true) : RV (rEqD K) (.ref p) (.ref q) H (.bl (decide (a = b))) := by
  intro H1 x1 Q k
  rw [← eqv_strsL] at k
  exact ⟨_, _, .lst (sq_of (x1 _ _ h1)) (dp_strs a), .lst (sq_of (x1 _ _ h2)) (dp_strs b), shaped_strsL a o1, shaped_strsL b o2, k H1 (Ex.refl _)⟩
theorem rv_neL {p q : Addr} {a b : List Str} (h1 : H p = some (.lst (a.map V.str))) (h2 : H q = some (.lst (b.map V.str))) (o1 : ∀ t ∈ a, PyData.strOk t = true) (o2 : ∀ t ∈ b, PyData.strOk t = true) : RV (rNeD K) (.ref p) (.ref q) H (.bl (!decide (a = b))) := by
  intro H1 x1 Q k
  rw [← eqv_strsL] at k
  exact ⟨_, _, .lst (sq_of (x1 _ _ h1)) (dp_strs a), .lst (sq_of (x1 _ _ h2)) (dp_strs b), shaped_strsL a o1, shaped_strsL b o2, k H1 (Ex.refl _)⟩
theorem rv_eqTT {p q : Addr} {a b : List Str} (h1 : H p = some (.tup (a.map V.str))) (h2 : H q = some (.tup (b.map V.str))) (o1 : ∀ t ∈ a, PyData.strOk t = true) (o2 : ∀ t ∈ b, PyData.strOk t = true) : RV (rEqD K) (.ref p) (.ref q) H (.bl (decide (a = b))) := by
  intro H1 x1 Q k
  rw [← eqv_strsT] at k
  exact ⟨_, _, .tup (st_of (x1 _ _ h1)) (dp_strs a), .tup (st_of (x1 _ _ h2)) (dp_strs b), shaped_strsT a o1, shaped_strsT b o2, k H1 (Ex.refl _)⟩
theorem rv_neTT {p q : Addr} {a b : List Str} (h1 : H p = some (.tup (a.map V.str))) (h2 : H q = some (.tup (b.map V.str))) (o1 : ∀ t ∈ a, PyData.strOk t = true) (o2 : ∀ t ∈ b, PyData.strOk t = true) : RV (rNeD K) (.ref p) (.ref q) H (.bl (!decide (a = b))) := by
  intro H1 x1 Q k
  rw [← eqv_strsT] at k
  exact ⟨_, _, .tup (st_of (x1 _ _ h1)) (dp_strs a), .tup (st_of (x1 _ _ h2)) (dp_strs b), shaped_strsT a o1, shaped_strsT b o2, k H1 (Ex.refl _)⟩
/-- a list that is made == [] -/
theorem ev_eqNil {a : List Str} (ha : EvL ta σ H (a.map V.str)) (o : ∀ t ∈ a, PyData.strOk t = true) : Ev (tOp (rEqD K) ta (tLst tNil)) σ H (.bl (decide (a = []))) :=
  ev_opLL ha (el_lst (vs := ([] : List Str).map V.str) ea_nil (by decide)) fun p q H1 h1 h2 x1 => rv_eqL h1 h2 o fun t ht => by cases ht
/-- tuple(list) of texts -/
theorem eu_tuple {a : List Str} (ha : EvL ta σ H (a.map V.str)) : EvU (tCB (fun xs H Q => ∃ (p : Addr) (ys : List V), xs = [V.ref p] ∧ ((SqL K H p ys ∧ ∀ l : Addr, H l = none → Q (V.ref l) (upd H l (.tup ys))) ∨ (SqT K H p ys ∧ Q (V.ref p) H))) (tCons ta tNil)) σ H (a.map V.str) :=
  fun H1 x1 Q q => ha H1 x1 _ fun p H2 hp x2 e => ⟨p, _, rfl, .inl ⟨sq_of e, fun l hl => q l _ (fresh_back x2 hl) (x2.trans (Ex.new hl)) upd_same⟩⟩
theorem eu_tupleV {p : Addr} {a : List Str} (ha : Ev ta σ H (.ref p)) (hp : H p = some (.lst (a.map V.str))) : EvU (tCB (fun xs H Q => ∃ (p : Addr) (ys : List V), xs = [V.ref p] ∧ ((SqL K H p ys ∧ ∀ l : Addr, H l = none → Q (V.ref l) (upd H l (.tup ys))) ∨ (SqT K H p ys ∧ Q (V.ref p) H))) (tCons ta tNil)) σ H (a.map V.str) :=
  fun H1 x1 Q q => ha H1 x1 _ fun H2 x2 => ⟨p, _, rfl, .inl ⟨sq_of (x2 _ _ (x1 _ _ hp)), fun l hl => q l _ (fresh_back x2 hl) (x2.trans (Ex.new hl)) upd_same⟩⟩
theorem ev_callL {sp : Sp} {E : XK} {xs : List V} {v : V} (hl : Ev ta σ H v) (h : ∀ H1, Ex H H1 → ∀ Q : VK, NewL xs H1 Q → sp [v] H1 Q E) : EvL (tCall sp [] E (tCons ta tNil)) σ H xs :=
  fun H1 x1 Q q => hl H1 x1 _ fun H2 x2 => h H2 (x1.trans x2) Q fun p H3 hp x3 e => q p H3 (fresh_back x2 hp) (x2.trans x3) e
end
end KU

set_option Elab.async false
set_option linter.all false
set_option maxRecDepth 100000
set_option maxHeartbeats 4000000
/-! Displays of things with properties -/
namespace KU
open PySem PySem.Spec PyProof.Rows L2 Evl
def EvQ (te : TE) (σ : L2.St) (H : Hp) (P : V → Hp → Prop) : Prop := EvP te σ H P ∧ Up P
def EvQA (ta : TA) (σ : L2.St) (H : Hp) (Ps : List (V → Hp → Prop)) : Prop := EvPA ta σ H (Each Ps) ∧ ∀ P ∈ Ps, Up P
def Is (u : V) : V → Hp → Prop := fun v _ => v = u
/-- a list of just these values, above the startup's objects -/
def LstIs (vals : List V) : V → Hp → Prop := fun v H => ∃ l, v = .ref l ∧ l ≠ sysModules ∧ H l = some (.lst vals)
theorem up_lstIs (vals : List V) : Up (LstIs vals) := fun v H H' e ⟨l, h1, h2, h3⟩ => ⟨l, h1, h2, e _ _ h3⟩
section
variable {K : PySem.W.Frag} {σ : L2.St} {H : Hp} {ta te tb : TE} {tr : TA} {P : V → Hp → Prop} {Ps Qs : List (V → Hp → Prop)} {v y z : V} {C : Addr} {f g : Str}
theorem eq_nil : EvQA tNil σ H [] := ⟨ep_nil, fun P h => by cases h⟩
theorem eq_cons (h : EvQ te σ H P) (hr : EvQA tr σ H Ps) : EvQA (tCons te tr) σ H (P :: Ps) := ⟨ep_cons h.2 h.1 hr.1, fun Q hQ => by
  rcases List.mem_cons.mp hQ with e | e
  · rw [e]
    exact h.2
  · exact hr.2 Q e⟩
theorem eq_lst (h : EvQA tr σ H Ps) (small : Ps.length ≤ 1000) : EvQ (tLst tr) σ H (IsL Ps) := ⟨ep_lst h.2 h.1 (by omega), up_isL h.2⟩
theorem eq_tup (h : EvQA tr σ H Ps) (small : Ps.length ≤ 1000) : EvQ (tTup tr) σ H (IsT Ps) := ⟨ep_tup h.2 h.1 (by omega), up_isT h.2⟩
theorem eq_var {i : Nat} (h : σ[i]? = some (some v)) (u : Up P) (p : P v H) : EvQ (tVar i) σ H P := ⟨ep_var u h p, u⟩
theorem eq_of (h : Ev te σ H v) : EvQ te σ H (Is v) := ⟨EvP.of h, up_eq v⟩
theorem eq_cat (u1 : ∀ P ∈ Ps, Up P) (u2 : ∀ P ∈ Qs, Up P) (h1 : EvQ ta σ H (IsL Ps)) (h2 : EvQ tb σ H (IsL Qs)) (small : Ps.length + Qs.length ≤ 1000) : EvQ (tOp rCat ta tb) σ H (IsL (Ps ++ Qs)) := ⟨ep_cat u1 u2 h1.1 h2.1 (by omega), up_isL fun P hP => by
  rcases List.mem_append.mp hP with z | z
  · exact u1 P z
  · exact u2 P z⟩
/-- a list at a name and a display joined -/
theorem eq_more {i : Nat} (u1 : ∀ P ∈ Ps, Up P) (h : σ[i]? = some (some v)) (p : IsL Ps v H) (h2 : EvQA tr σ H Qs) (small : Ps.length + Qs.length ≤ 1000) : EvQ (tOp rCat (tVar i) (tLst tr)) σ H (IsL (Ps ++ Qs)) :=
  eq_cat u1 h2.2 (eq_var h (up_isL u1) p) (eq_lst h2 (by omega)) small
theorem ups_app (u1 : ∀ P ∈ Ps, Up P) (u2 : ∀ P ∈ Qs, Up P) : ∀ P ∈ Ps ++ Qs, Up P := fun P hP => by
  rcases List.mem_append.mp hP with z | z
  · exact u1 P z
  · exact u2 P z
theorem eq_lstB {vs : List V} (h : EvA tr σ H vs) (small : vs.length ≤ 1000) : EvQ (tLstB tr) σ H (LstIs vs) := ⟨fun H1 e Q q =>
  h H1 e _ fun H2 e2 => ⟨sz_of (by omega), fun p hp hb => q _ _ (e2.trans (Ex.new hp)) ⟨p, rfl, hb, upd_same⟩⟩, up_lstIs vs⟩
theorem eq_err1 (T : OexC K C) (no : ∀ x ∈ ([f] : List Str), PySem.W.findIn K (.ref C) x = some none) (h : Ev ta σ H y) : EvQ (tErr C (spI1 K f) (tCons ta tNil)) σ H (IsE C [(f, y)]) := ⟨ep_err1 T (no f (List.mem_cons_self ..)) h, up_isE _ _⟩
theorem eq_err2 (T : OexC K C) (no : ∀ x ∈ ([f, g] : List Str), PySem.W.findIn K (.ref C) x = some none) (h : Ev ta σ H y) (h2 : Ev tb σ H z) : EvQ (tErr C (spI2 K f g) (tCons ta (tCons tb tNil))) σ H (IsE C [(g, z), (f, y)]) :=
  ⟨ep_err2 T (no f (List.mem_cons_self ..)) (no g (List.mem_cons_of_mem _ (List.mem_cons_self ..))) h h2, up_isE _ _⟩
theorem eq_errK1 (T : OexC K C) (no : ∀ x ∈ ([f] : List Str), PySem.W.findIn K (.ref C) x = some none) (h : Ev ta σ H y) : EvQ (tErrK C 1 (spI1 K f) List.reverse (tCons ta tNil)) σ H (IsE C [(f, y)]) := ⟨ep_errK1 T (no f (List.mem_cons_self ..)) h, up_isE _ _⟩
theorem eq_errK2 (T : OexC K C) (no : ∀ x ∈ ([f, g] : List Str), PySem.W.findIn K (.ref C) x = some none) (h2 : Ev tb σ H z) (h : Ev ta σ H y) : EvQ (tErrK C 2 (spI2 K f g) List.reverse (tCons tb (tCons ta tNil))) σ H (IsE C [(g, z), (f, y)]) :=
  ⟨ep_errK2 T (no f (List.mem_cons_self ..)) (no g (List.mem_cons_of_mem _ (List.mem_cons_self ..))) h2 h, up_isE _ _⟩
theorem eq_bare {vs : List V} (h : EvA tr σ H vs) (small : vs.length ≤ 1000) : EvQ (tBare C tr) σ H (IsE C []) := ⟨ep_bare h small, up_isE _ _⟩
theorem q_asgQ {D : Ends} {tz : TS} {i : Nat} (h : EvQ te σ H P) (k : ∀ v H1, Ex H H1 → P v H1 → tz D (σ.set i (some v)) H1) : tSeq (tAsg te (gName i)) tz D σ H := q_asgP h.1 k
theorem s_retQ {D : Ends} (h : EvQ te σ H P) (k : ∀ v H1, Ex H H1 → P v H1 → D.rt v H1) : tRet te D σ H := s_retP h.1 k
end
/-- a list at an address joined with a new one -/
theorem el_cat {σ : L2.St} {H : Hp} {ta tb : TE} {p : Addr} {xs ys : List V} (h1 : Ev ta σ H (.ref p)) (hp : H p = some (.lst xs)) (h2 : EvL tb σ H ys) (small : xs.length + ys.length ≤ 1000) : EvL (tOp rCat ta tb) σ H (xs ++ ys) := fun H1 e Q q =>
  h1 H1 e _ fun H2 e2 => h2 H2 (e.trans e2) _ fun m H3 _ e3 hm => ⟨p, m, xs, ys, rfl, rfl, ((e.trans e2).trans e3) _ _ hp, hm, sz_of (by omega), fun l hl => q l _ (fresh_back (e2.trans e3) hl) ((e2.trans e3).trans (Ex.new hl)) upd_same⟩
end KU

set_option Elab.async false
set_option linter.all false
set_option maxRecDepth 100000
set_option maxHeartbeats 4000000
/-! Data and their reprs, tests whose answer is no -/
namespace KU
open PySem PySem.Spec PyProof.Rows L2 Evl
mutual
theorem RD.mono {K : PySem.W.Frag} {H H' : Hp} (x : Ex H H') : ∀ {v : V} {d : PyData}, RD K H v d → RD K H' v d
  | _, _, .non => .non
  | _, _, .bl b => .bl b
  | _, _, .int i => .int i
  | _, _, .str s => .str s
  | _, _, .tup h r => .tup (ex_t x h) (RDs.mono x r)
  | _, _, .lst h n r => .lst (ex_l x h) n (RDs.mono x r)
  | _, _, .dic h => .dic (x _ _ h)
theorem RDs.mono {K : PySem.W.Frag} {H H' : Hp} (x : Ex H H') : ∀ {vs : List V} {ds : List PyData}, RDs K H vs ds → RDs K H' vs ds
  | _, _, .nil => .nil
  | _, _, .cons h r => .cons (RD.mono x h) (RDs.mono x r)
end
/-- small enough for repr -/
def shows (d : PyData) : Bool := d.showable && decide (d.depth ≤ 60) && decide (d.shown.length ≤ 100000)
section
variable {K : PySem.W.Frag} {σ : L2.St} {H : Hp} {te ta tb : TE} {P : V → Hp → Prop}
theorem ev_repr {vals : List V} {ds : List PyData} (h : EvP te σ H (LstIs vals)) (r : RDs K H vals ds) (ok : shows (.list ds) = true) : Ev (tCB (rRepr K) (tCons te tNil)) σ H (.str (PyData.list ds).shown) := fun H1 e Q q =>
  h H1 e _ fun v H2 e2 p => by
    obtain ⟨l, rfl, hb, hl⟩ := p
    unfold shows at ok
    simp only [Bool.and_eq_true, decide_eq_true_eq] at ok
    exact ⟨l, .list ds, rfl, .lst (.inl (.inl hl)) hb (r.mono (e.trans e2)), ok.1.1, ok.1.2, ok.2, q H2 e2⟩
theorem et_neS {t : Str} (a : Ev ta σ H (.str t)) (b : Ev tb σ H (.str t)) : EvT (tTest (tOp rNe ta tb)) σ H false := by
  have z := et_test (ev_op a b (rv_ne rfl))
  rw [decide_eq_true rfl] at z
  exact z
theorem et_neL {xs : List Int} (a : EvL ta σ H (vints xs)) (b : EvL tb σ H (vints xs)) (same : PyData.eqv (.list (dints xs)) (.list (dints xs)) = true) : EvT (tTest (tOp (rNeD K) ta tb)) σ H false := by
  have z := et_test (ev_opLL (r := rNeD K) (z := .bl (!PyData.eqv (.list (dints xs)) (.list (dints xs)))) a b fun p q H1 hp hq x =>
    rv_neD (fun H2 x2 => .lst (sq_of (x2 _ _ hp)) (dp_ints xs)) (fun H2 x2 => .lst (sq_of (x2 _ _ hq)) (dp_ints xs)) (shaped_ints xs) (shaped_ints xs))
  rw [same] at z
  exact z
theorem eqv_one (i : Int) : PyData.eqv (.list (dints [i])) (.list (dints [i])) = true := by simp [dints, PyData.eqv, PyData.eqvAll]
theorem et_or2 {t u : TT} (a : EvT t σ H false) (b : EvT u σ H false) : EvT (tOr t u) σ H false := et_or a fun _ => b
theorem et_no {t : TT} (a : EvT t σ H true) : EvT (tNot t) σ H false := et_not a
theorem ev_isP {C : Addr} {fs : List (Str × V)} {c : V} {u : Value} {b : Bool} (h : EvP te σ H (IsE C fs)) (T : ExcC K C) (k : ClsV c u) (hb : PySem.W.kitOne K (.ref C) u = some b) : Ev (tCB (rIsErr K) (tCons te (tCons (tC c) tNil))) σ H (.bl b) := fun H1 e Q q =>
  h H1 e _ fun v H2 e2 p => by
    obtain ⟨a, rfl, at_⟩ := p
    exact ⟨a, C, fs, c, u, b, rfl, k, T, at_, hb, q H2 e2⟩
/-- a call whose promise tells a property of the answer -/
theorem ep_call {sp : Sp} {E : XK} {ta : TA} {vs : List V} (h : EvA ta σ H vs) (p : ∀ H1, Ex H H1 → ∀ Q : VK, (∀ v H2, Ex H1 H2 → P v H2 → Q v H2) → sp (vs ++ []) H1 Q E) : EvP (tCall sp [] E ta) σ H P := fun H1 e Q q =>
  h H1 e _ fun H2 e2 => p H2 (e.trans e2) Q fun v H3 e3 pv => q v H3 (e2.trans e3) pv
end
end KU

set_option Elab.async false
set_option linter.all false
set_option maxRecDepth 100000
set_option maxHeartbeats 4000000
/-! Values that are no texts: compared with texts, looked for among texts, their reprs, their types -/
namespace KU
open PySem PySem.Spec PyProof.Rows L2 Evl
section
open AutoSeq1 (wpAny_loadPart')
open MeetsSeq
variable {A : Around} {s : Shared}
theorem dict_declines (l : Addr) (oc : Obj) (hc : oc.cls = .type "dict") (b : Str) (u : Tok) :
    Meets (Builtin.«dict.__eq__» ⟨[.ref l, .str b u], []⟩) (fun _ R s => s.heap.get? l = some oc ∧ R (.ok (.ret .notImplemented)) s) :=
  .of_wp fun prog w A R s h => by
    obtain ⟨c, dd, da, sl⟩ := oc
    simp only at hc
    subst hc
    obtain ⟨hp, g, d, tk, os⟩ := s
    obtain ⟨hl, h⟩ := h
    have f1 := F.sub_str_dict
    wp_walk using wpAny_loadPart' hl
    exact ⟨_, rfl, h⟩
theorem str_declines (l : Addr) (oc : Obj) (hc : oc.cls = .type "dict") {es : Array DictEntry} {ep : Nat} (hd : oc.data = .dict es ep) (b : Str) (u : Tok) :
    Meets (Builtin.«str.__eq__» ⟨[.str b u, .ref l], []⟩) (fun _ R s => s.heap.get? l = some oc ∧ R (.ok (.ret .notImplemented)) s) :=
  .of_wp fun prog w A R s h => by
    obtain ⟨c, dd, da, sl⟩ := oc
    simp only at hc hd
    subst hc hd
    obtain ⟨hp, g, d, tk, os⟩ := s
    obtain ⟨hl, h⟩ := h
    have f1 := F.sub_dict_str
    wp_walk using wpAny_loadPart' hl, wpAny_load hl
    exact ⟨_, rfl, h⟩
/-- a text == a dict -/
theorem str_dict {l : Addr} {oc : Obj} (b : Str) (u : Tok) (ho : s.heap.get? l = some oc) (hc : oc.cls = .type "dict") {es : Array DictEntry} {ep : Nat} (hd : oc.data = .dict es ep) (hu : A.units < cLine) : SeqAt.EqAt A s (.str b u) (.ref l) false := fun prog w E Q h => by
  have rc : ∀ Q' : Value → Shared → Prop, Q' (.bool false) s → wpAny (model prog w) A (richCompare .Eq (.str b u) (.ref l)) Q' E s := fun Q' q =>
    SeqAt.rc_eq_decline_or (k := false) (typeIs_str s b u) ⟨_, ho, hc⟩ (by decide) F.sub_dict_str F.slot_str_eq F.slot_dict_eq_refl
      (fun _ z => call_meets F.slot_str_eq (typeIs_str s b u) F.entry_str_eq (F.args_str_eq_2 _ _) (str_declines l oc hc hd b u) ⟨ho, z⟩)
      (fun _ z => call_meets F.slot_dict_eq_refl ⟨_, ho, hc⟩ F.entry_dict_eq (F.args_dict_eq_2 _ _) (dict_declines l oc hc b u) ⟨ho, z⟩)
      (fun _ z => wpAny_of_eq (rfl : isSame (.str b u) (.ref l) = pure false) z) (.inr hu) q
  unfold eqBool
  exact wpAny_holding (wpAny_ite_split (fun same => absurd (eq_of_beq same) nofun) fun _ => wpAny_bind (rc _ (wpAny_truthy_bool h)))
end

/-- the values that the law asks with: data, no dict but the empty one -/
inductive Odd (H : Hp) : V → Prop where
  | non : Odd H .non
  | bl (b : Bool) : Odd H (.bl b)
  | int (i : Int) : Odd H (.int i)
  | str (t : Str) : Odd H (.str t)
  | lst {a : Addr} {xs : List Str} : H a = some (.lst (xs.map V.str)) → a ≠ sysModules → Odd H (.ref a)
  | tup {a : Addr} {xs : List Str} : H a = some (.tup (xs.map V.str)) → Odd H (.ref a)
  | dic {a : Addr} : H a = some (.dK []) → Odd H (.ref a)
theorem Odd.mono {H H' : Hp} (x : Ex H H') : ∀ {v : V}, Odd H v → Odd H' v
  | _, .non => .non
  | _, .bl b => .bl b
  | _, .int i => .int i
  | _, .str t => .str t
  | _, .lst h n => .lst (x _ _ h) n
  | _, .tup h => .tup (x _ _ h)
  | _, .dic h => .dic (x _ _ h)
def isStrV : V → Bool
  | .str _ => true
  | _ => false
/-- an odd value's type, as isinstance asks it -/
theorem Odd.ty {K : PySem.W.Frag} {H : Hp} {v : V} (o : Odd H v) : ∃ t, TyX K H v t ∧ PySem.W.kitOne K t (.type "str") = some (isStrV v) := by
  cases o with
  | non => exact ⟨_, .base .non, (kit_ty (by decide +kernel) : _ = some false)⟩
  | bl b => exact ⟨_, .base (.bl b), (kit_ty (by decide +kernel) : _ = some false)⟩
  | int i => exact ⟨_, .base (.int i), (kit_ty (by decide +kernel) : _ = some false)⟩
  | str t => exact ⟨_, .base (.str t), (kit_ty (by decide +kernel) : _ = some true)⟩
  | lst h n => exact ⟨_, .base (.lst h), (kit_ty (by decide +kernel) : _ = some false)⟩
  | tup h => exact ⟨_, .base (.tup h), (kit_ty (by decide +kernel) : _ = some false)⟩
  | dic h => exact ⟨_, .base (.dK h), (kit_ty (by decide +kernel) : _ = some false)⟩
section
variable {X : Cx} {K : PySem.W.Frag} {σ : L2.St} {H : Hp} {te ta tb : TE}
theorem ev_isStr {v : V} (h : Ev te σ H v) (o : Odd H v) : Ev (tCB (rIsi K) (tCons te (tCons (tC (.ty "str")) tNil))) σ H (.bl (isStrV v)) :=
  ev_cb (ea_cons h (ea_cons ev_c ea_nil)) fun H1 x1 Q q => by
    obtain ⟨t, ty, e⟩ := (o.mono x1).ty (K := K)
    exact ⟨v, _, t, _, _, rfl, .ty "str", ty, e, q H1 (Ex.refl _)⟩
/-- is the value one of these texts? -/
def inO (v : V) (ws : List Str) : Bool := match v with
  | .str t => decide (t ∈ ws)
  | _ => false
def rNiO (K : PySem.W.Frag) : R2 := fun x y H Q => ∃ (p : Addr) (ws : List Str), y = .ref p ∧ SqT K H p (ws.map V.str) ∧ Odd H x ∧ Q (.bl (!inO x ws)) H
/-- v == text, for the items of a tuple of texts -/
theorem odd_eqs {A : Around} {s : Shared} {pins : List (Addr × Obj)} (I : Inv X pins σ H s) (hu : A.units < cLine) {v : V} {u : Value} (o : Odd H v) (r : RelV v u) : ∀ {ws : List Str} {us : List Value}, Vals (ws.map V.str) us → ∀ z ∈ us, ∃ b, SeqAt.EqAt A s z u b ∧ ((∃ t k, z = .str t k ∧ t ∈ ws ∧ b = decide (v = .str t))) := by
  have one : ∀ (t : Str) (k : Tok), SeqAt.EqAt A s (.str t k) u (decide (v = .str t)) := fun t k => by
    cases o with
    | non =>
      cases (show u = Value.none from r)
      exact SeqAt.EqAt.str_none t k
    | bl b =>
      cases (show u = Value.bool b from r)
      exact SeqAt.EqAt.str_bool t k b
    | int i =>
      obtain ⟨j, rfl⟩ := (show ∃ t, u = Value.int i t from r)
      exact SeqAt.EqAt.str_int t k i j
    | str x =>
      obtain ⟨j, rfl⟩ := (show ∃ t, u = Value.str x t from r)
      have z := SeqAt.EqAt.str_str (A := A) (s := s) t k x j
      have e : (t == x) = decide (V.str x = V.str t) := by
        rw [Bool.eq_iff_iff, beq_iff_eq, decide_eq_true_eq]
        constructor
        · rintro rfl
          rfl
        · intro e
          cases e
          rfl
      rw [e] at z
      exact z
    | lst h n =>
      cases r
      obtain ⟨its, _, pl, _⟩ := I.list (sq_of h)
      exact SeqAt.EqAt.str_list t k pl.isList hu
    | tup h =>
      cases r
      obtain ⟨its, _, pl, _⟩ := I.tuple (st_of h)
      exact SeqAt.EqAt.str_tuple t k pl hu
    | dic h =>
      cases r
      obtain ⟨_, hn, vs, rel, o, es, ep, ho, hx, hd, _⟩ := dk_of I.hok h
      exact str_dict t k ho hx.1 hd hu
  intro ws
  induction ws with
  | nil =>
    intro us h z hz
    cases h
    cases hz
  | cons t ws ih =>
    intro us h z hz
    cases h with
    | cons r1 r2 =>
      rcases List.mem_cons.mp hz with rfl | hz
      · obtain ⟨k, rfl⟩ := r1
        exact ⟨_, one t k, t, k, rfl, List.mem_cons_self, rfl⟩
      · obtain ⟨b, e, t2, k2, e2, m, e3⟩ := ih r2 z hz
        exact ⟨b, e, t2, k2, e2, List.mem_cons_of_mem _ m, e3⟩
/-- the outcome of v == z, z a text -/
def eqO (v : V) : Value → Bool
  | .str t _ => decide (v = .str t)
  | _ => false
theorem any_eqO {v : V} : ∀ {ws : List Str} {us : List Value}, Vals (ws.map V.str) us → us.any (eqO v) = inO v ws
  | [], _, .nil => by
    unfold inO
    cases v <;> rfl
  | t :: ws, _, .cons (b := u) r rs => by
    obtain ⟨k, rfl⟩ := r
    rw [List.any_cons, any_eqO rs]
    unfold inO eqO
    cases v with
    | str x =>
      simp only
      by_cases e : x = t
      · subst e
        simp
      · have e2 : ¬ V.str x = V.str t := fun z => by
          cases z
          exact e rfl
        rw [decide_eq_false e2, Bool.false_or, Bool.eq_iff_iff, decide_eq_true_eq, decide_eq_true_eq, List.mem_cons]
        exact ⟨.inr, fun z => z.resolve_left e⟩
    | _ => rfl
theorem op_niO (hu : X.A.units + 1 < cLine) : OpR X (compareOp .NotIn) (rNiO X.K) := by
  intro pins s σ H x y v u Q I rx ry h
  obtain ⟨p, ws, rfl, hq, o, q⟩ := h
  cases ry
  obtain ⟨its, r, pl, hz⟩ := I.tuple hq
  refine SeqAt.notIn_tupleAt (eqO x) pl (fun w hw => ?_) ⟨.bl _, H, I, rfl, ?_⟩
  · obtain ⟨b, e, t, k, rfl, m, rfl⟩ := odd_eqs (A := X.A.in1) I hu o rx r w (by simpa using hw)
    exact e
  · rw [show its.toArray.any (eqO x) = its.any (eqO x) by simp, any_eqO r]
    exact q
theorem rv_niO {p : Addr} {ws : List Str} {v : V} (hp : SqT K H p (ws.map V.str)) (o : Odd H v) : RV (rNiO K) v (.ref p) H (.bl (!inO v ws)) := fun H1 x1 Q q => ⟨p, ws, rfl, ex_t x1 hp, o.mono x1, q H1 (Ex.refl _)⟩

/-- the data that an odd value is -/
inductive DatO (H : Hp) : V → PyData → Prop where
  | non : DatO H .non .none
  | bl (b : Bool) : DatO H (.bl b) (.bool b)
  | int (i : Int) : DatO H (.int i) (.int i)
  | str (t : Str) : DatO H (.str t) (.str t)
  | lst {a : Addr} {xs : List Str} : H a = some (.lst (xs.map V.str)) → a ≠ sysModules → DatO H (.ref a) (.list (xs.map PyData.str))
  | tup {a : Addr} {xs : List Str} : H a = some (.tup (xs.map V.str)) → DatO H (.ref a) (.tuple (xs.map PyData.str))
  | dic {a : Addr} : H a = some (.dK []) → DatO H (.ref a) (.dict [])
theorem DatO.odd {H : Hp} {v : V} {d : PyData} (h : DatO H v d) : Odd H v := by
  cases h with
  | non => exact .non
  | bl b => exact .bl b
  | int i => exact .int i
  | str t => exact .str t
  | lst h n => exact .lst h n
  | tup h => exact .tup h
  | dic h => exact .dic h
theorem DatO.mono {H H' : Hp} (x : Ex H H') : ∀ {v : V} {d : PyData}, DatO H v d → DatO H' v d
  | _, _, .non => .non
  | _, _, .bl b => .bl b
  | _, _, .int i => .int i
  | _, _, .str t => .str t
  | _, _, .lst h n => .lst (x _ _ h) n
  | _, _, .tup h => .tup (x _ _ h)
  | _, _, .dic h => .dic (x _ _ h)
theorem rds_str {K : PySem.W.Frag} {H : Hp} : ∀ xs : List Str, RDs K H (xs.map V.str) (xs.map PyData.str)
  | [] => .nil
  | t :: xs => .cons (.str t) (rds_str xs)
theorem DatO.rd {H : Hp} {v : V} {d : PyData} (h : DatO H v d) : RD K H v d := by
  cases h with
  | non => exact .non
  | bl b => exact .bl b
  | int i => exact .int i
  | str t => exact .str t
  | lst h n => exact .lst (.inl (.inl h)) n (rds_str _)
  | tup h => exact .tup (.inl (.inl h)) (rds_str _)
  | dic h => exact .dic h
/-- repr of any data -/
def rReprA (K : PySem.W.Frag) : List V → Hp → VK → Prop := fun xs H Q => ∃ (v : V) (d : PyData), xs = [v] ∧ RD K H v d ∧ d.showable = true ∧ d.depth ≤ 60 ∧ d.shown.length ≤ 100000 ∧ Q (.str d.shown) H
theorem call_reprA (hg : X.A.guards = some []) (hu : X.A.units + 64 < cLine) : CallR X (.builtin "repr") (rReprA X.K) := by
  intro pins s σ H xs us Q I r h
  obtain ⟨v, d, rfl, rd, sh, dp, sz, q⟩ := h
  obtain ⟨u, rfl, ru⟩ := vals1 r
  have fin : ∀ (t : Tok) (k : Nat), EP X pins σ Q (.str d.shown t) { s with toks := k } := fun t k => ⟨.str d.shown, H, I.tok k, ⟨_, rfl⟩, q⟩
  have sz' : d.shown.length ≤ sizeLine := Nat.le_trans sz (by decide)
  cases rd with
  | non =>
    cases (show u = Value.none from ru)
    exact PySem.P.repr_of_none (fin _ _)
  | bl b =>
    cases (show u = Value.bool b from ru)
    exact PySem.P.repr_of_bool (fin _ _)
  | int i =>
    obtain ⟨t, rfl⟩ := (show ∃ t, u = Value.int i t from ru)
    exact PySem.P.repr_of_int (by simpa [PyData.showable] using sh) (fin _ _)
  | str x =>
    obtain ⟨t, rfl⟩ := (show ∃ t, u = Value.str x t from ru)
    exact PySem.P.repr_of_str (fin _ _) sz'
  | tup h1 h2 =>
    obtain ⟨as, hr, no⟩ := RD.reads I _ _ _ (.tup h1 h2) ru
    cases ru
    exact repr_of_reads' hr sh (fun _ => no) hg (by omega) (fun _ _ e => e) (fun h' u tk kp => ⟨.str _, H, I.kept kp, ⟨_, rfl⟩, q⟩) sz'
  | lst h1 h2 h3 =>
    obtain ⟨as, hr, no⟩ := RD.reads I _ _ _ (.lst h1 h2 h3) ru
    cases ru
    exact repr_of_reads' hr sh (fun _ => no) hg (by omega) (fun _ _ e => e) (fun h' u tk kp => ⟨.str _, H, I.kept kp, ⟨_, rfl⟩, q⟩) sz'
  | dic h1 =>
    obtain ⟨as, hr, no⟩ := RD.reads I _ _ _ (.dic h1) ru
    cases ru
    exact repr_of_reads' hr sh (fun _ => no) hg (by omega) (fun _ _ e => e) (fun h' u tk kp => ⟨.str _, H, I.kept kp, ⟨_, rfl⟩, q⟩) sz'
theorem ev_reprA {v : V} {d : PyData} (h : Ev te σ H v) (r : RD K H v d) (ok : shows d = true) : Ev (tCB (rReprA K) (tCons te tNil)) σ H (.str d.shown) := fun H1 e Q q =>
  h H1 e _ fun H2 e2 => by
    unfold shows at ok
    simp only [Bool.and_eq_true, decide_eq_true_eq] at ok
    exact ⟨v, d, rfl, r.mono (e.trans e2), ok.1.1, ok.1.2, ok.2, q H2 e2⟩
end
end KU

set_option Elab.async false
set_option linter.all false
set_option maxRecDepth 100000
set_option maxHeartbeats 4000000
/-! Sets of texts: what such a set holds, one text more -/
namespace KU
open PySem PySem.Spec PyProof.Rows L2
/-- the text of an entry -/
def tkey (e : Int × Value) : Str := match e.2 with | .str k _ => k | _ => Str.empty
def GoodT (w : World) (e : Int × Value) : Prop := ∃ k u, e.2 = Value.str k u ∧ e.1 = hashStr w k
/-- what the entries and the table of a set of texts are; S tells the texts -/
structure Held (w : World) (es : Array (Int × Value)) (t : SetTable) (S : Str → Bool) (n : Nat) : Prop where
  good : ∀ e ∈ es.toList, GoodT w e
  once : (es.toList.map tkey).Nodup
  mem : ∀ k, S k = true ↔ k ∈ es.toList.map tkey
  num : es.size = n
  few : n < scanBound
  fits : t.fits es.size = true
  ris : Ris t.place.toList
  led : w.params.followText "set-order" = true ∨ t.led = true
def SetS (w : World) (h : Heap) (a : Addr) (S : Str → Bool) (n : Nat) : Prop := ∃ o es ep t, h.get? a = some o ∧ o.ExactSet ∧ o.data = .set es ep t ∧ Held w es t S n
section
variable {P : Program} {w : World} {h h' : Heap} {a : Addr} {S : Str → Bool} {n : Nat}
theorem SetS.keep (R : SetS w h a S n) (k : ∀ o, h.get? a = some o → h'.get? a = some o) : SetS w h' a S n := by
  obtain ⟨o, es, ep, t, ho, r⟩ := R
  exact ⟨o, es, ep, t, k o ho, r⟩
theorem SetS.same {S' : Str → Bool} (R : SetS w h a S n) (e : ∀ k, S' k = S k) : SetS w h a S' n := by
  rw [show S' = S from funext e]
  exact R
theorem goodT_elems {l : List (Int × Value)} (g : ∀ e ∈ l, GoodT w e) : ElemsOf (PySem.strKind P w) l := fun e he => by
  obtain ⟨k, u, q1, q2⟩ := g e he
  refine ⟨⟨k, ?_, q2⟩, ?_⟩
  · rw [q1]
    exact strKind_is P w k u
  · rw [q1]
    rfl
theorem goodT_is {e : Int × Value} (g : GoodT w e) (k : Str) : (PySem.strKind P w).is k e.2 = true ↔ tkey e = k := by
  obtain ⟨k0, u, q, _⟩ := g
  have e1 : tkey e = k0 := by
    unfold tkey
    rw [q]
  have i0 : (PySem.strKind P w).is k0 e.2 = true := by
    rw [q]
    exact strKind_is P w k0 u
  rw [e1]
  constructor
  · intro z
    exact (PySem.strKind P w).inj e.2 k0 k i0 z
  · intro z
    rw [← z]
    exact i0
theorem goodT_mem {l : List (Int × Value)} (g : ∀ e ∈ l, GoodT w e) (k : Str) : k ∈ l.map tkey ↔ ∃ e ∈ l, (PySem.strKind P w).is k e.2 = true := by
  rw [List.mem_map]
  exact exists_congr fun e => and_congr_right fun he => (goodT_is (g e he) k).symm
theorem Held.turn {es es' : Array (Int × Value)} {t t' : SetTable} (R : Held w es t S n) (p : es'.toList.Perm es.toList) (hf : t'.fits es'.size = true) (hr : Ris t'.place.toList) (hl : t'.led = t.led) : Held w es' t' S n where
  good := fun e he => R.good e (p.mem_iff.mp he)
  once := (p.map tkey).nodup_iff.mpr R.once
  mem := fun k => (R.mem k).trans (p.map tkey).mem_iff.symm
  num := by
    have z := p.length_eq
    rw [Array.length_toList, Array.length_toList] at z
    exact z.trans R.num
  few := R.few
  fits := hf
  ris := hr
  led := R.led.imp id fun z => hl.trans z
theorem Held.more {es es' : Array (Int × Value)} {t t' : SetTable} {k : Str} {u : Tok} (R : Held w es t S n) (room : n + 1 < scanBound) (no : k ∉ es.toList.map tkey) (p : es'.toList.Perm ((hashStr w k, Value.str k u) :: es.toList))
    (hf : t'.fits es'.size = true) (hr : Ris t'.place.toList) (hl : t'.led = t.led) : Held w es' t' (fun j => S j || decide (j = k)) (n + 1) := by
  have pk : (es'.toList.map tkey).Perm (k :: es.toList.map tkey) := p.map tkey
  refine ⟨fun e he => ?_, pk.nodup_iff.mpr (List.nodup_cons.mpr ⟨no, R.once⟩), fun j => ?_, ?_, room, hf, hr, R.led.imp id fun z => hl.trans z⟩
  · rcases List.mem_cons.mp (p.mem_iff.mp he) with q | q
    · rw [q]
      exact ⟨k, u, rfl, rfl⟩
    · exact R.good e q
  · rw [Bool.or_eq_true, decide_eq_true_eq, R.mem j, pk.mem_iff, List.mem_cons, or_comm]
  · have z := p.length_eq
    rw [List.length_cons, Array.length_toList, Array.length_toList, R.num] at z
    exact z
end
section
variable {P : Program} {w : World} {A : Around} {E : Value → Shared → Prop} {s : Shared} {a : Addr} {S : Str → Bool} {n : Nat}
theorem tail_addS {g : Bool → Sem Unit} {o : Obj} {es es1 : Array (Int × Value)} {ep m : Nat} {t t2 : SetTable} {S' : Str → Bool} {wd : Bool} {R : Option Bool → Shared → Prop}
    (hg : ∀ (b : Bool) (s1 : Shared) (Q' : Unit → Shared → Prop), Q' () s1 → wpAny (model P w) A (g b) Q' E s1) (ho : s.heap.get? a = some o) (hex : o.ExactSet) (hd : o.data = .set es ep t) (hold : Held w es1 t2 S' m)
    (hR : ∀ h', Heap.SameBut a s.heap h' → SetS w h' a S' m → R (some true) { s with heap := h' }) :
    wpAny (model P w) A (do
        storeSet a es1 t2
        if (!wd && t2.tooFull) = true then do
            g (relayAll t2 es1 (SetTable.grown es1.size)).2.2
            storeSet a (relayAll t2 es1 (SetTable.grown es1.size)).1 (relayAll t2 es1 (SetTable.grown es1.size)).2.1
            pure (some true)
          else pure (some true)) R E s := by
  have b1 : es1.size < scanBound := by
    rw [hold.num]
    exact hold.few
  refine wpAny_bind (wpAny_storeSet_of ho hd ?_ (fits_of_scanBound b1))
  have o1 := store_at (es' := es1) (t' := t2) ho hd
  have k1 := Heap.SameBut.update s.heap a (Obj.putSet es1 t2)
  split
  · have pm := relayAll_perm t2 es1 (SetTable.grown es1.size)
    have f3 := relayAll_fits t2 es1 (SetTable.grown es1.size)
    have r3 := relayAll_ris t2 es1 (SetTable.grown es1.size)
    have l3 := relayAll_led t2 es1 (SetTable.grown es1.size)
    generalize relayAll t2 es1 (SetTable.grown es1.size) = Y at pm f3 r3 l3 ⊢
    obtain ⟨es2, t3, gv⟩ := Y
    dsimp only at pm f3 r3 l3 ⊢
    have h2 := hold.turn pm f3 r3 l3
    have b2 : es2.size < scanBound := by
      rw [h2.num]
      exact h2.few
    refine wpAny_bind (hg _ _ _ (wpAny_bind (wpAny_storeSet_of o1 rfl ?_ (fits_of_scanBound b2))))
    exact wpAny_pure (hR _ (k1.trans (Heap.SameBut.update _ a _)) ⟨_, es2, _, t3, store_at (es' := es2) (t' := t3) o1 rfl, hex, rfl, h2⟩)
  · exact wpAny_pure (hR _ k1 ⟨_, es1, _, t2, o1, hex, rfl, hold⟩)
theorem hashed_addS {k : Str} {u : Tok} {Q : Bool → Shared → Prop} (R : SetS w s.heap a S n) (room : n + 1 < scanBound)
    (hQ : ∀ h', Heap.SameBut a s.heap h' → SetS w h' a (fun j => S j || decide (j = k)) (if S k = true then n else n + 1) → Q (!S k) { s with heap := h' }) :
    wpAny (model P w) A (setAddHashed a (.str k u) ((PySem.strKind P w).hash k)) Q E s := by
  obtain ⟨o, es, ep, t, ho, hex, hd, hold⟩ := R
  have hkey : (PySem.strKind P w).is k (.str k u) = true := strKind_is P w k u
  have hsc : (Value.str k u).scannable = true := rfl
  have hel : ElemsOf (PySem.strKind P w) es.toList := goodT_elems hold.good
  have hb : es.size < scanBound := by
    rw [hold.num]
    exact hold.few
  unfold setAddHashed setAddHashedIn
  refine wpAny_holding (wpAny_bind (wpAny_setState_of ho hd hold.fits ?_))
  dsimp only
  rw [byScan_of hsc hb hel]
  simp only [↓reduceIte]
  unfold setAddByScan
  refine wpAny_bind ?_
  refine wpAny_bind (wpAny_rule ?_)
  refine wpAny_bind (wpAny_setScan_of hkey ho hd hold.fits hel ?_)
  cases hfi : List.findIdx? (fun e => (PySem.strKind P w).is k e.2) es.toList with
  | some j =>
    dsimp only
    obtain ⟨hj, pj, _⟩ := List.findIdx?_eq_some_iff_getElem.mp hfi
    have hSk : S k = true := (hold.mem k).mpr ((goodT_mem (P := P) hold.good k).mpr ⟨_, List.getElem_mem hj, pj⟩)
    refine wpAny_pure (wpAny_pure ?_)
    have q := hQ s.heap (Heap.SameBut.refl a s.heap)
    rw [hSk, if_pos rfl] at q
    refine q ⟨o, es, ep, t, ho, hex, hd, { hold with mem := fun i => ?_ }⟩
    rw [Bool.or_eq_true, decide_eq_true_eq, ← hold.mem i]
    constructor
    · rintro (z | rfl)
      · exact z
      · exact hSk
    · exact .inl
  | none =>
    dsimp only
    have no : k ∉ es.toList.map tkey := fun z => by
      obtain ⟨e, he, q⟩ := (goodT_mem (P := P) hold.good k).mp z
      have c := List.findIdx?_eq_none_iff.mp hfi e he
      rw [q] at c
      cases c
    have hSk : S k = false := by
      cases q : S k with
      | false => rfl
      | true => exact absurd ((hold.mem k).mp q) no
    have way : ∀ (b : Bool) {s1 : Shared} {Q' : Unit → Shared → Prop}, Q' () s1 → wpAny (model P w) A (match b with | true => rule "set.scan.the-table-gave-way" | false => pure ()) Q' E s1 :=
      fun b s1 Q' q => by cases b <;> first | exact wpAny_pure q | exact wpAny_rule q
    have pm := layNew_perm t es ((PySem.strKind P w).hash k) (.str k u)
    have f1 := layNew_fits t es ((PySem.strKind P w).hash k) (.str k u)
    have r1 := layNew_ris t es ((PySem.strKind P w).hash k) (.str k u) hold.ris
    have l1 := layNew_led t es ((PySem.strKind P w).hash k) (.str k u)
    generalize layNew t es ((PySem.strKind P w).hash k) (.str k u) = Y at pm f1 r1 l1 ⊢
    obtain ⟨es1, t1, wd, gv⟩ := Y
    dsimp only at pm f1 r1 l1 ⊢
    rw [Array.toList_push] at pm
    have pc : es1.toList.Perm ((hashStr w k, Value.str k u) :: es.toList) := pm.trans (List.perm_append_singleton _ _)
    have fin : ∀ h', Heap.SameBut a s.heap h' → SetS w h' a (fun j => S j || decide (j = k)) (n + 1) → Q true { s with heap := h' } := fun h' sb r => by
      have q := hQ h' sb
      rw [hSk] at q
      exact q r
    refine wpAny_bind (way _ ?_)
    split
    · refine wpAny_bind ?_
      rw [hashByValue_scannable 8 hsc]
      refine wpAny_pure ?_
      refine tail_addS ?_ ho hex hd (hold.more room no pc ?_ ?_ ?_) ?_
      · intro b s1 Q' q
        cases b <;> first | exact wpAny_pure q | exact wpAny_rule q
      · first | (split <;> first | exact f1 | exact SetTable.fits_plain_off f1) | exact f1
      · first | (split <;> exact r1) | exact r1
      · first | (split <;> exact l1) | exact l1
      · intro h' sb r
        dsimp only
        exact wpAny_pure (fin h' sb r)
    · refine wpAny_bind (wpAny_pure ?_)
      simp only [↓reduceIte]
      refine tail_addS ?_ ho hex hd (hold.more room no pc f1 r1 l1) ?_
      · intro b s1 Q' q
        cases b <;> first | exact wpAny_pure q | exact wpAny_rule q
      · intro h' sb r
        dsimp only
        exact wpAny_pure (fin h' sb r)
theorem heldS_new {w : World} {h : Heap} {a : Addr} (ho : h.get? a = some { cls := .type "set", dict := none, data := .set #[] 0 (.fresh 0 0 (!w.params.followText "set-order")) }) : SetS w h a (fun _ => false) 0 := by
  refine ⟨_, #[], 0, _, ho, ⟨rfl, rfl, rfl⟩, rfl, ⟨fun e he => ?_, ?_, fun k => ?_, rfl, by decide, by rfl, List.Pairwise.nil, ?_⟩⟩
  · simp at he
  · simp
  · simp
  · show _ ∨ (!w.params.followText "set-order") = true
    cases w.params.followText "set-order"
    · exact .inr rfl
    · exact .inl rfl
end
end KU

set_option Elab.async false
set_option linter.all false
set_option maxRecDepth 100000
set_option maxHeartbeats 4000000
/-! set(list of texts), sorted(set of texts) -/
namespace KU
open PySem PySem.Spec PyProof.Rows L2
section
variable {P : Program} {w : World} {A : Around} {E : Value → Shared → Prop} {s : Shared}
theorem update_txt {I : Addr} {fp wr : List Addr} {G : Array GenState → Array GenState → Prop} {n : Nat} {Pv : Nat → Value → Prop} {St : Nat → Shared → Prop} {R : Result → Shared → Prop} (W : WalksS P w A.in1 I fp wr G n Pv St) (D : Addr) (hDf : D ∉ fp)
    (ws : List Str) (hn : n = ws.length) (hb : ws.length + 1 < scanBound) (hval : ∀ i v, Pv i v → ∃ k t, ws[i]? = some k ∧ v = .str k t) :
    ∀ (m i : Nat) (s : Shared), n - i = m → i ≤ n → St i s → (∃ c, c ≤ i ∧ SetS w s.heap D (fun j => decide (j ∈ ws.take i)) c) →
      (∀ s' c, Moved (D :: wr) G s s' → c ≤ n → SetS w s'.heap D (fun j => decide (j ∈ ws)) c → R (.ok (.ret .none)) s') → codeAny (model P w) A (.builtin "set.update.loop" ⟨[.ref D, .ref I], []⟩) R s := by
  have hDw : D ∉ wr := fun z => hDf (W.sub _ z)
  have up : ∀ b ∈ wr, b ∈ D :: wr := fun b hb => List.mem_cons_of_mem _ hb
  intro m
  induction m with
  | zero =>
    rintro i s hm hi hst ⟨c, hc, hS⟩ hR
    obtain rfl : i = n := by omega
    refine codeAny_builtin PyProof.Rows.F.entry_set_update_loop ?_
    rw [Around.under_plainId PyProof.Rows.F.plain_set_update_loop _]
    show wpAny _ A.in1 (pyNext (.ref I) >>= _) _ _ s
    refine wpAny_bind (W.done s _ _ hst fun s' mv => ?_)
    show wpAny _ A.in1 (ret Value.none) _ _ s'
    rw [List.take_of_length_le (by omega)] at hS
    exact wpAny_pure (hR s' c (mv.mono up) hc (hS.keep fun o e => mv.heap D o hDw e))
  | succ m ih =>
    rintro i s hm hi hst ⟨c, hc, hS⟩ hR
    have lt : i < n := by omega
    refine codeAny_builtin PyProof.Rows.F.entry_set_update_loop ?_
    rw [Around.under_plainId PyProof.Rows.F.plain_set_update_loop _]
    show wpAny _ A.in1 (pyNext (.ref I) >>= _) _ _ s
    refine wpAny_bind (W.item i s _ _ lt hst fun v s' hP hst' mv => ?_)
    obtain ⟨z, t, hz, rfl⟩ := hval i v hP
    have hS' : SetS w s'.heap D (fun j => decide (j ∈ ws.take i)) c := hS.keep fun o e => mv.heap D o hDw e
    show wpAny _ A.in1 (holding [Value.str z t] (setAdd D (.str z t)) >>= _) _ _ s'
    refine wpAny_bind (wpAny_holding ?_)
    unfold setAdd
    refine wpAny_holding (wpAny_bind ((PySem.strKind P w).pyHash (k := z) (strKind_is P w z t) ?_))
    refine hashed_addS (s := { s' with toks := s'.toks + 1 }) hS' (by omega) fun h' sb hS2 => ?_
    have hS3 : SetS w h' D (fun j => decide (j ∈ ws.take (i + 1))) (if decide (z ∈ ws.take i) = true then c else c + 1) := hS2.same fun j => by
      rw [List.take_add_one, hz]
      simp [List.mem_append]
    have c3 : (if decide (z ∈ ws.take i) = true then c else c + 1) ≤ i + 1 := by
      split <;> omega
    refine wpAny_pure ⟨plainId_quiet PyProof.Rows.F.plain_set_update_loop _, ih (i + 1) _ (by omega) lt (W.frame _ s' _ _ hst' (Nat.le_succ _) fun b hb o e => ?_) ⟨_, c3, hS3⟩ fun s2 c2 mv2 hc2 hSz => ?_⟩
    · rw [sb.2 b fun z => hDf (z ▸ hb)]
      exact e
    · refine hR s2 c2 (Moved.trans W.gtrans ((mv.mono up).then_heap (Nat.le_succ _) fun b o hb e => ?_) mv2) hc2 hSz
      rw [sb.2 b fun z => hb (by rw [z]; exact List.mem_cons_self)]
      exact e
abbrev newSetO (w : World) : Obj := { cls := .type "set", dict := none, data := .set #[] 0 (.fresh 0 0 (!w.params.followText "set-order")) }
set_option maxHeartbeats 3200000 in
theorem call_set_txt {l : Addr} {items : Array Value} (ws : List Str) {Q : Value → Shared → Prop} (hh : A.handled = none) (hl : s.heap.IsList l items) (hit : StrsAre items.toList ws) (hb : ws.length + 1 < scanBound)
    (h : ∀ (h' : Heap) (tk c : Nat), SetS w h' s.heap.objs.size (fun j => decide (j ∈ ws)) c → c ≤ ws.length → (∀ b o, s.heap.get? b = some o → h'.get? b = some o) → Q (.ref s.heap.objs.size) { s with heap := h', toks := tk }) :
    wpAny (model P w) A (call (.type "set") [.ref l]) Q E s := by
  have isz : items.size = ws.length := by
    have q := StrsAre.len_eq hit
    rw [Array.length_toList] at q
    exact q
  obtain ⟨c, tl, hmro⟩ := PySem.F.called_set.mro
  have hmade := PySem.F.called_set.made
  have hsub := PySem.F.called_set.sub
  refine wpAny_call (codeAny_of_tree ?_)
  show wpAny _ _ (callAny (.type "set") _) _ _ _
  refine wpAny_pure ⟨Code.quiet_builtin _ (by decide +kernel), codeAny_builtin PySem.F.entry_type_call ?_⟩
  rw [Around.under_plain (weight_type_call_type "set" [.ref l] []) rfl]
  have t1 := PySem.F.called_set.notType
  have t2 := PySem.F.called_set.canCreate
  have t3 := PySem.F.typeCall_set_1 (.ref l)
  repeat (any_goals (first | assumption | wp_step))
  refine codeAny_mono (code_set_led1 (.ref l) (E := E) (Q₁ := fun obj s₁ => obj = .ref s.heap.objs.size ∧ s₁ = { s with heap := s.heap.push (newSetO w) }) ⟨rfl, rfl⟩) fun r s₁ hr => ?_
  cases r with
  | error e => exact hr
  | ok fl =>
    cases fl with
    | ret obj =>
      obtain ⟨rfl, rfl⟩ := hr
      have hS : (s.heap.push (newSetO w)).get? s.heap.objs.size = some (newSetO w) := Heap.get?_push_size _ rfl
      have hT : Shared.TypeIs { s with heap := s.heap.push (newSetO w) } (.ref s.heap.objs.size) "set" := ⟨_, hS, rfl⟩
      have hli := PySem.F.called_set.init.lookup
      have hbi := PySem.F.called_set.init.bind (.ref s.heap.objs.size)
      repeat (any_goals (first | assumption | wp_step))
      refine codeAny_mono (codeAny_call_builtin (R := wants (fun r s₂ => r = .none ∧ ∃ h' tk c, s₂ = { s with heap := h', toks := tk } ∧ SetS w h' s.heap.objs.size (fun j => decide (j ∈ ws)) c ∧ c ≤ ws.length ∧
          ∀ b o, s.heap.get? b = some o → h'.get? b = some o) E) PySem.F.called_set.init.plain PySem.F.entry_set_init (check_set_init_1 hT ?_)) fun r2 s2 hr2 => ?_
      · obtain ⟨ol, hol, hcl, nl, hdl⟩ := hl
        obtain ⟨ocls, odict, odata, oslots⟩ := ol
        simp only at hcl hdl
        subst hcl
        subst hdl
        have hol' : (s.heap.push (newSetO w)).get? l = some { cls := .type "list", dict := odict, data := .seq items nl, slots := oslots } := Heap.get?_push_of_some _ hol
        have hsls := PySem.F.sub_list_set
        have hslf := PySem.F.sub_list_frozenset
        have hne : (Value.type "list" == Value.type "dict") = false := by decide
        have hl1 : (s.heap.push (newSetO w)).IsList l items := ⟨_, hol', rfl, nl, rfl⟩
        unfold Builtin.«set.__init__» noKeywords Builtin.Frozenset.updateFrom
        generalize hPI : pyIter = PI
        wp_walk
        subst hPI
        refine wpAny_pyIter_list hl1 (wpAny_bind (wpAny_runValue ?_))
        have lt : l < s.heap.objs.size := Heap.lt_size hol
        have h3 : A.in1.in1.in1.handled = none := by simp [hh]
        have z1 : (s.heap.push (newSetO w)).objs.size = s.heap.objs.size + 1 := Heap.size_push ..
        have ne1 : l ≠ (s.heap.push (newSetO w)).objs.size := by
          rw [z1]
          exact Nat.ne_of_lt (Nat.lt_succ_of_lt lt)
        have ne2 : s.heap.objs.size ∉ [(s.heap.push (newSetO w)).objs.size, l] := by
          rw [z1]
          simp only [List.mem_cons, List.not_mem_nil, or_false, not_or]
          exact ⟨Nat.ne_of_lt (Nat.lt_succ_self _), Nat.ne_of_gt lt⟩
        have hval : ∀ (i : Nat) (v : Value), items[i]? = some v → ∃ k t, ws[i]? = some k ∧ v = .str k t := fun i v hv => by
          have hi : i < ws.length := by
            rw [← isz]
            exact (Array.getElem?_eq_some_iff.mp hv).1
          obtain ⟨t, e⟩ := SS.strs_at hit i v (by rw [Array.getElem?_toList]; exact hv)
          refine ⟨ws[i], t, List.getElem?_eq_getElem hi, ?_⟩
          rw [e, List.getD_eq_getElem?_getD, List.getElem?_eq_getElem hi]
          rfl
        refine update_txt ((Walks.list h3 _ l ne1 items).toS) s.heap.objs.size ne2 ws isz hb hval (items.size - 0) 0 _ (by omega) (Nat.zero_le _) ⟨⟨_, Heap.get?_push_size _ rfl, rfl, rfl⟩, (hl1.push _)⟩ ?hS0 ?hR
        case hS0 =>
          have hget : ((s.heap.push (newSetO w)).push { cls := .type "list_iterator", data := .fields #[.ref l, .int 0 0] }).get? s.heap.objs.size = some (newSetO w) := Heap.get?_push_of_some _ hS
          exact ⟨0, Nat.le_refl 0, (heldS_new hget).same fun k => by simp⟩
        case hR =>
          intro s' c' mv hc' hS'
          obtain ⟨h', g2, d', tk', os'⟩ := s'
          have eg : g2 = s.gens := mv.gens
          have ed : d' = s.drawn := mv.drawn
          have eo : os' = s.os := mv.os
          subst eg
          subst ed
          subst eo
          show wpAny _ _ _ _ _ _
          refine wpAny_pure ?_
          show wpAny _ _ (ret Value.none) _ _ _
          rw [isz] at hc'
          refine wpAny_pure ⟨rfl, h', tk', c', rfl, hS', hc', fun b o e => ?_⟩
          have b0 : b < s.heap.objs.size := Heap.lt_size e
          refine mv.heap b o ?_ (Heap.get?_push_of_some _ (Heap.get?_push_of_some _ e))
          rw [z1]
          simp only [List.mem_cons, List.not_mem_nil, or_false, not_or]
          exact ⟨Nat.ne_of_lt b0, Nat.ne_of_lt (Nat.lt_succ_of_lt b0)⟩
      · cases r2 with
        | error e => exact hr2
        | ok fl2 =>
          cases fl2 with
          | ret r =>
            obtain ⟨rfl, h', tk, c', rfl, hS', hc', hk'⟩ := hr2
            repeat (any_goals (first | assumption | wp_step))
            exact h _ _ _ hS' hc' hk'
          | _ => exact hr2.elim
    | _ => exact hr.elim
theorem strs_of : ∀ (l : List Value), (∀ v ∈ l, ∃ k tk, v = Value.str k tk) → StrsAre l (l.map fun v => tkey (0, v))
  | [], _ => .nil
  | v :: l, h => by
    obtain ⟨k, tk, rfl⟩ := h v List.mem_cons_self
    exact .cons k tk (strs_of l fun u hu => h u (List.mem_cons_of_mem _ hu))
theorem sorted_setS {a : Addr} {S : Str → Bool} {n : Nat} {Q : Value → Shared → Prop} (R : SetS w s.heap a S n) (hh : A.handled = none) (h64 : n < 64)
    (hQ : ∀ s' p (out : Array Value) (c : Nat) (ys : List Str), (∀ b o, s.heap.get? b = some o → s'.heap.get? b = some o) → s'.gens = s.gens → s'.os = s.os → s.heap.objs.size ≤ p → s'.heap.get? p = some (seqObj "list" out c) →
      StrsAre out.toList ys → sortedS ys = true → ys.Nodup → (∀ k, k ∈ ys ↔ S k = true) → ys.length = n → Q (.ref p) s') : wpAny (model P w) A (call (.builtin "sorted") [.ref a]) Q E s := by
  obtain ⟨o, es, ep, t, ho, hex, hd, R⟩ := R
  refine Calls.call_function_entry kind_sorted plain_sorted entry_sorted (args_sorted1 _) ?_
  unfold Builtin.«sorted»
  refine wpAny_bind (m := checkCount "sorted" 1 1 _) (wpAny_pure ?_)
  refine wpAny_bind (collect_set (A := A.in1) hh ⟨o, ho, hex.1, hd⟩ R.fits (by rw [R.num]; exact R.few) R.ris R.led fun s1 vs k1 hz g1 o1 pm => ?_)
  have vl : vs.length = n := by
    rw [pm.length_eq, List.length_map, Array.length_toList]
    exact R.num
  have hI : StrsAre vs (vs.map fun v => tkey (0, v)) := strs_of vs fun v hv => by
    obtain ⟨e, he, q⟩ := List.mem_map.mp (pm.mem_iff.mp hv)
    obtain ⟨k, tk, h1, _⟩ := R.good e he
    exact ⟨k, tk, q ▸ h1⟩
  have pk : (vs.map fun v => tkey (0, v)).Perm (es.toList.map tkey) := by
    have q := pm.map fun v => tkey (0, v)
    rw [List.map_map] at q
    exact q
  refine wpAny_bind (wpAny_newList ?_ (by rw [vl, sizeLine_eq]; omega))
  have hoL : (s1.heap.push (seqObj "list" vs.toArray 0)).get? s1.heap.objs.size = some (seqObj "list" vs.toArray 0) := Heap.get?_push_size _ rfl
  refine wpAny_bind (wpAny_holding (wpAny_call_entry slot_list_sort ⟨_, hoL, rfl⟩ entry_list_sort (list_sort_treeK strKind_oneLt hoL hI.keysOf (fun v1 v2 rest e => keyKind_strs (by rw [← e]; exact hI)) (by rw [vl]; exact h64) fun st' hp hs => ⟨_, rfl, ?_⟩) (args_list_sort _)))
  obtain ⟨ys, a1, a2, a3⟩ := sorted_out_str hI hp hs
  obtain ⟨c, hc⟩ := sortedHeap_at (vs := vs) (out := (arrOf st').map (·.2)) hoL
  have pn : ys.Perm (es.toList.map tkey) := a2.trans pk
  refine wpAny_pure ⟨_, rfl, hQ _ s1.heap.objs.size ((arrOf st').map (·.2)) c ys (fun b u e => ?_) g1 o1 hz hc a1 a3 (pn.nodup_iff.mpr R.once) (fun k => by rw [pn.mem_iff, ← R.mem k]) ?_⟩
  · have q := k1 b u e
    have lt := Heap.lt_size q
    show (sortedHeap (s1.heap.push (seqObj "list" vs.toArray 0)) s1.heap.objs.size vs ((arrOf st').map (·.2))).get? b = some u
    rw [sortedHeap_old (Nat.ne_of_lt lt) (by rw [size_push']; exact Nat.lt_succ_of_lt lt)]
    exact Heap.get?_push_of_some _ q
  · rw [pn.length_eq, List.length_map, Array.length_toList]
    exact R.num
end
end KU

set_option Elab.async false
set_option linter.all false
set_option maxRecDepth 100000
set_option maxHeartbeats 4000000
/-! set(texts), sorted(set(texts)) as rules -/
namespace KU
open PySem PySem.Spec PyProof.Rows L2 Evl
def SetSO (w : World) (a : Addr) (S : Str → Bool) (n : Nat) : HO := .ext fun h => SetS w h a S n
theorem setSO_new {P : Program} {w : World} {H : Hp} {h : Heap} {a : Addr} {S : Str → Bool} {n : Nat} (R : SetS w h a S n) : ObjOk P w H h a (SetSO w a S n) := by
  obtain ⟨o, es, ep, t, ho, r⟩ := id R
  exact ⟨R, ⟨o, ho⟩, fun h1 h2 p k => SetS.keep p k⟩
section
variable {X : Cx}
def rSetTxt (K : PySem.W.Frag) (w : World) : List V → Hp → VK → Prop := fun xs H Q => ∃ (l : Addr) (ws : List Str), xs = [V.ref l] ∧ SqL K H l (ws.map V.str) ∧ ws.length ≤ 1000 ∧ ∀ a c, H a = none → c ≤ ws.length → Q (.ref a) (upd H a (SetSO w a (fun j => decide (j ∈ ws)) c))
theorem cr_setTxt (hc : X.calm = true) : CallR X (.type "set") (rSetTxt X.K X.w) := by
  intro pins s σ H xs us Q I r h
  obtain ⟨l, ws, rfl, hl, hn, q⟩ := h
  rw [Vals.ref1 r]
  obtain ⟨its, rv, pl, hz⟩ := I.list hl
  refine call_set_txt (P := X.prog) (w := X.w) ws (I.ok.hd hc) pl.isList (by simpa using rv.strs) (by unfold scanBound; omega) fun h' tk c R hc' k => ?_
  exact ⟨.ref s.heap.objs.size, _, I.laid (t' := tk) k (Nat.le_refl _) (setSO_new R), rfl, q _ c (I.hok.fresh (Nat.le_refl _)) hc'⟩
def rSortedTxt (w : World) : List V → Hp → VK → Prop := fun vs H Q => ∃ (a : Addr) (S : Str → Bool) (n : Nat), vs = [V.ref a] ∧ H a = some (SetSO w a S n) ∧ n < 64 ∧
  ∀ (ys : List Str) (p : Addr), sortedS ys = true → ys.Nodup → (∀ k, k ∈ ys ↔ S k = true) → H p = none → Q (.ref p) (upd H p (.lst (ys.map V.str)))
theorem cr_sortedTxt (hc : X.calm = true) : CallR X (.builtin "sorted") (rSortedTxt X.w) := by
  intro pins s σ H vs us Q I r h
  obtain ⟨a, S, n, rfl, ha, h64, q⟩ := h
  have R : SetS X.w s.heap a S n := (I.hok a _ ha).1
  rw [Vals.ref1 r]
  refine sorted_setS R (I.ok.hd hc) h64 fun s' p out c ys k g o hp hg hi hs nd hm hl => ?_
  have hlen : (ys.map V.str).length ≤ sizeLine := by
    rw [List.length_map, hl, sizeLine_eq]
    omega
  have hn : H p = none := I.hok.fresh hp
  have J : Inv X pins σ (upd H p (.lst (ys.map V.str))) { s with heap := s'.heap, gens := s'.gens, drawn := s'.drawn, toks := s'.toks } :=
    I.call (ch := []) (Un.laid k hp hn) (I.hok.laid k hp ⟨hlen, out.toList, c, vals_of_strs hi, hg⟩) (by rw [g]; exact I.bare) (fun _ z => nomatch z)
  have e : s' = { s with heap := s'.heap, gens := s'.gens, drawn := s'.drawn, toks := s'.toks } := by
    cases s'
    cases s
    cases o
    rfl
  rw [e]
  exact ⟨.ref p, _, J, rfl, q ys p hs nd hm hn⟩
end
/-- the texts, each once, in order -/
def srt (ws : List Str) : List Str := (uniq ws).mergeSort fun a b => decide (a.cps.toList ≤ b.cps.toList)
theorem rising_of : ∀ (x : Str) (l : List Str), (x :: l).Pairwise (fun a b => a.cps.toList ≤ b.cps.toList) → risingS x l = true
  | _, [], _ => rfl
  | x, y :: r, h => by
    obtain ⟨h1, h2⟩ := List.pairwise_cons.mp h
    have z := rising_of y r h2
    simp only [risingS, Bool.and_eq_true, Bool.not_eq_true']
    refine ⟨?_, z⟩
    cases g : ltCps y.cps.toList x.cps.toList with
    | false => rfl
    | true => exact absurd ((ltCps_iff _ _).mp g) (List.not_lt.mpr (h1 y List.mem_cons_self))
theorem sorted_of {l : List Str} (h : l.Pairwise fun a b => a.cps.toList ≤ b.cps.toList) : sortedS l = true := by
  cases l with
  | nil => rfl
  | cons x r => exact rising_of x r h
theorem srt_perm (ws : List Str) : (srt ws).Perm (uniq ws) := List.mergeSort_perm _ _
theorem srt_sorted (ws : List Str) : sortedS (srt ws) = true := by
  refine sorted_of ?_
  have z := List.pairwise_mergeSort (le := fun a b : Str => decide (a.cps.toList ≤ b.cps.toList)) (fun a b c h1 h2 => decide_eq_true (List.le_trans (of_decide_eq_true h1) (of_decide_eq_true h2)))
    (fun a b => by
      rw [Bool.or_eq_true, decide_eq_true_eq, decide_eq_true_eq]
      exact List.le_total _ _) (uniq ws)
  exact z.imp fun h => of_decide_eq_true h
theorem mem_srt (ws : List Str) (x : Str) : x ∈ srt ws ↔ x ∈ ws := (srt_perm ws).mem_iff.trans (mem_uniq ws x)
theorem nodup_srt (ws : List Str) : (srt ws).Nodup := (srt_perm ws).nodup_iff.mpr (nodup_uniq ws)
theorem srt_len (ws : List Str) : (srt ws).length ≤ ws.length := by
  rw [(srt_perm ws).length_eq]
  exact uniq_len ws
/-- sorted, each once, of the same texts: that list -/
theorem srt_is {ys ws : List Str} (h1 : sortedS ys = true) (h2 : ys.Nodup) (h3 : ∀ k, k ∈ ys ↔ k ∈ ws) : ys = srt ws :=
  sorted_unique ((List.perm_ext_iff_of_nodup h2 (nodup_srt ws)).mpr fun k => (h3 k).trans (mem_srt ws k).symm) h1 (srt_sorted ws)
section
variable {K : PySem.W.Frag} {σ : L2.St} {H : Hp} {te : TE} {ws : List Str} {w : World}
theorem el_srt (h : EvL te σ H (ws.map V.str)) (few : ws.length < 64) : EvL (tCB (rSortedTxt w) (tCons (tCB (rSetTxt K w) (tCons te tNil)) tNil)) σ H ((srt ws).map V.str) := fun H1 x1 Q q =>
  h H1 x1 _ fun p H2 hp x2 e => ⟨p, ws, rfl, sq_of e, by omega, fun a c ha hc => ⟨a, _, c, rfl, upd_same, by omega, fun ys q' hs nd hm hq => by
    have ey : ys = srt ws := srt_is hs nd fun k => (hm k).trans decide_eq_true_iff
    subst ey
    have n1 : H2 q' = none := fresh_back (Ex.new ha) hq
    exact q q' _ (fresh_back x2 n1) ((x2.trans (Ex.new ha)).trans (Ex.new hq)) upd_same⟩⟩
end
end KU

set_option Elab.async false
set_option linter.all false
set_option maxRecDepth 100000
set_option maxHeartbeats 4000000
/-! len(set(texts)); data that stay; isinstance(x, list) -/
namespace KU
open PySem PySem.Spec PyProof.Rows L2 Evl
section
variable {X : Cx}
def rLenSet (w : World) : List V → Hp → VK → Prop := fun vs H Q => ∃ (a : Addr) (ws : List Str) (n : Nat), vs = [V.ref a] ∧ H a = some (SetSO w a (fun j => decide (j ∈ ws)) n) ∧ Q (.int ((uniq ws).length : Int)) H
theorem held_len {w : World} {es : Array (Int × Value)} {t : SetTable} {ws : List Str} {n : Nat} (R : Held w es t (fun j => decide (j ∈ ws)) n) : es.size = (uniq ws).length := by
  have p : (es.toList.map tkey).Perm (uniq ws) := (List.perm_ext_iff_of_nodup R.once (nodup_uniq ws)).mpr fun k => by
    rw [← R.mem k, mem_uniq, decide_eq_true_eq]
  have l := p.length_eq
  rw [List.length_map, Array.length_toList] at l
  exact l
theorem call_lenSetT : CallR X (.builtin "len") (rLenSet X.w) := by
  intro pins s σ H xs us Q I r h
  obtain ⟨a, ws, n, rfl, ha, q⟩ := h
  obtain ⟨o, es, ep, t, ho, hex, hd, R⟩ : SetS X.w s.heap a (fun j => decide (j ∈ ws)) n := (I.hok a _ ha).1
  rw [Vals.ref1 r]
  have hf := R.few
  have hn := R.num
  unfold scanBound at hf
  refine call_len_set ho hex hd R.fits (by omega) ⟨.int ((uniq ws).length : Int), H, I.tok _, ⟨_, by rw [held_len R]⟩, q⟩
end
section
variable {K : PySem.W.Frag} {w : World} {σ : L2.St} {H : Hp} {te ta tb : TE} {ws : List Str}
theorem ev_lenSet (h : EvL te σ H (ws.map V.str)) (few : ws.length ≤ 1000) : Ev (tCB (rLenSet w) (tCons (tCB (rSetTxt K w) (tCons te tNil)) tNil)) σ H (.int ((uniq ws).length : Int)) := fun H1 x1 Q q =>
  h H1 x1 _ fun p H2 hp x2 e => ⟨p, ws, rfl, sq_of e, few, fun a c ha hc => ⟨a, ws, c, rfl, upd_same, q _ (x2.trans (Ex.new ha))⟩⟩
mutual
theorem dp_ex {H H' : Hp} (x : Ex H H') : ∀ {v : V} {d : PyData}, Dp K H v d → Dp K H' v d
  | _, _, .non => .non
  | _, _, .bl b => .bl b
  | _, _, .int i => .int i
  | _, _, .str t => .str t
  | _, _, .lst h r => .lst (ex_l x h) (dps_ex x r)
  | _, _, .tup h r => .tup (ex_t x h) (dps_ex x r)
theorem dps_ex {H H' : Hp} (x : Ex H H') : ∀ {vs : List V} {ds : List PyData}, DpAll K H vs ds → DpAll K H' vs ds
  | _, _, .nil => .nil
  | _, _, .cons a r => .cons (dp_ex x a) (dps_ex x r)
end
/-- a value with these data -/
def IsD (K : PySem.W.Frag) (d : PyData) : V → Hp → Prop := fun v H => Dp K H v d
theorem up_isD (d : PyData) : Up (IsD K d) := fun v H H' x h => dp_ex x h
theorem rv_neD2 {x y : V} {d e : PyData} (hd : Dp K H x d) (he : Dp K H y e) (sd : SeqAt.shaped d = true) (se : SeqAt.shaped e = true) : RV (rNeD K) x y H (.bl (!PyData.eqv d e)) :=
  fun H1 x1 _ q => ⟨d, e, dp_ex x1 hd, dp_ex x1 he, sd, se, q H1 (Ex.refl H1)⟩
theorem rv_eqD2 {x y : V} {d e : PyData} (hd : Dp K H x d) (he : Dp K H y e) (sd : SeqAt.shaped d = true) (se : SeqAt.shaped e = true) : RV (rEqD K) x y H (.bl (PyData.eqv d e)) :=
  fun H1 x1 _ q => ⟨d, e, dp_ex x1 hd, dp_ex x1 he, sd, se, q H1 (Ex.refl H1)⟩
/-- a op b of values of which predicates are known -/
theorem ev_opPP {P R : V → Hp → Prop} {r : R2} {z : V} (up : Up P) (ha : EvP ta σ H P) (hb : EvP tb σ H R) (hr : ∀ x y H1, Ex H H1 → P x H1 → R y H1 → RV r x y H1 z) : Ev (tOp r ta tb) σ H z := fun H1 e Q q =>
  ha H1 e _ fun x H2 e2 p => hb H2 (e.trans e2) _ fun y H3 e3 p2 => hr x y H3 ((e.trans e2).trans e3) (up _ _ _ e3 p) p2 H3 (Ex.refl _) Q fun H4 e4 => q H4 (e2.trans (e3.trans e4))
theorem ev_isList {p : Addr} {xs : List V} (h : Ev te σ H (.ref p)) (hp : H p = some (.lst xs)) : Ev (tCB (rIsi K) (tCons te (tCons (tC (.ty "list")) tNil))) σ H (.bl true) :=
  ev_cb (ea_cons h (ea_cons ev_c ea_nil)) fun H1 x1 Q q => ⟨_, _, _, _, true, rfl, .ty "list", .base (.lst (x1 _ _ hp)), kit_ty (by decide +kernel), q H1 (Ex.refl _)⟩
theorem ev_noList {p : Addr} {xs : List V} (h : Ev te σ H (.ref p)) (hp : H p = some (.tup xs)) : Ev (tCB (rIsi K) (tCons te (tCons (tC (.ty "list")) tNil))) σ H (.bl false) :=
  ev_cb (ea_cons h (ea_cons ev_c ea_nil)) fun H1 x1 Q q => ⟨_, _, _, _, false, rfl, .ty "list", .base (.tup (x1 _ _ hp)), kit_ty (by decide +kernel), q H1 (Ex.refl _)⟩
theorem evp_if {P : V → Hp → Prop} {t : TT} {b : Bool} (h : EvT t σ H b) (ha : b = true → EvP ta σ H P) (hb : b = false → EvP tb σ H P) : EvP (tIf t ta tb) σ H P := fun H1 x1 Q q => h H1 x1 _ fun H2 x2 => by
  cases b with
  | true =>
    rw [if_pos rfl]
    exact ha rfl H2 (x1.trans x2) Q fun v H3 x3 p => q v H3 (x2.trans x3) p
  | false =>
    rw [if_neg (by decide)]
    exact hb rfl H2 (x1.trans x2) Q fun v H3 x3 p => q v H3 (x2.trans x3) p
theorem evp_U {P : V → Hp → Prop} {xs : List V} (h : EvU te σ H xs) (hp : ∀ p H1, Ex H H1 → H1 p = some (.tup xs) → P (.ref p) H1) : EvP te σ H P := fun H1 x1 Q q => h H1 x1 _ fun p H2 hp2 x2 e => q _ H2 x2 (hp p H2 (x1.trans x2) e)
theorem evp_L {P : V → Hp → Prop} {xs : List V} (h : EvL te σ H xs) (hp : ∀ p H1, Ex H H1 → H1 p = some (.lst xs) → P (.ref p) H1) : EvP te σ H P := fun H1 x1 Q q => h H1 x1 _ fun p H2 hp2 x2 e => q _ H2 x2 (hp p H2 (x1.trans x2) e)
theorem evp_v {P : V → Hp → Prop} {v : V} (h : Ev te σ H v) (hp : ∀ H1, Ex H H1 → P v H1) : EvP te σ H P := fun H1 x1 Q q => h H1 x1 _ fun H2 x2 => q _ H2 x2 (hp H2 (x1.trans x2))
theorem dps_len {H : Hp} : ∀ {vs : List V} {ds : List PyData}, DpAll K H vs ds → vs.length = ds.length
  | _, _, .nil => rfl
  | _, _, .cons _ r => congrArg (· + 1) (dps_len r)
variable {tr : TA}
theorem epd_nil : EvPA tNil σ H (fun vs H => DpAll K H vs []) := fun H1 _ _ q => q [] H1 (Ex.refl H1) .nil
theorem epd_cons {d : PyData} {ds : List PyData} (h : EvP te σ H (IsD K d)) (hr : EvPA tr σ H (fun vs H => DpAll K H vs ds)) : EvPA (tCons te tr) σ H (fun vs H => DpAll K H vs (d :: ds)) := fun H1 e Q q =>
  h H1 e _ fun v H2 e2 p => hr H2 (e.trans e2) _ fun vs H3 e3 ps => q _ H3 (e2.trans e3) (.cons (dp_ex e3 p) ps)
theorem epd_lst {ds : List PyData} (h : EvPA tr σ H (fun vs H => DpAll K H vs ds)) (small : ds.length ≤ 100000) : EvP (tLst tr) σ H (IsD K (.list ds)) := fun H1 e Q q =>
  h H1 e _ fun vs H2 e2 ps => ⟨by rw [dps_len ps]; exact sz_of small, fun p hp => q _ _ (e2.trans (Ex.new hp)) (.lst (sq_of upd_same) (dps_ex (Ex.new hp) ps))⟩
theorem epd_tup {ds : List PyData} (h : EvPA tr σ H (fun vs H => DpAll K H vs ds)) (small : ds.length ≤ 100000) : EvP (tTup tr) σ H (IsD K (.tuple ds)) := fun H1 e Q q =>
  h H1 e _ fun vs H2 e2 ps => ⟨by rw [dps_len ps]; exact sz_of small, fun p hp => q _ _ (e2.trans (Ex.new hp)) (.tup (st_of upd_same) (dps_ex (Ex.new hp) ps))⟩
theorem epd_str {t : Str} (h : Ev te σ H (.str t)) : EvP te σ H (IsD K (.str t)) := evp_v h fun _ _ => .str t
theorem epd_int {i : Int} (h : Ev te σ H (.int i)) : EvP te σ H (IsD K (.int i)) := evp_v h fun _ _ => .int i
theorem epd_strsT {ws : List Str} (h : EvU te σ H (ws.map V.str)) : EvP te σ H (IsD K (.tuple (dstrs ws))) := evp_U h fun p H1 _ e => .tup (st_of e) (dp_strs ws)
theorem epd_strsL {ws : List Str} (h : EvL te σ H (ws.map V.str)) : EvP te σ H (IsD K (.list (dstrs ws))) := evp_L h fun p H1 _ e => .lst (sq_of e) (dp_strs ws)
end
end KU

set_option Elab.async false
set_option linter.all false
set_option maxRecDepth 100000
set_option maxHeartbeats 4000000
/-! An own operator that refuses a right operand of a class of Python's -/
namespace KU
open PySem PySem.Spec PyProof.Rows L2 Evl
section
variable {X : Cx} {pins : List (Addr × Obj)} {σ : L2.St} {H : Hp} {s : Shared}
/-- the class of a value of Python's own -/
inductive BTy (H : Hp) : V → String → Prop where
  | non : BTy H .non "NoneType"
  | bl (b : Bool) : BTy H (.bl b) "bool"
  | int (i : Int) : BTy H (.int i) "int"
  | str (t : Str) : BTy H (.str t) "str"
  | lst {a : Addr} {xs : List V} : H a = some (.lst xs) → BTy H (.ref a) "list"
  | tup {a : Addr} {xs : List V} : H a = some (.tup xs) → BTy H (.ref a) "tuple"
  | dic {a : Addr} {kvs : List (Key × V)} : H a = some (.dK kvs) → BTy H (.ref a) "dict"
theorem BTy.mono {H H' : Hp} (x : Ex H H') : ∀ {v : V} {T : String}, BTy H v T → BTy H' v T
  | _, _, .non => .non
  | _, _, .bl b => .bl b
  | _, _, .int i => .int i
  | _, _, .str t => .str t
  | _, _, .lst h => .lst (x _ _ h)
  | _, _, .tup h => .tup (x _ _ h)
  | _, _, .dic h => .dic (x _ _ h)
theorem looks_at {M : Model} {h : Heap} {a : Addr} {o : Obj} {T : Value} (e : h.get? a = some o) (c : o.cls = T) : PySem.W.Looks M h (typeOf (.ref a)) T := by
  intro A Q E s k q
  subst c
  exact wpAny_bind (wpAny_load (k _ _ e) (wpAny_pure q))
theorem looks_ty {M : Model} (I : Inv X pins σ H s) {v : V} {u : Value} {T : String} (r : RelV v u) (b : BTy H v T) : PySem.W.Looks M s.heap (typeOf u) (.type T) := by
  cases b with
  | non => cases (show u = Value.none from r); exact .of_pure rfl
  | bl b => cases (show u = Value.bool b from r); exact .of_pure rfl
  | int i => obtain ⟨t, rfl⟩ := (show ∃ t, u = Value.int i t from r); exact .of_pure rfl
  | str x => obtain ⟨t, rfl⟩ := (show ∃ t, u = Value.str x t from r); exact .of_pure rfl
  | @lst a xs h =>
    cases (show u = Value.ref a from r)
    obtain ⟨_, _, n, _, h1⟩ := (show ObjOk X.prog X.w H s.heap a (.lst xs) from I.hok a _ h)
    exact looks_at h1 rfl
  | @tup a xs h =>
    cases (show u = Value.ref a from r)
    obtain ⟨_, _, _, o, h1, h2, _⟩ := (show ObjOk X.prog X.w H s.heap a (.tup xs) from I.hok a _ h)
    exact looks_at h1 h2
  | @dic a kvs h =>
    cases (show u = Value.ref a from r)
    obtain ⟨_, _, vs, _, o, es, ep, h1, h2, _⟩ := (show ObjOk X.prog X.w H s.heap a (.dK kvs) from I.hok a _ h)
    exact looks_at h1 h2.1
end
/-- what a binary operator with a right operand of the class T looks up -/
def binOk (K : PySem.W.Frag) (C : Addr) (T nm : String) : Bool :=
  (match PySem.W.findIn K (.type T) (dunder nm), PySem.W.findIn K (.type T) (dunderR nm) with | some _, some _ => true | _, _ => false) && PySem.W.findIn K (.ref C) (dunderR nm) == some none && PySem.W.subIn K (.type T) (.ref C) == some false
section
variable {K : PySem.W.Frag} {A : Around} {E : Value → Shared → Prop} {s : Shared} {h₀ : Heap} {L x C f : Addr} {m : Str → Option Value} {ox : Obj} {od : Option Obj} {T : String}
theorem bin_raise {prog : Program} {w : World} {op : Operator} {b : Value} {Q : Value → Shared → Prop} (F : Fr h₀ L s.heap m) (X₀ : K.In h₀) (I : PySem.W.InstAt s.heap x ox C od) (hb : PySem.W.Looks (model prog w) s.heap (typeOf b) (.type T)) (hc : PySem.W.selfFirst K C = true)
    (hk : binOk K C T op.info.2 = true) (hs : PySem.W.findIn K (.ref C) (dunder op.info.2) = some (some (.ref f))) (hf : PySem.W.isFn K (.ref f) = true)
    (h : wpAny (model prog w) A (call (.ref f) [.ref x, b]) (fun _ _ => False) E s) : wpAny (model prog w) A (binaryOp op (.ref x) b) Q E s := by
  have X := X₀.keeps F.keep
  obtain ⟨cd, rest, hcd, hm⟩ := PySem.W.ksp_first hc
  unfold binOk at hk
  simp only [Bool.and_eq_true, beq_iff_eq] at hk
  obtain ⟨⟨k1, k2⟩, k3⟩ := hk
  cases h1 : PySem.W.findIn K (.type T) (dunder op.info.2) with
  | none => rw [h1] at k1; cases k1
  | some fo =>
    cases h2 : PySem.W.findIn K (.type T) (dunderR op.info.2) with
    | none => rw [h1, h2] at k1; cases k1
    | some ro =>
      have one : wpAny (model prog w) A (tryMethod (.ref x) (dunder op.info.2) b) (fun _ _ => False) E s := by
        unfold tryMethod
        exact wpAny_bind (PySem.W.special_fn X I hs (beq_iff_eq.mp hf) (wpAny_mono h (fun _ _ z => z.elim) fun _ _ e => e))
      have both : wpAny (model prog w) A (binaryOp1 op.info.2 (.ref x) b) (fun _ _ => False) E s := by
        have l3 : PySem.W.Looks (model prog w) s.heap (fillsNumberSlot (.ref C) op.info.2) true := PySem.W.fills_K X hcd hm hs
        have l4 := PySem.W.ksp_fillsT (M := model prog w) X h1 h2
        have l5 : PySem.W.Looks (model prog w) s.heap (isSubtype (.type T) (.ref C)) false := PySem.W.looks_subIn X k3
        have l6 : PySem.W.Looks (model prog w) s.heap (numberSlotInPython (.ref C) op.info.2) true := PySem.W.ksp_inPy X hs k2 (.inl rfl)
        have l7 : PySem.W.Looks (model prog w) s.heap (numberSlotInPython (.type T) op.info.2) false := .of_pure rfl
        have l8 : PySem.W.Looks (model prog w) s.heap (typeLookup (.type T) (dunderR op.info.2)) ro := PySem.W.looks_findIn X h2
        have ne : (Value.ref C == Value.type T) = false := Bool.eq_false_iff.mpr fun q => by cases beq_iff_eq.mp q
        generalize ((fo.isSome && !isSeqSlot fo) || (ro.isSome && !isSeqSlot ro)) = right at l4
        unfold binaryOp1
        refine wpAny_bind (I.type.here (wpAny_bind (hb.here (wpAny_bind (l3.here ?_)))))
        rw [ne]
        simp only [Bool.false_eq_true, if_false]
        refine wpAny_bind (l4.here ?_)
        cases right with
        | false =>
          simp only [Bool.and_false, Bool.false_and, Bool.false_eq_true, if_false, if_true]
          refine wpAny_bind (wpAny_pure ?_)
          simp only [Bool.false_eq_true, if_false]
          exact wpAny_bind (wpAny_mono one (fun _ _ z => z.elim) fun _ _ e => e)
        | true =>
          simp only [Bool.and_true, Bool.true_and, if_true, Bool.not_false]
          refine wpAny_bind (l5.here ?_)
          simp only [Bool.false_eq_true, if_false, Bool.not_false, if_true]
          refine wpAny_bind (l6.here ?_)
          simp only [if_true]
          refine wpAny_bind (l7.here ?_)
          simp only [Bool.not_false, if_true]
          refine wpAny_bind (l8.here ?_)
          exact wpAny_bind (wpAny_mono one (fun _ _ z => z.elim) fun _ _ e => e)
      unfold binaryOp
      exact wpAny_holding (wpAny_bind (wpAny_mono both (fun _ _ z => z.elim) fun _ _ e => e))
end
section
variable {X : Cx} {CX : CXT} {C g : Addr} {n : Nat} {sp : Sp} {E : XK}
/-- a op v, v of a class of Python's own, refused -/
def rBinX (K : PySem.W.Frag) (C : Addr) (nm : String) (sp : Sp) (E : XK) : R2 := fun x y H _ => ∃ (a dx : Addr) (fs : List (Str × V)) (T : String), x = .ref a ∧ H a = some (.ins C dx fs) ∧ BTy H y T ∧ binOk K C T nm = true ∧ sp [x, y] H (fun _ _ => False) E
theorem op_binX {op : Operator} (sf : PySem.W.selfFirst X.K C = true) (hs : PySem.W.findIn X.K (.ref C) (dunder op.info.2) = some (some (.ref g))) (hf : PySem.W.isFn X.K (.ref g) = true)
    (F : FnR X.prog X.w X.K X.mg X.base CX n g sp) (hr : Room n X.A) (hx : Passes CX X E) : OpR X (binaryOp op) (rBinX X.K C op.info.2 sp E) := by
  intro pins s σ H x y u v Q I rx ry h
  obtain ⟨a, dx, fs, T, rfl, ha, bt, ok, q⟩ := h
  obtain rfl : u = Value.ref a := rx
  obtain ⟨od, Ja⟩ := ins_at I ha
  obtain ⟨m, fr⟩ := I.fr
  refine bin_raise fr I.ok.mod.kin Ja (looks_ty I ry bt) sf ok hs hf ?_
  exact wpAny_mono (own_call F hr I.env0 hx I (vs := [.ref a, y]) (.cons rfl (.cons ry .nil)) q) (fun u s' ⟨z, H', I', rz, qz⟩ => qz) fun e s' z => z
/-- a compared with v, v of a class of Python's own, refused -/
def rCmpX (K : PySem.W.Frag) (C : Addr) (sp : Sp) (E : XK) : R2 := fun x y H _ => ∃ (a dx : Addr) (fs : List (Str × V)) (T : String), x = .ref a ∧ H a = some (.ins C dx fs) ∧ BTy H y T ∧ PySem.W.notFirst K C (.type T) = true ∧ sp [x, y] H (fun _ _ => False) E
theorem op_cmpX {op : CmpOp} (hop : ∀ a b, compareOp op a b = richCompare op a b) (hs : PySem.W.findIn X.K (.ref C) (cmpInfo op).2.1 = some (some (.ref g))) (hf : PySem.W.isFn X.K (.ref g) = true)
    (F : FnR X.prog X.w X.K X.mg X.base CX n g sp) (hr : Room n X.A) (hx : Passes CX X E) : OpR X (compareOp op) (rCmpX X.K C sp E) := by
  intro pins s σ H x y u v Q I rx ry h
  obtain ⟨a, dx, fs, T, rfl, ha, bt, nf, q⟩ := h
  obtain rfl : u = Value.ref a := rx
  obtain ⟨od, Ja⟩ := ins_at I ha
  obtain ⟨m, fr⟩ := I.fr
  rw [hop]
  refine PySem.W.cmp_K (Nat.lt_of_le_of_lt (Nat.le_add_right _ 64) hr.units) fr I.ok.mod.kin Ja (looks_ty I ry bt) nf hs hf ?_
  exact wpAny_mono (own_call F hr I.env0 hx I (vs := [.ref a, y]) (.cons rfl (.cons ry .nil)) q) (fun u s' ⟨z, H', I', rz, qz⟩ => (show False from qz).elim) fun e s' z => z
end
end KU

set_option Elab.async false
set_option linter.all false
set_option maxRecDepth 100000
set_option maxHeartbeats 4000000
/-! Texts split at one sign, and joined by it -/
namespace SJ
open PySem PySem.Builtin PySem.Builtin.Str PySem.StrLaws
theorem s_ext {a b : Str} (h : a.cps.toList = b.cps.toList) : a = b := Str.ext' (Array.toList_inj.mp h)
def jn (c : Nat) : List (List Nat) → List Nat
  | [] => []
  | b :: t => b ++ t.flatMap fun p => c :: p
theorem jn_two (c : Nat) (a b : List Nat) (r : List (List Nat)) : jn c (a :: b :: r) = a ++ c :: jn c (b :: r) := by simp [jn]
theorem jn_one (c : Nat) (a : List Nat) : jn c [a] = a := by simp [jn]
theorem part_eq {c : Nat} : ∀ {a b x y : List Nat}, c ∉ a → c ∉ b → a ++ c :: x = b ++ c :: y → a = b ∧ x = y
  | [], [], _, _, _, _, h => by simpa using h
  | [], b :: bs, x, y, _, hb, h => by
    simp only [List.nil_append, List.cons_append, List.cons.injEq] at h
    exact absurd (h.1 ▸ List.mem_cons_self) hb
  | a :: as, [], x, y, ha, _, h => by
    simp only [List.nil_append, List.cons_append, List.cons.injEq] at h
    exact absurd (h.1 ▸ List.mem_cons_self) ha
  | a :: as, b :: bs, x, y, ha, hb, h => by
    simp only [List.cons_append, List.cons.injEq] at h
    obtain ⟨e1, e2⟩ := part_eq (fun m => ha (List.mem_cons_of_mem _ m)) (fun m => hb (List.mem_cons_of_mem _ m)) h.2
    exact ⟨by rw [h.1, e1], e2⟩
theorem jn_inj {c : Nat} : ∀ {ps qs : List (List Nat)}, (∀ p ∈ ps, c ∉ p) → (∀ q ∈ qs, c ∉ q) → ps ≠ [] → qs ≠ [] → jn c ps = jn c qs → ps = qs
  | [], _, _, _, h, _, _ => absurd rfl h
  | _, [], _, _, _, h, _ => absurd rfl h
  | [a], [b], _, _, _, _, h => by rw [jn_one, jn_one] at h; rw [h]
  | [a], b :: d :: r, ha, _, _, _, h => by
    rw [jn_one, jn_two] at h
    exact absurd (by rw [h]; simp) (ha a List.mem_cons_self)
  | a :: d :: r, [b], _, hb, _, _, h => by
    rw [jn_one, jn_two] at h
    exact absurd (by rw [← h]; simp) (hb b List.mem_cons_self)
  | a :: d :: r, b :: e :: s, ha, hb, _, _, h => by
    rw [jn_two, jn_two] at h
    obtain ⟨e1, e2⟩ := part_eq (ha a List.mem_cons_self) (hb b List.mem_cons_self) h
    rw [e1, jn_inj (fun p m => ha p (List.mem_cons_of_mem _ m)) (fun p m => hb p (List.mem_cons_of_mem _ m)) (by simp) (by simp) e2]
/-- a beginning of what was joined: words of which each is at most as long -/
theorem jn_take {c : Nat} : ∀ (ps : List (List Nat)) (n : Nat), ps ≠ [] → (∀ p ∈ ps, c ∉ p) → ∃ qs, qs ≠ [] ∧ (∀ q ∈ qs, c ∉ q) ∧ jn c qs = (jn c ps).take n ∧ qs.length ≤ ps.length ∧
    (∀ q ∈ qs, ∃ p ∈ ps, q.length ≤ p.length) ∧ (qs.map fun q => min q.length 8).sum ≤ (ps.map fun p => min p.length 8).sum
  | [], _, h, _ => absurd rfl h
  | [a], n, _, ha => ⟨[a.take n], by simp, fun q hq => by rw [List.mem_singleton.mp hq]; exact fun m => ha a List.mem_cons_self (List.mem_of_mem_take m), by rw [jn_one, jn_one], Nat.le_refl _,
      fun q hq => ⟨a, List.mem_cons_self, by rw [List.mem_singleton.mp hq, List.length_take]; exact Nat.min_le_right _ _⟩, by
        simp only [List.map_cons, List.map_nil, List.sum_cons, List.sum_nil, List.length_take]
        omega⟩
  | a :: b :: r, n, _, ha => by
    have one : ∀ k, k ≤ a.length → (jn c (a :: b :: r)).take k = a.take k := fun k hk => by
      rw [jn_two, List.take_append_of_le_length hk]
    rcases Nat.lt_or_ge a.length n with lt | ge
    · obtain ⟨qs, q0, q1, q2, q3, q4, q5⟩ := jn_take (b :: r) (n - a.length - 1) (by simp) fun p m => ha p (List.mem_cons_of_mem _ m)
      obtain ⟨q, qs', rfl⟩ := List.exists_cons_of_ne_nil q0
      refine ⟨a :: q :: qs', by simp, fun p m => ?_, ?_, ?_, fun p m => ?_, ?_⟩
      · rcases List.mem_cons.mp m with rfl | m
        · exact ha _ List.mem_cons_self
        · exact q1 p m
      · rw [jn_two, jn_two, q2, List.take_append, List.take_of_length_le (Nat.le_of_lt lt)]
        have : n - a.length = (n - a.length - 1) + 1 := by omega
        rw [this, List.take_succ_cons]
        simp
      · simpa using q3
      · rcases List.mem_cons.mp m with rfl | m
        · exact ⟨_, List.mem_cons_self, Nat.le_refl _⟩
        · obtain ⟨p', m', l⟩ := q4 p m
          exact ⟨p', List.mem_cons_of_mem _ m', l⟩
      · rw [List.map_cons, List.sum_cons, List.map_cons (l := b :: r), List.sum_cons]
        omega
    · refine ⟨[a.take n], by simp, fun q hq => by rw [List.mem_singleton.mp hq]; exact fun m => ha a List.mem_cons_self (List.mem_of_mem_take m), by rw [jn_one, one n ge], by simp,
        fun q hq => ⟨a, List.mem_cons_self, by rw [List.mem_singleton.mp hq, List.length_take]; exact Nat.min_le_right _ _⟩, ?_⟩
      simp only [List.map_cons, List.map_nil, List.sum_cons, List.sum_nil, List.length_take]
      omega
def lists (ws : List Str) : List (List Nat) := ws.map fun w => w.cps.toList
theorem join_cps (s : Str) (c : Nat) (hs : s = ⟨#[c]⟩) : ∀ ws : List Str, (Str.join s ws).cps.toList = jn c (lists ws)
  | [] => rfl
  | [a] => by show a.cps.toList = _; unfold lists; rw [List.map_cons, List.map_nil, jn_one]
  | a :: b :: r => by
    have ih := join_cps s c hs (b :: r)
    show ((a ++ s) ++ Str.join s (b :: r)).cps.toList = _
    unfold lists at ih ⊢
    rw [List.map_cons, List.map_cons, jn_two]
    rw [List.map_cons] at ih
    rw [← ih, hs]
    show ((a.cps ++ #[c]) ++ (Str.join ⟨#[c]⟩ (b :: r)).cps).toList = _
    simp
theorem fold_cps (g : Array Nat) (r : List Str) (a : Array Nat) : (r.foldl (fun (acc : Array Nat) (p : Str) => acc ++ g ++ p.cps) a).toList = a.toList ++ r.flatMap fun p => g.toList ++ p.cps.toList := by
  induction r generalizing a with
  | nil => simp
  | cons b t ih =>
    rw [List.foldl_cons, ih, List.flatMap_cons]
    simp
theorem tjoin_cps (c : Nat) (ws : List Str) : (Txt.join ⟨#[c]⟩ ws).cps.toList = jn c (lists ws) := by
  show (List.foldl (fun (acc : Array Nat) (p : Str) => acc ++ #[c] ++ p.cps) (ws.headD Str.empty).cps (List.drop 1 ws)).toList = _
  rw [fold_cps]
  cases ws with
  | nil => simp [Str.empty, lists, jn]
  | cons b t => simp [lists, jn, List.flatMap_map]
theorem tjoin_eq (c : Nat) (ws : List Str) : Txt.join ⟨#[c]⟩ ws = Str.join ⟨#[c]⟩ ws := s_ext (by rw [tjoin_cps, join_cps _ c rfl])
theorem lists_inj {a b : List Str} (h : lists a = lists b) : a = b := by
  unfold lists at h
  exact (List.map_inj_right fun x y e => s_ext e).mp h
theorem split_ne (t : Str) (c : Nat) : Txt.split t ⟨#[c]⟩ ≠ [] := fun z => by
  have := PyProof.Rows.split_pos t ⟨#[c]⟩
  rw [z] at this
  exact absurd this (by decide)
/-- words without the sign are what the joined text is split into -/
theorem split_join {c : Nat} {ws : List Str} (ne : ws ≠ []) (free : ∀ w ∈ ws, c ∉ w.cps.toList) : Txt.split (Txt.join ⟨#[c]⟩ ws) ⟨#[c]⟩ = ws := by
  have e := join_split (Txt.join ⟨#[c]⟩ ws) ⟨#[c]⟩
  have f := split_free (Txt.join ⟨#[c]⟩ ws) c
  have n := split_ne (Txt.join ⟨#[c]⟩ ws) c
  rw [tjoin_eq] at e f n ⊢
  refine lists_inj (jn_inj (c := c) (fun p m => ?_) (fun p m => ?_) (fun z => n ?_) (fun z => ne ?_) ?_)
  · obtain ⟨w, hw, rfl⟩ := List.mem_map.mp m
    exact f w hw
  · obtain ⟨w, hw, rfl⟩ := List.mem_map.mp m
    exact free w hw
  · exact List.map_eq_nil_iff.mp z
  · exact List.map_eq_nil_iff.mp z
  · rw [← join_cps _ c rfl, ← join_cps _ c rfl, e]
theorem join_of (c : Nat) (t : Str) : Txt.join ⟨#[c]⟩ (Txt.split t ⟨#[c]⟩) = t := by rw [tjoin_eq, join_split]
/-- a beginning of a text -/
theorem split_take {c : Nat} (t u : Str) {n : Nat} (h : u.cps.toList = t.cps.toList.take n) : (Txt.split u ⟨#[c]⟩).length ≤ (Txt.split t ⟨#[c]⟩).length ∧ (∀ q ∈ Txt.split u ⟨#[c]⟩, ∃ p ∈ Txt.split t ⟨#[c]⟩, q.length ≤ p.length) ∧
    ((Txt.split u ⟨#[c]⟩).map fun q => min q.length 8).sum ≤ ((Txt.split t ⟨#[c]⟩).map fun p => min p.length 8).sum := by
  have et := join_of c t
  have ft := split_free t c
  have nt := split_ne t c
  generalize Txt.split t ⟨#[c]⟩ = ws at et ft nt ⊢
  obtain ⟨qs, q0, q1, q2, q3, q4, q5⟩ := jn_take (c := c) (lists ws) n (fun z => nt (List.map_eq_nil_iff.mp z)) fun p m => by
    obtain ⟨w, hw, rfl⟩ := List.mem_map.mp m
    exact ft w hw
  obtain ⟨us, rfl⟩ : ∃ us : List Str, qs = lists us := ⟨qs.map fun q => ⟨q.toArray⟩, by
    unfold lists
    rw [List.map_map]
    exact (List.map_id' qs).symm⟩
  have eu : u = Txt.join ⟨#[c]⟩ us := s_ext (by rw [h, tjoin_cps, q2, ← tjoin_cps, et])
  have su : Txt.split u ⟨#[c]⟩ = us := by
    rw [eu]
    refine split_join (fun z => q0 (by rw [z]; rfl)) fun w hw => ?_
    exact q1 _ (List.mem_map.mpr ⟨w, hw, rfl⟩)
  rw [su]
  have ll : ∀ w : Str, w.cps.toList.length = w.length := fun w => by simp [Str.length]
  have mm : ∀ l : List Str, (lists l).map (fun p => min p.length 8) = l.map fun p => min p.length 8 := fun l => by
    unfold lists
    rw [List.map_map]
    exact List.map_congr_left fun w _ => by simp [ll]
  refine ⟨by simpa [lists] using q3, fun q m => ?_, by rw [← mm, ← mm]; exact q5⟩
  obtain ⟨p, mp, l⟩ := q4 _ (List.mem_map.mpr ⟨q, m, rfl⟩)
  obtain ⟨w, hw, rfl⟩ := List.mem_map.mp mp
  exact ⟨w, hw, by rw [← ll, ← ll]; exact l⟩
end SJ

set_option Elab.async false
set_option linter.all false
set_option maxRecDepth 100000
set_option maxHeartbeats 4000000
/-! signs.py, for rows of moves -/
namespace K02
open PySem PySem.Spec PyProof.Rows L2 Evl KU
def topR (i : Nat) : Stmt := PySem.Challenge.pw_flagfree_k11_texts_of_moves.main.body.getD i (.Pass ⟨0, 0, 0, 0⟩)
/-- the places of this row -/
abbrev sIsText : Stmt := topR 9
abbrev sIsWord : Stmt := topR 10
abbrev sIsSgn : Stmt := topR 11
abbrev sIsAlphabet : Stmt := topR 0
abbrev sUnl : Stmt := topR 0
abbrev sSwap : Stmt := topR 0
abbrev sExd : Stmt := topR 0
abbrev sBegins : Stmt := topR 16
abbrev sCheck : Stmt := topR 17
abbrev sMove : Stmt := topR 21
abbrev sPut : Stmt := topR 22
abbrev sCode : Stmt := topR 23
abbrev putM (i : Nat) : Stmt := inClass sPut i
abbrev codeM (i : Nat) : Stmt := inClass sCode i
abbrev iIsOf : Nat := 10
abbrev iChanged : Nat := 11
abbrev sPen : Stmt := topR 25
abbrev sDraw : Stmt := topR 26
abbrev sPick : Stmt := topR 27
abbrev sMixed : Stmt := topR 28
abbrev sLCode : Stmt := topR 29
structure Free (mg : Str → Option Value) : Prop where
  int : mg "int" = none
  len : mg "len" = none
  abs : mg "abs" = none
  list : mg "list" = none
  str : mg "str" = none
  isinstance : mg "isinstance" = none
  all : mg "all" = none
  any : mg "any" = none
  range : mg "range" = none
  sorted : mg "sorted" = none
  tuple : mg "tuple" = none
section
variable {K : PySem.W.Frag} {σ : L2.St} {H : Hp} {te tl ta tb : TE}
abbrev rStrip : V → List V → Hp → VK → Prop := fun x xs H Q => ∃ a b, x = V.str a ∧ xs = [V.str b] ∧ a.length ≤ sizeLine ∧ Q (V.str (Txt.stripChars a b)) H
/-- w in t -/
def inS (w t : Str) : Bool := !(Builtin.Str.occurrences t w 0 t.length 1).isEmpty
def rInS : R2 := fun x y H Q => ∃ i j, x = V.str i ∧ y = V.str j ∧ Q (V.bl (inS i j)) H
theorem op_inS {X : Cx} : OpR X (compareOp .In) rInS := op_in_str
theorem ev_inS {a b : Str} (ha : Ev ta σ H (.str a)) (hb : Ev tb σ H (.str b)) : Ev (tOp rInS ta tb) σ H (.bl (inS a b)) := ev_op ha hb fun H1 x1 Q q => ⟨a, b, rfl, rfl, q H1 (Ex.refl _)⟩
def ltS (a b : Str) : Bool := decide (a.cps.toList < b.cps.toList)
def rLtS : R2 := fun x y H Q => ∃ i j, x = V.str i ∧ y = V.str j ∧ Q (V.bl (ltS i j)) H
theorem op_ltS {X : Cx} : OpR X (compareOp .Lt) rLtS := op_lt_str
theorem ev_ltS {a b : Str} (ha : Ev ta σ H (.str a)) (hb : Ev tb σ H (.str b)) : Ev (tOp rLtS ta tb) σ H (.bl (ltS a b)) := ev_op ha hb fun H1 x1 Q q => ⟨a, b, rfl, rfl, q H1 (Ex.refl _)⟩
theorem ev_anyN {bs : List Bool} (h : EvL tl σ H (bs.map V.bl)) : Ev (tCB (rAny K) (tCons tl tNil)) σ H (.bl (bs.any id)) := fun H1 x1 Q q => h H1 x1 _ fun p H2 hp x2 e => ⟨p, bs, rfl, sq_of e, q H2 x2⟩
theorem ev_allN {bs : List Bool} (h : EvL tl σ H (bs.map V.bl)) : Ev (tCB (rAll K) (tCons tl tNil)) σ H (.bl (bs.all id)) := fun H1 x1 Q q => h H1 x1 _ fun p H2 hp x2 e => ⟨p, bs, rfl, sq_of e, q H2 x2⟩
abbrev rLenStr : List V → Hp → VK → Prop := fun xs H Q => ∃ z : Str, xs = [V.str z] ∧ z.length ≤ sizeLine ∧ Q (V.int (z.length : Int)) H
theorem ev_lenS {x : Str} (h : Ev te σ H (.str x)) (hx : x.length ≤ sizeLine) : Ev (tCB rLenStr (tCons te tNil)) σ H (.int (x.length : Int)) := ev_cb (ea_cons h ea_nil) fun H1 x1 Q q => ⟨x, rfl, hx, q H1 (Ex.refl _)⟩
end

def isTextB (x al : Str) : Bool := decide (V.str (Txt.stripChars x al) = V.str "")
def isWordB (x al : Str) (m : Int) : Bool := isTextB x al && (decide ((1 : Int) ≤ (x.length : Int)) && decide ((x.length : Int) ≤ m))
/-- a text that is not long, or no text -/
inductive SV (K : PySem.W.Frag) (H : Hp) : V → Prop where
  | str (t : Str) : t.length ≤ 1000 → SV K H (.str t)
  | no {v : V} : isStrV v = false → (∀ H', Ex H H' → ∃ t, TyX K H' v t ∧ PySem.W.kitOne K t (.type "str") = some false) → SV K H v
theorem SV.mono {K : PySem.W.Frag} {H H' : Hp} {v : V} (x : Ex H H') (h : SV K H v) : SV K H' v := by
  cases h with
  | str t l => exact .str t l
  | no n h => exact .no n fun H2 y => h H2 (x.trans y)
theorem bty_tyx {K : PySem.W.Frag} {H : Hp} {v : V} {T : String} (b : BTy H v T) : TyX K H v (.type T) := by
  cases b with
  | non => exact .base .non
  | bl b => exact .base (.bl b)
  | int i => exact .base (.int i)
  | str t => exact .base (.str t)
  | lst h => exact .base (.lst h)
  | tup h => exact .base (.tup h)
  | dic h => exact .base (.dK h)
theorem sv_bty {K : PySem.W.Frag} {H : Hp} {v : V} {T : String} (b : BTy H v T) (n : T ≠ "str") : SV K H v := by
  refine .no ?_ fun H' x => ⟨.type T, bty_tyx (b.mono x), ?_⟩
  · cases b with
    | str t => exact absurd rfl n
    | _ => rfl
  · cases b with
    | str t => exact absurd rfl n
    | _ => exact kit_ty (r := false) (by decide +kernel)
theorem ev_isS {K : PySem.W.Frag} {σ : L2.St} {H : Hp} {te : TE} {v : V} (h : Ev te σ H v) (s : SV K H v) : Ev (tCB (rIsi K) (tCons te (tCons (tC (.ty "str")) tNil))) σ H (.bl (isStrV v)) := ev_cb (ea_cons h (ea_cons ev_c ea_nil)) fun H1 x1 Q1 q1 => by
  cases s with
  | str t l => exact ⟨_, _, _, _, true, rfl, .ty "str", .base (.str _), kit_ty (by decide +kernel), q1 H1 (Ex.refl _)⟩
  | no n hn =>
    obtain ⟨t, ty, e⟩ := hn H1 x1
    rw [n] at q1
    exact ⟨v, _, t, _, false, rfl, .ty "str", ty, e, q1 H1 (Ex.refl _)⟩
def isTxt (v : V) (al : Str) : Bool := match v with
  | .str t => isTextB t al
  | _ => false
def isWrdM (v : V) (al : Str) (m : Int) : Bool := match v with
  | .str t => isWordB t al m
  | _ => false
theorem isTxt_and (v : V) (al : Str) : (isStrV v && isTxt v al) = isTxt v al := by
  cases v <;> rfl
def RaiseV (C : Addr) (f : Str) (v : V) (H : Hp) (E : XK) : Prop := ∀ d H', Ex H H' → H' d = some (.xd [(f, v)]) → E (.ref C) (some d) H'
def spIsText (K : PySem.W.Frag) : Sp := fun vs H Q _ => ∃ (v : V) (al : Str), vs = [v, .str al] ∧ SV K H v ∧ RetV (.bl (isTxt v al)) H Q
def spIsWord (K : PySem.W.Frag) : Sp := fun vs H Q _ => ∃ (v : V) (al : Str) (m : Int), vs = [v, .str al, .int m] ∧ SV K H v ∧ RetV (.bl (isWrdM v al m)) H Q
theorem scIsText : FnScope ["value", "signs"] ["value", "signs"] (defScope sIsText) := ⟨rfl, rfl, rfl, by decide +kernel, rfl, by decide +kernel, by decide +kernel⟩
theorem scIsWord : FnScope ["value", "signs", "most"] ["value", "signs", "most"] (defScope sIsWord) := ⟨rfl, rfl, rfl, by decide +kernel, rfl, by decide +kernel, by decide +kernel⟩
theorem str_of_SV {K : PySem.W.Frag} {H : Hp} {v : V} (s : SV K H v) (h : isStrV v = true) : ∃ t : Str, v = .str t ∧ t.length ≤ 1000 := by
  cases s with
  | str t l => exact ⟨t, rfl, l⟩
  | no n _ =>
    rw [n] at h
    cases h
structure TSigns (K : PySem.W.Frag) (mg : Str → Option Value) (fT fW fA : Addr) : Prop extends Free mg where
  gT : mg "is_text" = some (.ref fT)
  kT : PySem.W.keepIn K (.ref fT) = true
  gW : mg "is_word" = some (.ref fW)
  kW : PySem.W.keepIn K (.ref fW) = true
  gA : mg "is_alphabet" = some (.ref fA)
  kA : PySem.W.keepIn K (.ref fA) = true
  gS : ∃ t, mg "SIGNS" = some (.str "0123456789abcdefghijklmnopqrstuvwxyz" t)
section
variable {P : Program} {w : World} {K : PySem.W.Frag} {mg : Str → Option Value} {base : Heap}
theorem ok_is_text {f : Addr} {fd : FuncData} (F : Fun K "is_text" "is_text" sIsText f fd) (T : Free mg) : FnOk P w K mg base CX0 1 f fd ["value", "signs"] (spIsText K) := by
  refine F.ok scIsText (fun vs H Q E h => ?_) (fun cdv A outer s H vs Q E hr h => ?_)
  · obtain ⟨_, _, rfl, _⟩ := h
    rfl
  · obtain ⟨v, al, rfl, o, k⟩ := h
    refine ⟨_, pss_one (ps_ret (pe_and (pe_callB call_isi (by rfl) T.isinstance (by decide +kernel) (pa_cons (pv 0) (pa_cons (pe_bltn (v := .ty "str") (by rfl) T.str (by decide +kernel) rfl) pa_nil)))
      (pe_one (pe_cmpR op_eq (pe_bm PySem.F.plainAttrs_str PySem.F.slot_str_strip PySem.F.type_str_strip mt_stripChars (pv 0) (pa_cons (pv 1) pa_nil)) pe_str (nomark _))))), ?_⟩
    refine s_ret (v := .bl (isTxt v al)) (ev_is (ev_andV (a := isStrV v) (b := isTxt v al) (ev_isS (K := K) (ev_var rfl) o) fun hs => ?_) (by rw [isTxt_and])) k
    obtain ⟨t, rfl, hl⟩ := str_of_SV o hs
    have st : Ev (tBM K "str" rStrip (tVar 0) (tCons (tVar 1) tNil)) (start ["value", "signs"] [.str t, .str al]) H (.str (Txt.stripChars t al)) := fun H1 x1 Q q => ⟨_, rfl, rfl, _, rfl, t, al, rfl, rfl, Nat.le_trans hl (by decide), q H1 (Ex.refl _)⟩
    exact ev_op st ev_c (rv_eq rfl)
theorem ok_is_word {f fT fA : Addr} {fd fdT : FuncData} (F : Fun K "is_word" "is_word" sIsWord f fd) (T : TSigns K mg fT f fA) (FT : Fun K "is_text" "is_text" sIsText fT fdT) (bT : Binds K fdT ["value", "signs"] []) :
    FnOk P w K mg base CX0 2 f fd ["value", "signs", "most"] (spIsWord K) := by
  have GT : FnOk P w K mg base CX0 1 fT fdT ["value", "signs"] (spIsText K) := ok_is_text FT T.toFree
  refine F.ok scIsWord (fun vs H Q E h => ?_) (fun cdv A outer s H vs Q E hr h => ?_)
  · obtain ⟨_, _, _, rfl, _⟩ := h
    rfl
  · obtain ⟨v, al, m, rfl, o, k⟩ := h
    refine ⟨_, pss_one (ps_ret (pe_and (pe_call GT hr (by rfl) T.gT T.kT bT .nil pass0 (pa_cons (pv 0) (pa_cons (pv 1) pa_nil)))
      (pe_one (pe_chain op_le op_le pe_int (pe_callB call_len_str (by rfl) T.len PySem.boot_len (pa_cons (pv 0) pa_nil)) (pv 2))))), ?_⟩
    refine ⟨_, rfl, _, rfl, v, al, rfl, o, fun H2 x2 => ⟨_, rfl, ?_⟩⟩
    have z := k H2 x2
    cases hb : isTxt v al with
    | false =>
      rw [if_neg (by decide)]
      have e : isWrdM v al m = false := by
        cases v with
        | str t =>
          have hb : isTextB t al = false := hb
          show isWordB t al m = false
          unfold isWordB
          rw [hb]
          rfl
        | _ => rfl
      rw [e] at z
      exact z
    | true =>
      rw [if_pos rfl]
      obtain ⟨t, rfl, hl⟩ : ∃ t, v = .str t ∧ t.length ≤ 1000 := str_of_SV o (by cases v with
        | str t => rfl
        | _ => cases hb)
      have hb : isTextB t al = true := hb
      have z : Q (.bl (isWordB t al m)) H2 := z
      unfold isWordB at z
      rw [hb, Bool.true_and] at z
      refine ⟨_, rfl, t, rfl, Nat.le_trans hl (by decide), _, _, rfl, rfl, _, rfl, ?_⟩
      cases h1 : decide ((1 : Int) ≤ (t.length : Int)) with
      | false =>
        rw [if_neg (by decide)]
        rw [h1] at z
        exact z
      | true =>
        rw [if_pos rfl]
        rw [h1, Bool.true_and] at z
        exact ⟨_, rfl, _, _, rfl, rfl, z⟩
def sSIGNS : Str := "0123456789abcdefghijklmnopqrstuvwxyz"
def sgn (x : Str) (k : Nat) : Str := ⟨#[x.cps.toList.getD k 0]⟩
def isAlphaB (x : Str) : Bool := (isWordB x sSIGNS 4 && !decide ((x.length : Int) < 2)) && ((List.range (x.length - 1)).map fun k => ltS (sgn x k) (sgn x (k + 1))).all id
def isAlphaV (v : V) : Bool := match v with
  | .str t => isAlphaB t
  | _ => false
def spAlpha (K : PySem.W.Frag) : Sp := fun vs H Q _ => ∃ v : V, vs = [v] ∧ SV K H v ∧ RetV (.bl (isAlphaV v)) H Q
theorem spv_isWord {x al : Str} {m : Int} {H : Hp} (hx : x.length ≤ 1000) : SpV (spIsWord K) [.str x, .str al, .int m] H (.bl (isWordB x al m)) := fun H1 x1 Q q E => ⟨.str x, al, m, rfl, .str x hx, q⟩
end
section
variable {K : PySem.W.Frag} {σ : L2.St} {H : Hp} {te tl ta tb : TE}
theorem ev_lenDc7 {a : Addr} {i j : Nat} {vs : List Nat} {tk : TE} {ws : List Str} (hx : σ[i]? = some (some (.ref a))) (hs : SqL K H a (ws.map V.str) ∨ SqT K H a (ws.map V.str)) (hl : ws.length ≤ 40000)
    (hw : ∀ x : V, wipe ((wipe σ vs).set j (some x)) vs = wipe σ vs) (hk : ∀ (x : Str) (H2 : Hp), Ev tk ((wipe σ vs).set j (some (.str x))) H2 (.str x)) :
    Ev (tCB (fun xs H Q => ∃ (d : Addr) (kvs : List (Key × V)), xs = [V.ref d] ∧ H d = some (.dK kvs) ∧ Q (V.int (kvs.length : Int)) H) (tCons (tDc (iSeqV K i) (gName j) tYes tk (tC (.bl true)) vs) tNil)) σ H (.int ((uniq ws).length : Int)) := by
  intro H1 x1 Q q
  refine dc_str (H1 := H1) (Q := fun x H2 => ∃ (d : Addr) (kvs : List (Key × V)), [x] = [V.ref d] ∧ H2 d = some (.dK kvs) ∧ Q (V.int (kvs.length : Int)) H2) hx (hs.imp (ex_l x1) (ex_t x1)) hl hw hk fun D H2 hD x2 e => ⟨D, _, rfl, e, ?_⟩
  rw [keysD_uniq, List.length_map]
  exact q H2 x2
end
def isSgnV (v : V) (al : Str) : Bool := match v with
  | .str t => decide (t.length = 1) && inS t al
  | _ => false
def spIsSgn (K : PySem.W.Frag) : Sp := fun vs H Q _ => ∃ (v : V) (al : Str), vs = [v, .str al] ∧ SV K H v ∧ RetV (.bl (isSgnV v al)) H Q
def spUnl : Sp := fun vs H Q _ => ∃ (a : Addr) (ws : List Str), vs = [.ref a] ∧ H a = some (.lst (ws.map V.str)) ∧ ws.length ≤ 1000 ∧ RetV (.bl (decide ((uniq ws).length = ws.length))) H Q
theorem scIsSgn : FnScope ["value", "signs"] ["value", "signs"] (defScope sIsSgn) := ⟨rfl, rfl, rfl, by decide +kernel, rfl, by decide +kernel, by decide +kernel⟩
section
variable {K : PySem.W.Frag} {σ : L2.St} {H : Hp} {te tl : TE} {i j : Nat} {vs : List Nat}
/-- over a list of pairs -/
theorem el_pairs {a : Addr} {ts : List Addr} {kv : List (V × V)} (φ : V × V → V) (hx : Ev tl σ H (.ref a)) (hs : H a = some (.lst (ts.map V.ref))) (hp : Paired (fun (t : Addr) (q : V × V) => H t = some (.tup [q.1, q.2])) ts kv) (hl : ts.length ≤ 40000)
    (hw : ∀ x y : V, wipe (((wipe σ vs).set i (some x)).set j (some y)) vs = wipe σ vs)
    (he : ∀ q ∈ kv, ∀ H1, Ex H H1 → Ev te (((wipe σ vs).set i (some q.1)).set j (some q.2)) H1 (φ q)) : EvL (tLc (iList K tl) (gTup K 2 (gCons (gName i) (gCons (gName j) gNil))) tYes te vs) σ H (kv.map φ) := by
  have ll := Paired.length hp
  have eg : given ts.length (fun _ => true) (fun n => (kv[n]?.map φ).getD .non) = kv.map φ := by
    unfold given
    rw [ll]
    exact given_all kv _ φ fun n x h => by rw [h]; rfl
  rw [← eg]
  intro H1 x1 Q q
  refine hx H1 x1 _ fun H2 x2 => ⟨a, rfl, ⟨_, sq_of ((x1.trans x2) _ _ hs)⟩, fun D hD => ?_⟩
  have ls : (ts.map V.ref).length = ts.length := List.length_map _
  rw [← ls] at q
  refine lc_list (xs := ts.map V.ref) (Cw H2 (fun _ => true) (fun n => (kv[n]?.map φ).getD .non) D) ⟨hD, Ex.new hD, upd_same⟩ (fun n H' _ p => sq_of (p.2.1 _ _ ((x1.trans x2) _ _ hs))) (fun n x H' hn p => ?_) (fun H' p => q D H' (fresh_back x2 p.1) (x2.trans p.2.1) p.2.2)
  rw [List.getElem?_map] at hn
  obtain ⟨t, ht, rfl⟩ := Option.map_eq_some_iff.mp hn
  obtain ⟨qv, hq, hT⟩ := paired_get hp ht
  have nl : n < 50000 := by
    have := (List.getElem?_eq_some_iff.mp ht).1
    omega
  refine ⟨t, _, rfl, st_of (p.2.1 _ _ ((x1.trans x2) _ _ hT)), rfl, _, _, rfl, _, _, rfl, rfl, hw _ _, ?_⟩
  refine cw_turn p nl et_yes fun _ => ?_
  rw [hq]
  exact he qv (List.mem_of_getElem? hq) H2 (x1.trans x2)
end
section
variable {P : Program} {w : World} {K : PySem.W.Frag} {mg : Str → Option Value} {base : Heap}
theorem ok_isSgn {f : Addr} {fd : FuncData} (F : Fun K "is_sign" "is_sign" sIsSgn f fd) (T : Free mg) : FnOk P w K mg base CX0 1 f fd ["value", "signs"] (spIsSgn K) := by
  refine F.ok scIsSgn (fun vs H Q E h => ?_) (fun cdv A outer s H vs Q E hr h => ?_)
  · obtain ⟨_, _, rfl, _⟩ := h
    rfl
  · obtain ⟨v, al, rfl, o, k⟩ := h
    refine ⟨_, pss_one (ps_ret (pe_and (pe_callB call_isi (by rfl) T.isinstance (by decide +kernel) (pa_cons (pv 0) (pa_cons (pe_bltn (v := .ty "str") (by rfl) T.str (by decide +kernel) rfl) pa_nil)))
      (pe_and (pe_cmpR op_eq (pe_callB call_len_str (by rfl) T.len PySem.boot_len (pa_cons (pv 0) pa_nil)) pe_int (nomark _)) (pe_one (pe_cmpR op_inS (pv 0) (pv 1) (by rfl)))))), ?_⟩
    by_cases hs : isStrV v = true
    · obtain ⟨t, rfl, tl⟩ := str_of_SV o hs
      refine s_ret (v := .bl (isSgnV (.str t) al)) (ev_is (ev_andV (ev_isS (ev_var rfl) o) fun _ => ev_andV (a := decide (t.length = 1)) (ev_is (ev_op (ev_lenS (ev_var rfl) (by rw [sizeLine_eq]; omega)) ev_c (rv_eq rfl)) ?_) fun _ => ev_inS (ev_var rfl) (ev_var rfl)) rfl) fun H1 x1 => k H1 x1
      refine congrArg V.bl ?_
      rw [Bool.eq_iff_iff, decide_eq_true_eq, decide_eq_true_eq]
      exact ⟨fun z => by injection z with z; omega, fun z => by rw [z]; rfl⟩
    · have e : isSgnV v al = false := by
        cases v with
        | str t => exact absurd rfl hs
        | _ => rfl
      have hs' : isStrV v = false := by simpa using hs
      refine s_ret (v := .bl (isSgnV v al)) (ev_is (ev_andV (b := false) (ev_isS (ev_var rfl) o) fun z => by rw [hs'] at z; cases z) (by rw [hs', e]; rfl)) fun H1 x1 => k H1 x1
end
/-! ### tables -/
def kvG (ks : List (Str × V)) : List (Key × V) := ks.map fun p => (Sum.inr p.1, p.2)
def strOfV : V → Str
  | .str t => t
  | _ => ""
def valsG (ks : List (Str × V)) : List Str := ks.map fun p => strOfV p.2
def signsB (ks : List (Str × V)) (al : Str) : Bool := ks.all fun p => isSgnV (.str p.1) al && isSgnV p.2 al
def swapB (ks : List (Str × V)) (al : Str) : Bool := signsB ks al && decide ((uniq (valsG ks)).length = ks.length)
/-- what is asked for a table: none, or a dict of which keys are texts -/
inductive Tabl (K : PySem.W.Frag) (H : Hp) (al : Str) : V → Bool → Prop where
  | no {v : V} : (∀ H', Ex H H' → ∃ t, TyX K H' v t ∧ PySem.W.kitOne K t (.type "dict") = some false) → Tabl K H al v false
  | dic {p : Addr} {ks : List (Str × V)} : H p = some (.dK (kvG ks)) → ks.length ≤ 1000 → (∀ q ∈ ks, q.1.length ≤ 1000 ∧ SV K H q.2) → Tabl K H al (.ref p) (swapB ks al)
theorem Tabl.mono {K : PySem.W.Frag} {H H' : Hp} {al : Str} {v : V} {b : Bool} (x : Ex H H') (h : Tabl K H al v b) : Tabl K H' al v b := by
  cases h with
  | no hn => exact .no fun H2 y => hn H2 (x.trans y)
  | dic hp few each => exact .dic (x _ _ hp) few fun q hq => ⟨(each q hq).1, (each q hq).2.mono x⟩

end K02

set_option Elab.async false
set_option linter.all false
set_option maxRecDepth 100000
set_option maxHeartbeats 4000000
/-! is_word, for rows without is_alphabet -/
namespace K02
open PySem PySem.Spec PyProof.Rows L2 Evl KU
section
variable {P : Program} {w : World} {K : PySem.W.Frag} {mg : Str → Option Value} {base : Heap}
theorem ok_is_wordT {f fT : Addr} {fd fdT : FuncData} (F : Fun K "is_word" "is_word" sIsWord f fd) (T : Free mg) (GT : FnOk P w K mg base CX0 1 fT fdT ["value", "signs"] (spIsText K)) (bT : Binds K fdT ["value", "signs"] []) (gT : mg "is_text" = some (.ref fT)) (kT : PySem.W.keepIn K (.ref fT) = true) :
    FnOk P w K mg base CX0 2 f fd ["value", "signs", "most"] (spIsWord K) := by
  refine F.ok scIsWord (fun vs H Q E h => ?_) (fun cdv A outer s H vs Q E hr h => ?_)
  · obtain ⟨_, _, _, rfl, _⟩ := h
    rfl
  · obtain ⟨v, al, m, rfl, o, k⟩ := h
    refine ⟨_, pss_one (ps_ret (pe_and (pe_call GT hr (by rfl) gT kT bT .nil pass0 (pa_cons (pv 0) (pa_cons (pv 1) pa_nil)))
      (pe_one (pe_chain op_le op_le pe_int (pe_callB call_len_str (by rfl) T.len PySem.boot_len (pa_cons (pv 0) pa_nil)) (pv 2))))), ?_⟩
    refine ⟨_, rfl, _, rfl, v, al, rfl, o, fun H2 x2 => ⟨_, rfl, ?_⟩⟩
    have z := k H2 x2
    cases hb : isTxt v al with
    | false =>
      rw [if_neg (by decide)]
      have e : isWrdM v al m = false := by
        cases v with
        | str t =>
          have hb : isTextB t al = false := hb
          show isWordB t al m = false
          unfold isWordB
          rw [hb]
          rfl
        | _ => rfl
      rw [e] at z
      exact z
    | true =>
      rw [if_pos rfl]
      obtain ⟨t, rfl, hl⟩ : ∃ t, v = .str t ∧ t.length ≤ 1000 := str_of_SV o (by cases v with
        | str t => rfl
        | _ => cases hb)
      have hb : isTextB t al = true := hb
      have z : Q (.bl (isWordB t al m)) H2 := z
      unfold isWordB at z
      rw [hb, Bool.true_and] at z
      refine ⟨_, rfl, t, rfl, Nat.le_trans hl (by decide), _, _, rfl, rfl, _, rfl, ?_⟩
      cases h1 : decide ((1 : Int) ≤ (t.length : Int)) with
      | false =>
        rw [if_neg (by decide)]
        rw [h1] at z
        exact z
      | true =>
        rw [if_pos rfl]
        rw [h1, Bool.true_and] at z
        exact ⟨_, rfl, _, _, rfl, rfl, z⟩
end
end K02

set_option Elab.async false
set_option linter.all false
set_option maxRecDepth 100000
set_option maxHeartbeats 4000000
/-! text * number; list(text) -/
namespace KU
open PySem PySem.Spec PyProof.Rows L2 Evl
def repS (x : Str) (n : Int) : Str := if n < 1 then Str.empty else if (n == 1 || x.length == 0) = true then x else ⟨List.foldl (fun x1 x2 => x1 ++ x2) #[] (List.replicate n.toNat x.cps)⟩
theorem rep_size (a : Array Nat) (k : Nat) : ∀ b : Array Nat, (List.foldl (fun (x1 x2 : Array Nat) => x1 ++ x2) b (List.replicate k a)).size = b.size + k * a.size := by
  induction k with
  | zero => intro b; simp
  | succ k ih =>
    intro b
    rw [List.replicate_succ, List.foldl_cons, ih, Array.size_append, Nat.add_mul]
    omega
theorem vals_ix : ∀ (xs : List V) (us : List Value), xs.length = us.length → (∀ (j : Nat) (x : V) (u : Value), xs[j]? = some x → us[j]? = some u → RelV x u) → Vals xs us
  | [], [], _, _ => .nil
  | [], _ :: _, h, _ => by cases h
  | _ :: _, [], h, _ => by cases h
  | x :: xs, u :: us, h, r => .cons (r 0 x u rfl rfl) (vals_ix xs us (by simpa using h) fun j y v a b => r (j + 1) y v (by simpa using a) (by simpa using b))
def rRepS : R2 := fun x y H Q => ∃ (z : Str) (n : Int), x = .str z ∧ y = .int n ∧ z.length ≤ 1000 ∧ 0 ≤ n ∧ n ≤ 1000 ∧ Q (.str (repS z n)) H
theorem op_repS {X : Cx} : OpR X (binaryOp .Mult) rRepS := by
  intro pins s σ H x y u v Q I rx ry h
  obtain ⟨z, n, rfl, rfl, hz, n0, n1, q⟩ := h
  obtain ⟨t1, rfl⟩ := rx
  obtain ⟨t2, rfl⟩ := ry
  refine P.mul_str ?_ ?_ ?_ ?_
  · rw [Bool.or_eq_false_iff]
    exact ⟨decide_eq_false (by omega), decide_eq_false (by omega)⟩
  · intro a b c
    have n2 : 0 < n := by omega
    have m1 : (z.length : Int) * n ≤ 1000 * 1000 := Int.mul_le_mul (by omega) n1 (by omega) (by omega)
    have := Int.le_ediv_of_mul_le (b := 2 ^ 63 - 1) n2 (Int.le_trans m1 (by decide))
    omega
  · intro a b
    have m1 : z.length * n.toNat ≤ 1000 * 1000 := Nat.mul_le_mul hz (by omega)
    unfold Builtin.Str.tooLong
    refine decide_eq_false ?_
    rw [sizeLine_eq]
    omega
  · unfold repS at q
    split
    · rename_i h1
      rw [if_pos h1] at q
      exact ⟨Nat.zero_le _, .str Str.empty, H, I.tok _, ⟨_, rfl⟩, q⟩
    · rename_i h1
      rw [if_neg h1] at q
      split
      · rename_i h2
        rw [if_pos h2] at q
        exact ⟨.str z, H, I, ⟨_, rfl⟩, q⟩
      · rename_i h2
        rw [if_neg h2] at q
        refine ⟨?_, .str _, H, I.tok _, ⟨_, rfl⟩, q⟩
        show (List.foldl (fun (x1 x2 : Array Nat) => x1 ++ x2) #[] (List.replicate n.toNat z.cps)).size ≤ _
        rw [rep_size]
        have m1 : n.toNat * z.cps.size ≤ 1000 * 1000 := Nat.mul_le_mul (by omega) hz
        rw [sizeLine_eq]
        simp
        omega
def signsV (z : Str) : List V := z.cps.toList.map fun c => V.str ⟨#[c]⟩
def rListStr : List V → Hp → VK → Prop := fun xs H Q => ∃ z : Str, xs = [.str z] ∧ z.length ≤ 1000 ∧ ∀ p, H p = none → Q (.ref p) (upd H p (.lst (signsV z)))
theorem call_listS {X : Cx} (hc : X.calm = true) : CallR X (.type "list") rListStr := by
  intro pins s σ H xs us Q I r h
  obtain ⟨z, rfl, hz, q⟩ := h
  obtain ⟨u, rfl, r1⟩ := vals1 r
  obtain ⟨t, rfl⟩ := r1
  have hz2 : z.cps.size ≤ 1000 := hz
  refine call_list_str (I.ok.hd hc) z t (fun h' tk acc c kp hD it => ?_) (by rw [sizeLine_eq]; omega)
  refine ⟨.ref s.heap.objs.size, _, I.laid (h' := h') (a := s.heap.objs.size) (o := .lst (signsV z)) kp (Nat.le_refl _) ?_, rfl, q _ (I.hok.fresh (Nat.le_refl _))⟩
  refine ⟨?_, acc.toList, c, ?_, by rw [hD]⟩
  · unfold signsV
    rw [List.length_map, sizeLine_eq]
    simp
    omega
  · obtain ⟨sz, at_⟩ := it
    refine vals_ix _ _ ?_ fun j x u hx hu => ?_
    · unfold signsV
      rw [List.length_map]
      simp [sz]
    · obtain ⟨c2, t2, h1, rfl⟩ := at_ j u (by simpa using hu)
      unfold signsV at hx
      rw [List.getElem?_map] at hx
      have : z.cps.toList[j]? = some c2 := by simpa using h1
      rw [this] at hx
      cases hx
      exact ⟨_, rfl⟩
end KU

set_option Elab.async false
set_option linter.all false
set_option maxRecDepth 100000
set_option maxHeartbeats 4000000
/-! The reading of a draw, its numbers as letters -/
namespace KU
open PySem PySem.Spec PyProof.Rows L2 Evl
abbrev rAddI : R2 := rI0 fun i j => .int (i + j)
abbrev rSubI : R2 := rI0 fun i j => .int (i - j)
abbrev rMulI : R2 := rI CMul fun i j => .int (i * j)
abbrev rModI : R2 := rI (fun _ j => 0 < j) fun i j => .int (i % j)
abbrev rDivI : R2 := rI CDiv fun i j => .int (i / j)
abbrev rPowI : R2 := rI CPow fun i j => .int (i ^ j.toNat)
abbrev rLtI : R2 := rI0 fun i j => .bl (decide (i < j))
abbrev rGtI : R2 := rI0 fun i j => .bl (decide (j < i))
abbrev rGeI : R2 := rI0 fun i j => .bl (decide (j ≤ i))
abbrev tIntOf (t : TE) : TE := tCB rInt1 (tCons t tNil)
abbrev tAbsOf (t : TE) : TE := tCB rAbs (tCons t tNil)
abbrev tLenOf (K : PySem.W.Frag) (t : TE) : TE := tCB (rLenS K) (tCons t tNil)
abbrev cI (i : Int) : TE := tC (.int i)
/-- an item of the state -/
abbrev tPg (K : PySem.W.Frag) (j : Int) : TE := tOp (rIxL K) (tVar 0) (cI j)
def tGreat (K : PySem.W.Frag) : TS := tSeq (tAsg (tOp rAddI (tOp rMulI (cI 2) (tOp rSubI (tAbsOf (tVar 4)) (tOp rPowI (cI 10) (cI 18)))) (tIntOf (tOp rLtI (tVar 4) (cI 0)))) (gName 5))
  (tSeq (tAsg (tOp rDivI (tIntOf (tVar 5)) (tVar 1)) (gSub (tVar 0) (cI 2) rSetL)) (tRet (tOp rModI (tIntOf (tVar 5)) (tVar 1))))
def tMix (p1 a1 b1 p2 a2 b2 c2 d2 p3 : Int) : TS :=
  tSeq (tAsg (tOp rModI (tIntOf (tOp rPowI (tOp rAddI (tOp rAddI (tOp rModI (tIntOf (tVar 4)) (cI p1)) (tOp rMulI (cI a1) (tVar 3))) (cI b1)) (cI 5))) (cI p2)) (gName 6))
  (tSeq (tAsg (tOp rModI (tIntOf (tOp rPowI (tOp rAddI (tOp rAddI (tOp rMulI (tVar 6) (tOp rAddI (tOp rMulI (cI a2) (tVar 3)) (cI b2))) (tOp rMulI (tOp rMulI (cI c2) (tVar 3)) (tVar 3))) (cI d2)) (cI 3))) (cI p3)) (gName 6))
  (tRet (tOp rModI (tIntOf (tOp rDivI (tVar 6) (cI 32))) (tVar 1))))
def tDraw (K : PySem.W.Frag) (c1 c0 p1 a1 b1 p2 a2 b2 c2 d2 p3 : Int) : TS :=
  tSeq (tIfS (tTest (tOp rGtI (tPg K 2) (cI 0)))
    (tSeq (tAsg (tOp rModI (tIntOf (tPg K 2)) (tVar 1)) (gName 2)) (tSeq (tAsg (tOp rDivI (tIntOf (tPg K 2)) (tVar 1)) (gSub (tVar 0) (cI 2) rSetL)) (tRet (tVar 2)))) tNext)
  (tSeq (tAsg (tPg K 1) (gName 3))
  (tSeq (tAsg (tOp rAddI (tVar 3) (cI 1)) (gSub (tVar 0) (cI 1) rSetL))
  (tSeq (tAsg (tOp rAddI (tOp rMulI (cI c1) (tVar 3)) (cI c0)) (gName 4))
  (tSeq (tIfS (tTest (tOp (rNeD K) (tPg K 0) (tLst tNil))) (tAsg (tOp (rIxL K) (tPg K 0) (tOp rModI (tIntOf (tVar 3)) (tLenOf K (tPg K 0)))) (gName 4)) tNext)
  (tSeq (tIfS (tAnd (tTest (tOp rLtI (tVar 3) (tLenOf K (tPg K 0)))) (tTest (tOp rGeI (tAbsOf (tVar 4)) (tOp rPowI (cI 10) (cI 18))))) (tGreat K) tNext)
  (tMix p1 a1 b1 p2 a2 b2 c2 d2 p3))))))

section
variable {K : PySem.W.Frag} {σ : L2.St} {H : Hp} {te ta tb : TE}
theorem ev_int1 {i : Int} (h : Ev te σ H (.int i)) : Ev (tIntOf te) σ H (.int i) := ev_cb (ea_cons h ea_nil) (rc_int i)
theorem ev_bool1 {k : Bool} (h : Ev te σ H (.bl k)) : Ev (tIntOf te) σ H (.int (if k then 1 else 0)) := ev_cb (ea_cons h ea_nil) (rc_bool k)
theorem ev_abs1 {i : Int} (h : Ev te σ H (.int i)) : Ev (tAbsOf te) σ H (.int (if i < 0 then -i else i)) := ev_cb (ea_cons h ea_nil) (rc_abs i)
theorem ev_add {i j : Int} (a : Ev ta σ H (.int i)) (b : Ev tb σ H (.int j)) : Ev (tOp rAddI ta tb) σ H (.int (i + j)) := ev_op a b rv_I0
theorem ev_sub {i j : Int} (a : Ev ta σ H (.int i)) (b : Ev tb σ H (.int j)) : Ev (tOp rSubI ta tb) σ H (.int (i - j)) := ev_op a b rv_I0
theorem ev_mul {i j : Int} (c : CMul i j) (a : Ev ta σ H (.int i)) (b : Ev tb σ H (.int j)) : Ev (tOp rMulI ta tb) σ H (.int (i * j)) := ev_op a b (rv_I c)
theorem ev_mod {i j : Int} (c : 0 < j) (a : Ev ta σ H (.int i)) (b : Ev tb σ H (.int j)) : Ev (tOp rModI ta tb) σ H (.int (i % j)) := ev_op a b (rv_I (C := fun _ j => 0 < j) c)
theorem ev_div {i j : Int} (c : CDiv i j) (a : Ev ta σ H (.int i)) (b : Ev tb σ H (.int j)) : Ev (tOp rDivI ta tb) σ H (.int (i / j)) := ev_op a b (rv_I c)
theorem ev_pow {i j : Int} (c : CPow i j) (a : Ev ta σ H (.int i)) (b : Ev tb σ H (.int j)) : Ev (tOp rPowI ta tb) σ H (.int (i ^ j.toNat)) := ev_op a b (rv_I c)
theorem ev_pg {P L : Addr} {ns : List Int} {s : Nat} {g : Int} {j : Int} {v : V} (p : Pen H P L ns s g) (h0 : σ[0]? = some (some (.ref P))) (hv : atI ([.ref L, .int s, .int g] : List V) j = some v) : Ev (tPg K j) σ H v :=
  ev_op (ev_var h0) ev_c (rv_ixL (sq_of p.pen) hv)
theorem ev_lenC {P L : Addr} {ns : List Int} {s : Nat} {g : Int} (p : Pen H P L ns s g) (h0 : σ[0]? = some (some (.ref P))) : Ev (tLenOf K (tPg K 0)) σ H (.int (ns.length : Int)) := by
  have h := ev_len (K := K) (ev_pg (K := K) (σ := σ) (j := 0) p h0 rfl) (sq_of p.cells)
  have e : (vints ns).length = ns.length := by simp [vints]
  rw [e] at h
  exact h
end
theorem small_mul {a b : Int} (h0 : 0 ≤ a) (h1 : a < 18446744073709551616) : CMul a b := .inl ⟨by omega, by omega⟩
theorem mix_reads {p1 a1 b1 p2 a2 b2 c2 d2 p3 : Int} (hp1 : 0 < p1 ∧ p1 < 2147483648) (ha1 : 0 ≤ a1 ∧ a1 ≤ 10000000) (hb1 : 0 ≤ b1 ∧ b1 ≤ 1000000000) (hp2 : 0 < p2 ∧ p2 < 2147483648) (ha2 : 0 ≤ a2 ∧ a2 ≤ 10) (hb2 : 0 ≤ b2 ∧ b2 ≤ 1000000)
    (hc2 : 0 ≤ c2 ∧ c2 ≤ 10000000) (hd2 : 0 ≤ d2 ∧ d2 ≤ 1000000000) (hp3 : 0 < p3) {P : Addr} {m c : Int} {s : Nat} {x2 x5 x6 : Option V} {H : Hp} {Q : VK} (m0 : 0 < m) (s0 : s ≤ 100000)
    (k : ∀ (d : Nat) (H' : Hp), (d : Int) < m → Ex H H' → Q (.int d) H') :
    tMix p1 a1 b1 p2 a2 b2 c2 d2 p3 { nx := fun _ H' => Q .non H', rt := Q } [some (.ref P), some (.int m), x2, some (.int (s : Int)), some (.int c), x5, x6] H := by
  have e1 : 0 ≤ c % p1 := Int.emod_nonneg _ (by omega)
  have e2 : c % p1 < p1 := Int.emod_lt_of_pos _ hp1.1
  have e3 : 0 ≤ a1 * (s : Int) := Int.mul_nonneg ha1.1 (by omega)
  have e4 : a1 * (s : Int) ≤ 10000000 * 100000 := Int.mul_le_mul ha1.2 (by omega) (by omega) (by omega)
  have f0 : 0 ≤ (c % p1 + a1 * (s : Int) + b1) ^ 5 % p2 := Int.emod_nonneg _ (by omega)
  have f1 : (c % p1 + a1 * (s : Int) + b1) ^ 5 % p2 < p2 := Int.emod_lt_of_pos _ hp2.1
  refine q_asg (ev_mod hp2.1 (ev_int1 (ev_pow (i := c % p1 + a1 * (s : Int) + b1) (j := 5) ⟨by omega, by omega, by omega⟩ (ev_add (ev_add (ev_mod hp1.1 (ev_int1 (ev_var rfl)) ev_c) (ev_mul (small_mul ha1.1 (by omega)) ev_c (ev_var rfl))) ev_c) ev_c)) ev_c) fun H1 x1 => ?_
  have e5 : (5 : Int).toNat = 5 := rfl
  rw [e5]
  generalize hm : (c % p1 + a1 * (s : Int) + b1) ^ 5 % p2 = mx at f0 f1 ⊢
  have bd := bound_mix (m := mx) (s := (s : Int)) f0 (by omega) (by omega) (by omega) ha2.1 ha2.2 hb2.1 hb2.2 hc2.1 hc2.2 hd2.1 hd2.2
  have e6 : 0 ≤ c2 * (s : Int) := Int.mul_nonneg hc2.1 (by omega)
  have e7 : c2 * (s : Int) ≤ 10000000 * 100000 := Int.mul_le_mul hc2.2 (by omega) (by omega) (by omega)
  have g0 : 0 ≤ (mx * (a2 * (s : Int) + b2) + c2 * (s : Int) * (s : Int) + d2) ^ 3 % p3 := Int.emod_nonneg _ (by omega)
  refine q_asg (ev_mod hp3 (ev_int1 (ev_pow (i := mx * (a2 * (s : Int) + b2) + c2 * (s : Int) * (s : Int) + d2) (j := 3) ⟨by omega, by omega, by omega⟩
    (ev_add (ev_add (ev_mul (small_mul f0 (by omega)) (ev_var rfl) (ev_add (ev_mul (small_mul ha2.1 (by omega)) ev_c (ev_var rfl)) ev_c)) (ev_mul (small_mul e6 (by omega)) (ev_mul (small_mul hc2.1 (by omega)) ev_c (ev_var rfl)) (ev_var rfl))) ev_c) ev_c)) ev_c) fun H2 x2 => ?_
  have e8 : (3 : Int).toNat = 3 := rfl
  rw [e8]
  generalize hn : (mx * (a2 * (s : Int) + b2) + c2 * (s : Int) * (s : Int) + d2) ^ 3 % p3 = my at g0 ⊢
  refine s_ret (ev_mod m0 (ev_int1 (ev_div (i := my) (j := 32) ⟨by decide, by decide⟩ (ev_var rfl) ev_c)) (ev_var rfl)) fun H3 x3 => ?_
  have h0 : 0 ≤ my / 32 % m := Int.emod_nonneg _ (by omega)
  have h1 : my / 32 % m < m := Int.emod_lt_of_pos _ m0
  have h2 : ((my / 32 % m).toNat : Int) = my / 32 % m := Int.toNat_of_nonneg h0
  have z := k (my / 32 % m).toNat H3 (by omega) ((x1.trans x2).trans x3)
  rw [h2] at z
  exact z
theorem draw_reads {K : PySem.W.Frag} {c1 c0 p1 a1 b1 p2 a2 b2 c2 d2 p3 : Int} (hc1 : 0 ≤ c1 ∧ c1 ≤ 10000000) (hp1 : 0 < p1 ∧ p1 < 2147483648) (ha1 : 0 ≤ a1 ∧ a1 ≤ 10000000) (hb1 : 0 ≤ b1 ∧ b1 ≤ 1000000000) (hp2 : 0 < p2 ∧ p2 < 2147483648)
    (ha2 : 0 ≤ a2 ∧ a2 ≤ 10) (hb2 : 0 ≤ b2 ∧ b2 ≤ 1000000) (hc2 : 0 ≤ c2 ∧ c2 ≤ 10000000) (hd2 : 0 ≤ d2 ∧ d2 ≤ 1000000000) (hp3 : 0 < p3) {P L : Addr} {ns : List Int} {s : Nat} {g m : Int} {H : Hp} {Q : VK}
    (m0 : 0 < m) (m1 : m < 1000000000) (pen : Pen H P L ns s g) (s0 : s ≤ 100000)
    (k : ∀ (d : Nat) (s' : Nat) (g' : Int) (H' : Hp), (d : Int) < m → s' ≤ s + 1 → But P H H' → Pen H' P L ns s' g' → Q (.int d) H') :
    tDraw K c1 c0 p1 a1 b1 p2 a2 b2 c2 d2 p3 { nx := fun _ H' => Q .non H', rt := Q } [some (.ref P), some (.int m), none, none, none, none, none] H := by
  -- what the state is behind a store
  have stored : ∀ {H1 : Hp} {s' : Nat} {g' : Int}, Ex H H1 → 0 ≤ g' → Pen (upd H1 P (.lst [.ref L, .int s', .int g'])) P L ns s' g' := fun {H1 s' g'} x h =>
    ⟨upd_same, by rw [upd_ne pen.ne]; exact x _ _ pen.cells, pen.ne, pen.few, h⟩
  have hdv : CDiv 0 m := ⟨m0, by omega⟩
  refine q_when (b := decide (0 < g)) (et_test (ev_op (ev_pg pen rfl rfl) ev_c rv_I0)) (fun hb H1 x1 => ?_) (fun _ H1 x1 => ?_)
  · -- a digit of a great cell
    have pen1 := pen.mono x1
    have h0 : 0 ≤ g % m := Int.emod_nonneg _ (by omega)
    have h1 : g % m < m := Int.emod_lt_of_pos _ m0
    have h2 : ((g % m).toNat : Int) = g % m := Int.toNat_of_nonneg h0
    refine q_asg (ev_mod m0 (ev_int1 (ev_pg pen1 rfl rfl)) (ev_var rfl)) fun H2 x2 => ?_
    have pen2 := pen1.mono x2
    refine q_setL (j := 2) pen2.pen (ev_div ⟨m0, by omega⟩ (ev_int1 (ev_pg pen2 rfl rfl)) (ev_var rfl)) (ev_var rfl) ev_c (by show 2 < 3; decide) fun H3 x3 => ?_
    refine s_ret (ev_var rfl) fun H4 x4 => ?_
    have x03 := (x1.trans x2).trans x3
    have z := k (g % m).toNat s (g / m) H4 (by omega) (Nat.le_succ _) ((But.put (But.of_ex x03)).trans (But.of_ex x4)) ((stored x03 (Int.ediv_nonneg pen.left (by omega))).mono x4)
    rw [h2] at z
    exact z
  · have pen1 := pen.mono x1
    refine q_asg (ev_pg pen1 rfl rfl) fun H2 x2 => ?_
    have pen2 := pen1.mono x2
    refine q_setL (j := 1) pen2.pen (ev_add (ev_var rfl) ev_c) (ev_var rfl) ev_c (by show 1 < 3; decide) fun H3 x3 => ?_
    have x03 := (x1.trans x2).trans x3
    have pen4 : Pen (upd H3 P (.lst [.ref L, .int ((s + 1 : Nat) : Int), .int g])) P L ns (s + 1) g := stored x03 pen.left
    have but4 : But P H (upd H3 P (.lst [.ref L, .int ((s + 1 : Nat) : Int), .int g])) := But.put (But.of_ex x03)
    show tSeq _ _ _ _ (upd H3 P (.lst [.ref L, .int ((s + 1 : Nat) : Int), .int g]))
    generalize hH : upd H3 P (HO.lst [V.ref L, V.int ((s + 1 : Nat) : Int), V.int g]) = H4 at pen4 but4 ⊢
    refine q_asg (ev_add (ev_mul (small_mul hc1.1 (by omega)) ev_c (ev_var rfl)) ev_c) fun H5 x5 => ?_
    have pen5 := pen4.mono x5
    -- the cell, if there is one
    have tail : ∀ (c : Int) (H6 : Hp), Ex H4 H6 → tSeq (tIfS (tAnd (tTest (tOp rLtI (tVar 3) (tLenOf K (tPg K 0)))) (tTest (tOp rGeI (tAbsOf (tVar 4)) (tOp rPowI (cI 10) (cI 18))))) (tGreat K) tNext) (tMix p1 a1 b1 p2 a2 b2 c2 d2 p3)
        { nx := fun _ H' => Q .non H', rt := Q } [some (.ref P), some (.int m), none, some (.int (s : Int)), some (.int c), none, none] H6 := by
      intro c H6 x6
      have pen6 := pen4.mono x6
      refine q_when (et_and (et_test (ev_op (ev_var rfl) (ev_lenC pen6 rfl) rv_I0)) fun _ => et_test (ev_op (ev_abs1 (ev_var rfl)) (ev_pow (i := 10) (j := 18) ⟨by decide, by decide, by decide⟩ ev_c ev_c) rv_I0)) (fun hb H7 x7 => ?_) (fun _ H7 x7 => ?_)
      · have hb2 : (10 : Int) ^ (18 : Int).toNat ≤ (if c < 0 then -c else c) := by
          have := (Bool.and_eq_true_iff.mp hb).2
          exact of_decide_eq_true this
        have pen7 := pen6.mono x7
        refine q_asg (ev_add (ev_mul (small_mul (by decide) (by decide)) ev_c (ev_sub (ev_abs1 (ev_var rfl)) (ev_pow (i := 10) (j := 18) ⟨by decide, by decide, by decide⟩ ev_c ev_c))) (ev_bool1 (ev_op (ev_var rfl) ev_c rv_I0))) fun H8 x8 => ?_
        have ge : 0 ≤ 2 * ((if c < 0 then -c else c) - (10 : Int) ^ (18 : Int).toNat) + (if decide (c < 0) = true then 1 else 0) := by
          have : (0 : Int) ≤ if decide (c < 0) = true then 1 else 0 := by split <;> decide
          omega
        generalize 2 * ((if c < 0 then -c else c) - (10 : Int) ^ (18 : Int).toNat) + (if decide (c < 0) = true then 1 else 0) = gr at ge ⊢
        have pen8 := pen7.mono x8
        refine q_setL (j := 2) pen8.pen (ev_div ⟨m0, by omega⟩ (ev_int1 (ev_var rfl)) (ev_var rfl)) (ev_var rfl) ev_c (by show 2 < 3; decide) fun H9 x9 => ?_
        refine s_ret (ev_mod m0 (ev_int1 (ev_var rfl)) (ev_var rfl)) fun H10 x10 => ?_
        have h0 : 0 ≤ gr % m := Int.emod_nonneg _ (by omega)
        have h1 : gr % m < m := Int.emod_lt_of_pos _ m0
        have h2 : ((gr % m).toNat : Int) = gr % m := Int.toNat_of_nonneg h0
        have x49 := ((x6.trans x7).trans x8).trans x9
        have pen9 : Pen (upd H9 P (.lst [.ref L, .int ((s + 1 : Nat) : Int), .int (gr / m)])) P L ns (s + 1) (gr / m) :=
          ⟨upd_same, by rw [upd_ne pen.ne]; exact x49 _ _ pen4.cells, pen.ne, pen.few, Int.ediv_nonneg ge (by omega)⟩
        have z := k (gr % m).toNat (s + 1) (gr / m) H10 (by omega) (Nat.le_refl _) ((but4.trans (But.put (But.of_ex x49))).trans (But.of_ex x10)) (pen9.mono x10)
        rw [h2] at z
        exact z
      · exact mix_reads hp1 ha1 hb1 hp2 ha2 hb2 hc2 hd2 hp3 m0 s0 fun d H8 hd x8 => k d (s + 1) g H8 hd (Nat.le_refl _) (but4.trans (But.of_ex ((x6.trans x7).trans x8))) (pen4.mono ((x6.trans x7).trans x8))
    refine q_when (b := !PyData.eqv (.list (dints ns)) (.list [])) (et_test (ev_opL (ev_pg pen5 rfl rfl) (el_lst ea_nil (Nat.zero_le _)) fun p H6 hp x6 =>
      rv_neD (fun H7 x7 => .lst (sq_of ((x6.trans x7) _ _ pen5.cells)) (dp_ints ns)) (fun H7 x7 => .lst (sq_of (x7 _ _ hp)) .nil) (shaped_ints ns) (shaped_ints []))) (fun hb H6 x6 => ?_) (fun _ H6 x6 => tail _ H6 (x5.trans x6))
    have hn : 0 < ns.length := by
      rw [eqv_empty] at hb
      cases ns with
      | nil => exact absurd hb (by decide)
      | cons a r => exact Nat.succ_pos _
    have pen6 := pen5.mono x6
    have hlt : s % ns.length < ns.length := Nat.mod_lt _ hn
    refine s_asg (ev_op (ev_pg pen6 rfl rfl) (ev_mod (by omega) (ev_int1 (ev_var rfl)) (ev_lenC pen6 rfl)) (rv_ixL (v := .int (ns[s % ns.length]'hlt)) (sq_of pen6.cells) ?_)) fun H7 x7 => tail _ H7 ((x5.trans x6).trans x7)
    have e : ((s : Int) % (ns.length : Int)) = ((s % ns.length : Nat) : Int) := by simp
    rw [e]
    refine atI_nat ?_
    simp [vints, List.getElem?_map, List.getElem?_eq_getElem hlt]
theorem cut_ints (ns : List Int) (lo hi : Option Int) : ∃ ms : List Int, cutV (vints ns) lo hi = vints ms ∧ ms.length ≤ ns.length := by
  refine ⟨(ns.drop (HT.sIx (vints ns).length 0 lo)).take (HT.sIx (vints ns).length (vints ns).length hi - HT.sIx (vints ns).length 0 lo), ?_, ?_⟩
  · unfold cutV vints
    rw [List.map_take, List.map_drop]
  · rw [List.length_take, List.length_drop]
    omega
/-- [list(script[:n]), 0, 0] -/
def tPen (K : PySem.W.Frag) (n : Int) : TS := tRet (tLst (tCons (tCB (rListS K) (tCons (tSl (rSlL K) (tVar 0) tNoPart (tPart (cI n))) tNil)) (tCons (cI 0) (tCons (cI 0) tNil))))
theorem pen_reads {K : PySem.W.Frag} {n : Int} {a : Addr} {ns : List Int} {H : Hp} {Q : VK} (hS : SqL K H a (vints ns)) (hl : ns.length ≤ 63)
    (k : ∀ (P L : Addr) (ms : List Int) (H' : Hp), H P = none → Ex H H' → Pen H' P L ms 0 0 → Q (.ref P) H') : tPen K n { nx := fun _ H' => Q .non H', rt := Q } [some (.ref a)] H := by
  obtain ⟨ms, hm, hlen⟩ := cut_ints ns none (some n)
  refine ⟨_, rfl, n, rfl, a, vints ns, rfl, hS, fun p hp => ?_⟩
  rw [hm]
  refine ⟨p, vints ms, rfl, .inl (sq_of upd_same), fun l hl' => ⟨by show 3 ≤ sizeLine; decide, fun P hP => ?_⟩⟩
  have e1 : Ex H (upd H p (.lst (vints ms))) := Ex.new hp
  have e2 : Ex (upd H p (.lst (vints ms))) (upd (upd H p (.lst (vints ms))) l (.lst (vints ms))) := Ex.new hl'
  have ne : l ≠ P := ne_of_none upd_same hP
  exact k P l ms _ (fresh_back (e1.trans e2) hP) ((e1.trans e2).trans (Ex.new hP)) ⟨upd_same, by rw [upd_ne ne]; exact upd_same, ne, by omega, Int.le_refl _⟩
/-- some[draw(pen, len(some))] -/
def tPick (K : PySem.W.Frag) : TS := tRet (tOp (rIxL K) (tVar 1) (tCall spDraw [] E0 (tCons (tVar 0) (tCons (tLenOf K (tVar 1)) tNil))))
theorem pick_reads {K : PySem.W.Frag} {P L l : Addr} {ns : List Int} {xs : List V} {s : Nat} {g : Int} {H : Hp} {Q : VK} (x0 : xs ≠ []) (xl : xs.length ≤ 1000) (hl : H l = some (.lst xs)) (ne : l ≠ P) (pen : Pen H P L ns s g) (s0 : s ≤ 100000)
    (k : ∀ (v : V) (s' : Nat) (g' : Int) (H' : Hp), v ∈ xs → s' ≤ s + 1 → But P H H' → Pen H' P L ns s' g' → Q v H') :
    tPick K { nx := fun _ H' => Q .non H', rt := Q } [some (.ref P), some (.ref l)] H := by
  have pos : 0 < xs.length := List.length_pos_iff.mpr x0
  refine ⟨_, rfl, _, rfl, _, rfl, _, xs, rfl, .inl (sq_of hl), P, L, ns, s, g, (xs.length : Int), rfl, by omega, by omega, pen, s0, fun d s' g' H' hd hs but pen' => ?_⟩
  have hd' : d < xs.length := by omega
  exact ⟨l, xs, d, xs[d], rfl, rfl, sq_of (but _ _ ne hl), atI_nat (List.getElem?_eq_getElem hd'), k _ s' g' H' (List.getElem_mem hd') hs but pen'⟩
end KU

set_option Elab.async false
set_option linter.all false
set_option maxRecDepth 100000
set_option maxHeartbeats 4000000
/-! texts' maths, walks over signs, tables; is_swap, exchanged -/
namespace K02
open PySem PySem.Spec PyProof.Rows L2 Evl KU
/-! ### maths of texts -/
def signsL (al : Str) : List Str := al.cps.toList.map fun c => ⟨#[c]⟩
def Over (al t : Str) : Prop := ∀ c ∈ t.cps.toList, c ∈ al.cps.toList
def IsSL (ws : List Str) : V → Hp → Prop := fun v H => ∃ p, v = .ref p ∧ H p = some (.lst (ws.map V.str))
theorem up_isSL (ws : List Str) : Up (IsSL ws) := fun v H H' x ⟨p, e, h⟩ => ⟨p, e, x _ _ h⟩
abbrev rJoin (K : PySem.W.Frag) : V → List V → Hp → VK → Prop := fun x xs H Q => ∃ a p, ∃ ys : List Str, x = .str a ∧ xs = [.ref p] ∧ (SqL K H p (ys.map V.str) ∨ SqT K H p (ys.map V.str)) ∧ (ys.map (·.length)).sum + ys.length * a.length ≤ 16777216 ∧ Q (.str (Txt.join a ys)) H
theorem len_cps (w : Str) : w.cps.toList.length = w.length := by
  rw [Array.length_toList]
  rfl

theorem str_eq {a b : Str} (h : a.cps.toList = b.cps.toList) : a = b := by
  cases a
  cases b
  exact congrArg Str.mk (Array.toList_inj.mp h)

def strOf (l : List Nat) : Str := ⟨l.toArray⟩
theorem strOf_cps (l : List Nat) : (strOf l).cps.toList = l := rfl

theorem cat_cps (a b : Str) : (a ++ b).cps.toList = a.cps.toList ++ b.cps.toList := by
  show (a.cps ++ b.cps).toList = _
  rw [Array.toList_append]

theorem pre_iff : ∀ a b : List Nat, TL.pre a b = true ↔ a <+: b
  | [], b => by simp [TL.pre]
  | _ :: _, [] => by simp [TL.pre]
  | x :: r, y :: t => by
    have ih := pre_iff r t
    rw [List.cons_prefix_cons, ← ih]
    simp [TL.pre]
    intro _
    exact eq_comm
theorem sum_bound (f : Str → Nat) (b : Nat) : ∀ l : List Str, (∀ t ∈ l, f t ≤ b) → (l.map f).sum ≤ b * l.length
  | [], _ => Nat.zero_le _
  | a :: r, h => by
    have z := sum_bound f b r fun t ht => h t (List.mem_cons_of_mem _ ht)
    have y := h a List.mem_cons_self
    rw [List.map_cons, List.sum_cons, List.length_cons, Nat.mul_add]
    omega
theorem inS_iff {w t : Str} (hw : w.cps.toList ≠ []) : inS w t = true ↔ w.cps.toList <:+: t.cps.toList := by
  have h := StrLaws.occ_head t w 1 (Nat.le_refl _)
  have ai := TL.at_iff (x := t) (y := w) hw
  unfold inS
  constructor
  · intro z
    rcases h with ⟨e, _⟩ | ⟨i, r, e, at_, _⟩
    · rw [e] at z
      cases z
    · have p := (pre_iff _ _).mp ((ai i).mp at_)
      exact p.isInfix.trans (List.drop_suffix i _).isInfix
  · intro z
    rcases h with ⟨e, no⟩ | ⟨i, r, e, at_, _⟩
    · obtain ⟨p, q, e2⟩ := z
      refine absurd ((ai p.length).mpr ((pre_iff _ _).mpr ?_)) (no p.length)
      show w.cps.toList <+: List.drop p.length t.cps.toList
      rw [← e2, List.append_assoc, List.drop_left]
      exact List.prefix_append _ _
    · rw [e]
      rfl
/-- a text that is not empty -/
def Full (w : Str) : Prop := w.cps.toList ≠ []

section
variable {K : PySem.W.Frag} {σ : L2.St} {H : Hp} {te tl ta tb tc : TE} {ws us : List Str} {j : Nat} {vs : List Nat}

theorem walk_signsG {z : Str} : Walk (Its z) ((signsL z).map V.str).length (fun _ => True) (YAt ((signsL z).map V.str)) := by
  have l : ((signsL z).map V.str).length = z.cps.size := by
    rw [List.length_map, signsL, List.length_map]
    rfl
  rw [l]
  refine walk_str.mono (fun _ h => h) fun i H3 x H4 hi h y => ⟨y.1, ?_⟩
  obtain ⟨_, c, e, rfl⟩ := y
  unfold signsL
  rw [List.map_map, List.getElem?_map, Array.getElem?_toList, e]
  rfl
/-- the signs of a text, some of them -/
theorem el_signsF {z : Str} {tt : TT} (p : Str → Bool) (hx : Ev tl σ H (.str z)) (hl : z.length ≤ 40000) (hw : ∀ x : V, wipe ((wipe σ vs).set j (some x)) vs = wipe σ vs)
    (ht : ∀ (c : Str) (H1 : Hp), Ex H H1 → c ∈ signsL z → EvT tt ((wipe σ vs).set j (some (.str c))) H1 (p c))
    (he : ∀ (c : Str) (H1 : Hp), Ex H H1 → c ∈ signsL z → Ev te ((wipe σ vs).set j (some (.str c))) H1 (.str c)) : EvL (tLc (iStr tl) (gName j) tt te vs) σ H (((signsL z).filter p).map V.str) := by
  have e := given_fm ((signsL z).map V.str) (onSB p) (onS V.str)
  rw [fm_str] at e
  rw [← e]
  intro H1 x1 Q q
  refine hx H1 x1 _ fun H2 x2 => ⟨z, rfl, fun D hD => ?_⟩
  have ll : ((signsL z).map V.str).length = z.length := by
    rw [List.length_map, signsL, List.length_map]
    rfl
  refine lc_cw walk_signsG (fun _ _ => trivial) (by rw [ll]; exact hl) _ _ hw (fun i x H3 x3 e => ?_) (fun i x H3 x3 e _ => ?_) (x1.trans x2) hD fun p H3 hp x3 e => q p H3 (fresh_back x2 hp) (x2.trans x3) e
  · rw [e]
    obtain ⟨c, mc, rfl⟩ := List.mem_map.mp (List.mem_of_getElem? e)
    exact ht c H3 x3 mc
  · rw [e]
    obtain ⟨c, mc, rfl⟩ := List.mem_map.mp (List.mem_of_getElem? e)
    exact he c H3 x3 mc

theorem ev_join {s : Str} (h : EvP te σ H (IsSL ws)) (small : (ws.map (·.length)).sum + ws.length * s.length ≤ 16777216) : Ev (tM1 (rJoin K) (tC (.str s)) te) σ H (.str (Txt.join s ws)) := fun H1 x1 Q q =>
  ⟨⟨s, rfl⟩, h H1 x1 _ fun v H2 x2 ⟨p, e, hp⟩ => by
    subst e
    exact ⟨s, p, ws, rfl, rfl, .inl (sq_of hp), small, q H2 x2⟩⟩

theorem es_lst {ta : TA} (h : EvA ta σ H (ws.map V.str)) (few : ws.length ≤ 100000) : EvP (tLst ta) σ H (IsSL ws) := fun H1 x1 Q q => el_lst h (by rw [List.length_map]; exact few) H1 x1 Q fun p H2 hp x2 e => q _ H2 x2 ⟨p, rfl, e⟩
theorem es_var {i : Nat} {p : Addr} (e : σ[i]? = some (some (.ref p))) (h : H p = some (.lst (ws.map V.str))) : EvP (tVar i) σ H (IsSL ws) := fun H1 x1 Q q => ⟨_, e, q _ H1 (Ex.refl _) ⟨p, rfl, x1 _ _ h⟩⟩
theorem es_cat (ha : EvP ta σ H (IsSL ws)) (hb : EvP tb σ H (IsSL us)) (few : ws.length + us.length ≤ 100000) : EvP (tOp rCat ta tb) σ H (IsSL (ws ++ us)) := fun H1 x1 Q q =>
  ha H1 x1 _ fun v H2 x2 a => hb H2 (x1.trans x2) _ fun w H3 x3 ⟨m, ew, hm⟩ => by
    obtain ⟨l, ev, hl⟩ := up_isSL ws v _ _ x3 a
    subst ev ew
    exact ⟨l, m, _, _, rfl, rfl, hl, hm, by rw [List.length_map, List.length_map]; exact sz_of few, fun p hp => q _ _ ((x2.trans x3).trans (Ex.new hp)) ⟨p, rfl, by rw [upd_same, List.map_append]⟩⟩

end

abbrev nSwap : List Str := ["table", "signs", "pairs", "key", "value", "_"]
def spSwap (K : PySem.W.Frag) : Sp := fun vs H Q _ => ∃ (v : V) (al : Str) (b : Bool), vs = [v, .str al] ∧ Tabl K H al v b ∧ RetV (.bl b) H Q

theorem paired_map {α β γ : Type} {F : α → γ → Prop} {g : β → γ} : ∀ {xs : List α} {ys : List β}, Paired (fun a b => F a (g b)) xs ys → Paired F xs (ys.map g)
  | _, _, .nil => .nil
  | _, _, .cons h t => .cons h (paired_map t)
theorem paired_imp {α β : Type} {F G : α → β → Prop} : ∀ {xs : List α} {ys : List β}, Paired F xs ys → (∀ a b, F a b → G a b) → Paired G xs ys
  | _, _, .nil, _ => .nil
  | _, _, .cons h t, i => .cons (i _ _ h) (paired_imp t i)
theorem ev_allB {K : PySem.W.Frag} {σ : L2.St} {H : Hp} {tl : TE} {α : Type} {ks : List α} {p : α → Bool} (h : EvL tl σ H (ks.map fun q => V.bl (p q))) : Ev (tCB (rAll K) (tCons tl tNil)) σ H (.bl (ks.all p)) := by
  have z := ev_allN (K := K) (bs := ks.map p) (by rw [List.map_map]; exact h)
  rw [List.all_map] at z
  exact z
section
variable {P : Program} {w : World} {K : PySem.W.Frag} {mg : Str → Option Value} {base : Heap}
end

def xS (f : Nat → Nat) (t : Str) : Str := ⟨(t.cps.toList.map f).toArray⟩
theorem x_cps (f : Nat → Nat) (t : Str) : (xS f t).cps.toList = t.cps.toList.map f := rfl
theorem x_len (f : Nat → Nat) (t : Str) : (xS f t).length = t.length := by rw [← len_cps, x_cps, List.length_map, len_cps]

/-- an exchange, as a table tells it -/
def kvC (ps : List (Nat × Nat)) : List (Str × V) := ps.map fun p => (⟨#[p.1]⟩, V.str ⟨#[p.2]⟩)
def fch (ps : List (Nat × Nat)) (c : Nat) : Nat := ((ps.find? fun p => p.1 == c).map (·.2)).getD 0
theorem val_ch {ps : List (Nat × Nat)} {c : Nat} (h : c ∈ ps.map (·.1)) : valV (kvG (kvC ps)) (Sum.inr ⟨#[c]⟩) = some (V.str ⟨#[fch ps c]⟩) := by
  unfold kvG kvC
  rw [List.map_map]
  induction ps with
  | nil => cases h
  | cons p r ih =>
    rw [List.map_cons]
    by_cases e : p.1 = c
    · rw [valV_pos (by show (Sum.inr ⟨#[p.1]⟩ : Key) = _; rw [e])]
      unfold fch
      rw [List.find?_cons, e]
      simp
    · rw [valV_neg (by
        intro z
        have z' : (⟨#[p.1]⟩ : Str) = ⟨#[c]⟩ := Sum.inr.inj z
        have := congrArg (fun t : Str => t.cps.toList) z'
        simp at this
        exact e this)]
      have hr : c ∈ r.map (·.1) := by
        rcases List.mem_cons.mp h with z | z
        · exact absurd z.symm e
        · exact z
      rw [ih hr]
      unfold fch
      rw [List.find?_cons]
      have : (p.1 == c) = false := by simpa using e
      rw [this]
def spExd : Sp := fun vs H Q _ => ∃ (t : Str) (p : Addr) (ps : List (Nat × Nat)), vs = [.str t, .ref p] ∧ H p = some (.dK (kvG (kvC ps))) ∧ t.length ≤ 1000 ∧ (∀ c ∈ t.cps.toList, c ∈ ps.map (·.1)) ∧ RetV (.str (xS (fch ps) t)) H Q
theorem join_one (l : List Nat) : Txt.join "" (l.map fun c => (⟨#[c]⟩ : Str)) = ⟨l.toArray⟩ := by
  refine SJ.s_ext ?_
  show (List.foldl (fun (acc : Array Nat) (p : Str) => acc ++ (#[] : Array Nat) ++ p.cps) ((l.map fun c => (⟨#[c]⟩ : Str)).headD Str.empty).cps (List.drop 1 (l.map fun c => (⟨#[c]⟩ : Str)))).toList = l
  rw [SJ.fold_cps]
  cases l with
  | nil => rfl
  | cons c r =>
    rw [List.map_cons, List.headD_cons, List.drop_succ_cons, List.drop_zero]
    have : ∀ r : List Nat, ((r.map fun c => (⟨#[c]⟩ : Str)).flatMap fun p => (#[] : Array Nat).toList ++ p.cps.toList) = r := fun r => by
      induction r with
      | nil => rfl
      | cons d s ih =>
        rw [List.map_cons, List.flatMap_cons, ih]
        rfl
    rw [this]
    rfl
section
variable {K : PySem.W.Frag} {σ : L2.St} {H : Hp} {te tl : TE} {j : Nat} {vs : List Nat}
theorem el_signsM {z : Str} (φ : Str → V) (hx : Ev tl σ H (.str z)) (hl : z.length ≤ 40000) (hw : ∀ x : V, wipe ((wipe σ vs).set j (some x)) vs = wipe σ vs)
    (he : ∀ (c : Str) (H1 : Hp), Ex H H1 → c ∈ signsL z → Ev te ((wipe σ vs).set j (some (.str c))) H1 (φ c)) : EvL (tLc (iStr tl) (gName j) tYes te vs) σ H ((signsL z).map φ) := by
  have e := given_fm ((signsL z).map V.str) (fun _ => true) (onS φ)
  rw [all_str, List.map_map] at e
  have e2 : List.map (onS φ ∘ V.str) (signsL z) = (signsL z).map φ := rfl
  rw [e2] at e
  have e3 : given ((signsL z).map V.str).length (fun i => orNo (fun _ => true) ((signsL z).map V.str)[i]?) (fun i => orNon (onS φ) ((signsL z).map V.str)[i]?) = given ((signsL z).map V.str).length (fun _ => true) (fun i => orNon (onS φ) ((signsL z).map V.str)[i]?) := by
    unfold given
    refine congrArg (List.map _) (List.filter_congr fun i hi => ?_)
    rw [List.getElem?_eq_getElem (List.mem_range.mp hi)]
    rfl
  rw [← e, e3]
  intro H1 x1 Q q
  refine hx H1 x1 _ fun H2 x2 => ⟨z, rfl, fun D hD => ?_⟩
  have ll : ((signsL z).map V.str).length = z.length := by
    rw [List.length_map, signsL, List.length_map]
    rfl
  refine lc_cw walk_signsG (fun _ _ => trivial) (by rw [ll]; exact hl) _ _ hw (fun i x H3 x3 _ => et_yes) (fun i x H3 x3 e _ => ?_) (x1.trans x2) hD fun p H3 hp x3 e => q p H3 (fresh_back x2 hp) (x2.trans x3) e
  rw [e]
  obtain ⟨c, mc, rfl⟩ := List.mem_map.mp (List.mem_of_getElem? e)
  exact he c H3 x3 mc
theorem ev_joinL {s : Str} {ws : List Str} (h : EvL te σ H (ws.map V.str)) (small : (ws.map (·.length)).sum + ws.length * s.length ≤ 16777216) : Ev (tM1 (rJoin K) (tC (.str s)) te) σ H (.str (Txt.join s ws)) :=
  ev_join (fun H1 x1 Q q => h H1 x1 Q fun p H2 hp x2 e => q _ H2 x2 ⟨p, rfl, e⟩) small
theorem ev_dget {p : Addr} {kvs : List (Key × V)} {k : Key} {v : V} {ta tb : TE} (ha : Ev ta σ H (.ref p)) (hb : Ev tb σ H (kV k)) (hp : H p = some (.dK kvs)) (hv : valV kvs k = some v) : Ev (tDGet ta tb) σ H v := fun H1 x1 Q q =>
  ha H1 x1 _ fun H2 x2 => hb H2 (x1.trans x2) _ fun H3 x3 => ⟨p, v, rfl, by
    have g := DGet.k (k := k) ((x1.trans (x2.trans x3)) _ _ hp)
    rw [hv] at g
    exact g, q H3 (x2.trans x3)⟩
/-- the signs of a text, exchanged and joined -/
theorem ev_xch {p : Addr} {ps : List (Nat × Nat)} {t : Str} {a j : Nat} (ht : Ev tl σ H (.str t)) (hp : H p = some (.dK (kvG (kvC ps)))) (tlen : t.length ≤ 1000) (hc : ∀ c ∈ t.cps.toList, c ∈ ps.map (·.1)) (hw : ∀ x : V, wipe ((wipe σ vs).set j (some x)) vs = wipe σ vs)
    (hj : ∀ x : V, ((wipe σ vs).set j (some x))[j]? = some (some x)) (ha : ∀ x : V, ((wipe σ vs).set j (some x))[a]? = some (some (.ref p))) : Ev (tM1 (rJoin K) (tC (.str "")) (tLc (iStr tl) (gName j) tYes (tDGet (tVar a) (tVar j)) vs)) σ H (.str (xS (fch ps) t)) := by
  have z := el_signsM (te := tDGet (tVar a) (tVar j)) (j := j) (vs := vs) (fun c => .str ⟨#[fch ps (c.cps.toList.headD 0)]⟩) ht (by omega) hw (fun c H1 x1 mc => by
    obtain ⟨d, hd, rfl⟩ := List.mem_map.mp mc
    exact ev_dget (k := Sum.inr ⟨#[d]⟩) (ev_var (ha _)) (ev_var (hj _)) (x1 _ _ hp) (val_ch (hc d hd)))
  have e : (signsL t).map (fun c => V.str ⟨#[fch ps (c.cps.toList.headD 0)]⟩) = ((t.cps.toList.map (fch ps)).map fun c => (⟨#[c]⟩ : Str)).map V.str := by
    unfold signsL
    rw [List.map_map, List.map_map, List.map_map]
    rfl
  rw [e] at z
  have ll := len_cps t
  have y := ev_joinL (K := K) (s := "") z (by
    have s1 := sum_bound (fun w => w.length) 1 ((t.cps.toList.map (fch ps)).map fun c => (⟨#[c]⟩ : Str)) fun w hw => by
      obtain ⟨c, _, rfl⟩ := List.mem_map.mp hw
      exact Nat.le_refl 1
    rw [List.length_map, List.length_map, ll] at s1 ⊢
    have s2 : (((t.cps.toList.map (fch ps)).map fun c => (⟨#[c]⟩ : Str)).map (·.length)).sum ≤ 1 * t.length := s1
    have : ("" : Str).length = 0 := rfl
    rw [this]
    omega)
  rw [join_one] at y
  exact y
end
section
variable {P : Program} {w : World} {K : PySem.W.Frag} {mg : Str → Option Value} {base : Heap}
end

end K02

set_option Elab.async false
set_option linter.all false
set_option maxRecDepth 100000
set_option maxHeartbeats 4000000
/-! The draws of these rows: draw, pick (of a list, of a text), pen, mixed -/
namespace K02
open PySem PySem.Spec PyProof.Rows L2 Evl KU
section
variable {P : Program} {w : World} {K : PySem.W.Frag} {mg : Str → Option Value} {base : Heap}
theorem scDraw : FnScope ["_law_pen_here", "_law_many", "_law_digit", "_law_lap", "_law_cell", "_law_great", "_law_stir"] ["_law_pen_here", "_law_many"] (defScope sDraw) :=
  ⟨rfl, rfl, rfl, by decide +kernel, rfl, by decide +kernel, by decide +kernel⟩
theorem ok_draw {f : Addr} {fd : FuncData} (F : Fun K "_law_draw" "_law_draw" sDraw f fd) (T : Free mg) : FnOk P w K mg base CX0 1 f fd ["_law_pen_here", "_law_many"] spDraw := by
  refine F.ok scDraw (fun vs H Q E h => ?_) (fun cdv A outer s H vs Q E hr h => ?_)
  · obtain ⟨_, _, _, _, _, _, rfl, _⟩ := h
    rfl
  · obtain ⟨P, L, ns, s, g, m, rfl, m0, m1, pen, s0, k⟩ := h
    have nd := scDraw.nd
    refine ⟨_, (pss_cons (ps_if (pt_cmpR op_gt (pe_ix ix_list (pv 0) pe_int (fun _ _ => rfl)) pe_int (nomark _))
 (pss_cons (ps_set (i := 2) nd rfl (.inl rfl) (pe_op op_mod (pe_callTy call_int1 (by rfl) T.int (by decide +kernel) (pa_cons (pe_ix ix_list (pv 0) pe_int (fun _ _ => rfl)) pa_nil)) (pv 1)))
 (pss_cons (ps_asg (pe_op op_fdiv (pe_callTy call_int1 (by rfl) T.int (by decide +kernel) (pa_cons (pe_ix ix_list (pv 0) pe_int (fun _ _ => rfl)) pa_nil)) (pv 1)) (pg_sub (pv 0) pe_int set_list))
 (pss_one (ps_ret (pv 2)))))
 pss_nil)
 (pss_cons (ps_set (i := 3) nd rfl (.inl rfl) (pe_ix ix_list (pv 0) pe_int (fun _ _ => rfl)))
 (pss_cons (ps_asg (pe_op op_add (pv 3) pe_int) (pg_sub (pv 0) pe_int set_list))
 (pss_cons (ps_set (i := 4) nd rfl (.inl rfl) (pe_op op_add (pe_op op_mul pe_int (pv 3)) pe_int))
 (pss_cons (ps_if (pt_cmpR (op_neD hr.units) (pe_ix ix_list (pv 0) pe_int (fun _ _ => rfl)) (pe_lst pa_nil) (nomark _))
 (pss_one (ps_set (i := 4) nd rfl (.inl rfl) (pe_ix ix_list (pe_ix ix_list (pv 0) pe_int (fun _ _ => rfl)) (pe_op op_mod (pe_callTy call_int1 (by rfl) T.int (by decide +kernel) (pa_cons (pv 3) pa_nil)) (pe_callB call_len_seq (by rfl) T.len PySem.boot_len (pa_cons (pe_ix ix_list (pv 0) pe_int (fun _ _ => rfl)) pa_nil))) (fun _ _ => rfl))))
 pss_nil)
 (pss_cons (ps_if (PW.pt (pw_and (pt_cmpR op_lt (pv 3) (pe_callB call_len_seq (by rfl) T.len PySem.boot_len (pa_cons (pe_ix ix_list (pv 0) pe_int (fun _ _ => rfl)) pa_nil)) (nomark _)) (pw_and1 (pt_cmpR op_ge (pe_callB call_abs (by rfl) T.abs (by decide +kernel) (pa_cons (pv 4) pa_nil)) (pe_op op_pow pe_int pe_int) (nomark _)))))
 (pss_cons (ps_set (i := 5) nd rfl (.inl rfl) (pe_op op_add (pe_op op_mul pe_int (pe_op op_sub (pe_callB call_abs (by rfl) T.abs (by decide +kernel) (pa_cons (pv 4) pa_nil)) (pe_op op_pow pe_int pe_int))) (pe_callTy call_int1 (by rfl) T.int (by decide +kernel) (pa_cons (pe_cmpR op_lt (pv 4) pe_int (nomark _)) pa_nil))))
 (pss_cons (ps_asg (pe_op op_fdiv (pe_callTy call_int1 (by rfl) T.int (by decide +kernel) (pa_cons (pv 5) pa_nil)) (pv 1)) (pg_sub (pv 0) pe_int set_list))
 (pss_one (ps_ret (pe_op op_mod (pe_callTy call_int1 (by rfl) T.int (by decide +kernel) (pa_cons (pv 5) pa_nil)) (pv 1))))))
 pss_nil)
 (pss_cons (ps_set (i := 6) nd rfl (.inl rfl) (pe_op op_mod (pe_callTy call_int1 (by rfl) T.int (by decide +kernel) (pa_cons (pe_op op_pow (pe_op op_add (pe_op op_add (pe_op op_mod (pe_callTy call_int1 (by rfl) T.int (by decide +kernel) (pa_cons (pv 4) pa_nil)) pe_int) (pe_op op_mul pe_int (pv 3))) pe_int) pe_int) pa_nil)) pe_int))
 (pss_cons (ps_set (i := 6) nd rfl (.inl rfl) (pe_op op_mod (pe_callTy call_int1 (by rfl) T.int (by decide +kernel) (pa_cons (pe_op op_pow (pe_op op_add (pe_op op_add (pe_op op_mul (pv 6) (pe_op op_add (pe_op op_mul pe_int (pv 3)) pe_int)) (pe_op op_mul (pe_op op_mul pe_int (pv 3)) (pv 3))) pe_int) pe_int) pa_nil)) pe_int))
 (pss_one (ps_ret (pe_op op_mod (pe_callTy call_int1 (by rfl) T.int (by decide +kernel) (pa_cons (pe_op op_fdiv (pv 6) pe_int) pa_nil)) (pv 1)))))))))))), ?_⟩
    exact draw_reads (by decide) (by decide) (by decide) (by decide) (by decide) (by decide) (by decide) (by decide) (by decide) (by decide) m0 m1 pen s0 k
theorem scPick : FnScope ["_law_pen_here", "_law_some"] ["_law_pen_here", "_law_some"] (defScope sPick) := ⟨rfl, rfl, rfl, by decide +kernel, rfl, by decide +kernel, by decide +kernel⟩
structure Draws (K : PySem.W.Frag) (mg : Str → Option Value) (fD fP : Addr) : Prop extends Free mg where
  gDraw : mg "_law_draw" = some (.ref fD)
  kDraw : PySem.W.keepIn K (.ref fD) = true
  gPick : mg "_law_pick" = some (.ref fP)
  kPick : PySem.W.keepIn K (.ref fP) = true
theorem ok_pick {f fD : Addr} {fd fdD : FuncData} (F : Fun K "_law_pick" "_law_pick" sPick f fd) (T : Draws K mg fD f) (FD : Fun K "_law_draw" "_law_draw" sDraw fD fdD) (bD : Binds K fdD ["_law_pen_here", "_law_many"] []) :
    FnOk P w K mg base CX0 2 f fd ["_law_pen_here", "_law_some"] spPick := by
  have GD : FnOk P w K mg base CX0 1 fD fdD ["_law_pen_here", "_law_many"] spDraw := ok_draw FD T.toFree
  refine F.ok scPick (fun vs H Q E h => ?_) (fun cdv A outer s H vs Q E hr h => ?_)
  · obtain ⟨_, _, _, _, _, _, _, rfl, _⟩ := h
    rfl
  · obtain ⟨P, L, l, ns, xs, s, g, rfl, x0, xl, hl, ne, pen, s0, k⟩ := h
    have hr1 := hr
    refine ⟨_, (pss_one (ps_ret (pe_ix ix_list (pv 1) (pe_call GD hr1 (by rfl) T.gDraw T.kDraw bD .nil pass0 (pa_cons (pv 0) (pa_cons (pe_callB call_len_seq (by rfl) T.len PySem.boot_len (pa_cons (pv 1) pa_nil)) pa_nil))) (fun _ _ => rfl)))), ?_⟩
    exact pick_reads x0 xl hl ne pen s0 k
theorem scPen : FnScope ["_law_script"] ["_law_script"] (defScope sPen) := ⟨rfl, rfl, rfl, by decide +kernel, rfl, by decide +kernel, by decide +kernel⟩
theorem ok_pen {f : Addr} {fd : FuncData} (F : Fun K "_law_pen" "_law_pen" sPen f fd) (T : Free mg) : FnOk P w K mg base CX0 1 f fd ["_law_script"] (spPen K) := by
  refine F.ok scPen (fun vs H Q E h => ?_) (fun cdv A outer s H vs Q E hr h => ?_)
  · obtain ⟨_, _, rfl, _⟩ := h
    rfl
  · obtain ⟨a, ns, rfl, hS, hl, k⟩ := h
    refine ⟨_, (pss_one (ps_ret (pe_lst (pa_cons (pe_callTy call_list_of (by rfl) T.list (by decide +kernel) (pa_cons (pe_slice sl_list (pv 0) po_none (po_some pe_int)) pa_nil)) (pa_cons pe_int (pa_cons pe_int pa_nil)))))), ?_⟩
    exact pen_reads hS hl k
/-- a sign of a text -/
def spPickS : Sp := fun vs H Q _ => ∃ (P L : Addr) (ns : List Int) (z : Str) (s : Nat) (g : Int), vs = [.ref P, .str z] ∧ 0 < z.length ∧ z.length ≤ 1000 ∧ Pen H P L ns s g ∧ s ≤ 100000 ∧
  ∀ (c : Nat) (s' : Nat) (g' : Int) (H' : Hp), c ∈ z.cps.toList → s' ≤ s + 1 → But P H H' → Pen H' P L ns s' g' → Q (.str ⟨#[c]⟩) H'
theorem ok_pickS {f fD : Addr} {fd fdD : FuncData} (F : Fun K "_law_pick" "_law_pick" sPick f fd) (T : Draws K mg fD f) (FD : Fun K "_law_draw" "_law_draw" sDraw fD fdD) (bD : Binds K fdD ["_law_pen_here", "_law_many"] []) :
    FnOk P w K mg base CX0 2 f fd ["_law_pen_here", "_law_some"] spPickS := by
  have GD : FnOk P w K mg base CX0 1 fD fdD ["_law_pen_here", "_law_many"] spDraw := ok_draw FD T.toFree
  refine F.ok scPick (fun vs H Q E h => ?_) (fun cdv A outer s H vs Q E hr h => ?_)
  · obtain ⟨_, _, _, _, _, _, rfl, _⟩ := h
    rfl
  · obtain ⟨P, L, ns, z, s, g, rfl, z0, z1, pen, s0, k⟩ := h
    have hr1 := hr
    refine ⟨_, (pss_one (ps_ret (pe_ix (r := rIxS) (by exact ix_str) (pv 1) (pe_call GD hr1 (by rfl) T.gDraw T.kDraw bD .nil pass0 (pa_cons (pv 0) (pa_cons (pe_callB call_len_str (by rfl) T.len PySem.boot_len (pa_cons (pv 1) pa_nil)) pa_nil))) (fun _ _ => rfl)))), ?_⟩
    refine ⟨_, rfl, _, rfl, _, rfl, z, rfl, by rw [sizeLine_eq]; omega, P, L, ns, s, g, (z.length : Int), rfl, by omega, by omega, pen, s0, fun d s1 g1 H1 hd hs1 but1 pen1 => ?_⟩
    have dl : d < z.cps.toList.length := by
      rw [len_cps]
      omega
    exact ⟨z, (d : Int), z.cps.toList[d], rfl, rfl, by rw [sizeLine_eq]; omega, atI_nat (List.getElem?_eq_getElem dl), k _ s1 g1 H1 (List.getElem_mem dl) hs1 but1 pen1⟩
theorem perm_erase {α : Type} : ∀ {l : List α} {d : Nat} (h : d < l.length), (l[d] :: l.eraseIdx d).Perm l
  | a :: r, 0, _ => List.Perm.refl _
  | a :: r, d + 1, h => by
    have h' : d < r.length := by simpa using h
    show (r[d] :: a :: r.eraseIdx d).Perm (a :: r)
    exact (List.Perm.swap _ _ _).trans ((perm_erase h').cons a)
theorem map_erase {α β : Type} (f : α → β) : ∀ (l : List α) (d : Nat), (l.map f).eraseIdx d = (l.eraseIdx d).map f
  | [], _ => rfl
  | a :: r, 0 => rfl
  | a :: r, d + 1 => by
    show f a :: (r.map f).eraseIdx d = f a :: (r.eraseIdx d).map f
    rw [map_erase f r d]
theorem ev_neNil {K : PySem.W.Frag} {σ : L2.St} {H : Hp} {ta : TE} {p : Addr} {a : List Str} (ha : Ev ta σ H (.ref p)) (hp : H p = some (.lst (a.map V.str))) (o : ∀ t ∈ a, PyData.strOk t = true) : Ev (tOp (rNeD K) ta (tLst tNil)) σ H (.bl (!decide (a = []))) := fun H1 x1 Q q =>
  ha H1 x1 _ fun H2 x2 => ⟨by show 0 ≤ sizeLine; decide, fun l hl => by
    have x3 : Ex H2 (upd H2 l (.lst [])) := Ex.new hl
    exact rv_neL (a := a) (b := []) (x3 _ _ (x2 _ _ (x1 _ _ hp))) upd_same o (fun t ht => by cases ht) _ (Ex.refl _) Q fun H4 x4 => q H4 (x2.trans (x3.trans x4))⟩
/-- the texts, mixed -/
def spMixed : Sp := fun vs H Q _ => ∃ (P L : Addr) (ns : List Int) (s : Nat) (g : Int) (v : V) (zs : List Str), vs = [.ref P, v] ∧ ((∃ z : Str, v = .str z ∧ zs = signsL z) ∨ ∃ l, v = .ref l ∧ H l = some (.lst (zs.map V.str))) ∧ zs.length ≤ 1000 ∧ (∀ t ∈ zs, PyData.strOk t = true) ∧ Pen H P L ns s g ∧ s ≤ 90000 ∧
  ∀ (p : Addr) (ys : List Str) (s' : Nat) (g' : Int) (H' : Hp), ys.Perm zs → H p = none → s' ≤ s + zs.length → But P H H' → H' p = some (.lst (ys.map V.str)) → Pen H' P L ns s' g' → Q (.ref p) H'
abbrev nMixed : List Str := ["_law_pen_here", "_law_some", "_law_left", "_law_found"]
theorem scMixed : FnScope nMixed ["_law_pen_here", "_law_some"] (defScope sMixed) := ⟨rfl, rfl, rfl, by decide +kernel, rfl, by decide +kernel, by decide +kernel⟩
theorem ok_mixed {f fD fP : Addr} {fd fdD : FuncData} (F : Fun K "_law_mixed" "_law_mixed" sMixed f fd) (T : Draws K mg fD fP) (FD : Fun K "_law_draw" "_law_draw" sDraw fD fdD) (bD : Binds K fdD ["_law_pen_here", "_law_many"] []) :
    FnOk P w K mg base CX0 2 f fd ["_law_pen_here", "_law_some"] spMixed := by
  have GD : FnOk P w K mg base CX0 1 fD fdD ["_law_pen_here", "_law_many"] spDraw := ok_draw FD T.toFree
  refine F.ok scMixed (fun vs H Q E h => ?_) (fun cdv A outer s H vs Q E hr h => ?_)
  · obtain ⟨_, _, _, _, _, _, _, rfl, _⟩ := h
    rfl
  · obtain ⟨Pn, L, ns, s0, g0, v, zs, rfl, hv, zl, zok, pen, hs, k⟩ := h
    have nd := scMixed.nd
    -- from the list that is mixed on
    have go : ∀ (l p : Addr) (H2 : Hp), H l = none → H p = none → l ≠ p → Ex H H2 → H2 l = some (.lst (zs.map V.str)) → H2 p = some (.lst []) → ∀ D : L2.Ends, D.rt = Q →
        tSeq (tWhile (tTest (tOp (rNeD K) (tVar 2) (tLst tNil))) (tDrop (tBM K "list" rAppend (tVar 3) (tCons (tBM K "list" rPopAt (tVar 2) (tCons (tCall spDraw [] E0 (tCons (tVar 0) (tCons (tCB (rLenS K) (tCons (tVar 2) tNil)) tNil))) tNil)) tNil)))) (tRet (tVar 3)) D [some (.ref Pn), some v, some (.ref l), some (.ref p)] H2 := by
      intro l p H2 hl hp lp x2 el ep D hD
      have lP : l ≠ Pn := (ne_of_none pen.pen hl).symm
      have pP : p ≠ Pn := (ne_of_none pen.pen hp).symm
      have lL : l ≠ L := (ne_of_none pen.cells hl).symm
      have pL : p ≠ L := (ne_of_none pen.cells hp).symm
      refine q_while (fun m σ' H' => ∃ (qs ys : List Str) (s' : Nat) (g' : Int), σ' = [some (.ref Pn), some v, some (.ref l), some (.ref p)] ∧ qs.length = m ∧ (ys ++ qs).Perm zs ∧ H' l = some (.lst (qs.map V.str)) ∧ H' p = some (.lst (ys.map V.str)) ∧ (∀ b o, b ≠ Pn → H b = some o → H' b = some o) ∧ Pen H' Pn L ns s' g' ∧ s' ≤ s0 + ys.length)
        zs.length ⟨zs, [], s0, g0, rfl, rfl, List.Perm.refl _, el, ep, fun b o _ hb => x2 _ _ hb, pen.mono x2, Nat.le_refl _⟩ (fun m σ' H' q => ?_)
      obtain ⟨qs, ys, s', g', rfl, rfl, pm, el, ep, keep, pn, hs'⟩ := q
      have ql : qs.length + ys.length = zs.length := by
        have := pm.length_eq
        rw [List.length_append] at this
        omega
      refine ⟨!decide (qs = []), et_test (ev_neNil (ev_var rfl) el fun t ht => zok t (pm.mem_iff.mp (List.mem_append_right _ ht))), fun hb H1 x1 => ?_, fun hb H1 x1 => ?_⟩
      · have q0 : 0 < qs.length := by
          cases qs with
          | nil => simp at hb
          | cons a r => exact Nat.succ_pos _
        refine ⟨fun σ2 H2' => ∃ (qs' ys' : List Str) (s2 : Nat) (g2 : Int), σ2 = [some (.ref Pn), some v, some (.ref l), some (.ref p)] ∧ qs'.length + 1 = qs.length ∧ (ys' ++ qs').Perm zs ∧ H2' l = some (.lst (qs'.map V.str)) ∧ H2' p = some (.lst (ys'.map V.str)) ∧ (∀ b o, b ≠ Pn → H b = some o → H2' b = some o) ∧ Pen H2' Pn L ns s2 g2 ∧ s2 ≤ s0 + ys'.length, fun σ2 H2' q => ?_, ?_⟩
        · obtain ⟨qs', ys', s2, g2, e1, e2, e3⟩ := q
          exact ⟨qs'.length, by omega, qs', ys', s2, g2, e1, rfl, e3⟩
        · refine ⟨_, rfl, .inl ⟨rfl, _, sq_of (x1 _ _ ep)⟩, ?_⟩
          refine (?_ : tBM K "list" rPopAt (tVar 2) (tCons (tCall spDraw [] E0 (tCons (tVar 0) (tCons (tCB (rLenS K) (tCons (tVar 2) tNil)) tNil))) tNil) _ H1 _)
          refine ⟨_, rfl, .inl ⟨rfl, _, sq_of (x1 _ _ el)⟩, ?_⟩
          refine (?_ : tCall _ _ _ _ _ H1 _)
          refine ⟨_, rfl, ?_⟩
          refine (?_ : tCons _ _ _ H1 _)
          refine (ev_len (K := K) (ev_var (i := 2) rfl) (sq_of (x1 _ _ el))) H1 (Ex.refl _) _ fun H4 x4 => ?_
          rw [List.length_map]
          have pn4 := (pn.mono x1).mono x4
          refine ⟨Pn, L, ns, s', g', (qs.length : Int), rfl, by omega, by omega, pn4, by omega, fun d s4 g4 H5 hd hs4 but5 pen5 => ?_⟩
          have dl : d < qs.length := by omega
          have el5 := but5 _ _ lP (x4 _ _ (x1 _ _ el))
          have ep5 := but5 _ _ pP (x4 _ _ (x1 _ _ ep))
          refine ⟨l, qs.map V.str, (d : Int), d, .str qs[d], rfl, rfl, el5, by omega, by omega, ?_, ?_, ?_⟩
          · rw [List.length_map]
            exact seqIndex_of (by omega) (by omega)
          · rw [List.getElem?_map, List.getElem?_eq_getElem dl]
            rfl
          · refine ⟨p, ys.map V.str, .str qs[d], rfl, rfl, by rw [upd_ne lp.symm]; exact ep5, by rw [List.length_map, sizeLine_eq]; omega, ?_⟩
            refine ⟨qs.eraseIdx d, ys ++ [qs[d]], s4, g4, rfl, by rw [List.length_eraseIdx_of_lt dl]; omega, ?_, ?_, ?_, fun b o nb hb => ?_, ⟨?_, ?_, pen5.ne, pen5.few, pen5.left⟩, by rw [List.length_append]; show _ ≤ s0 + (_ + 1); omega⟩
            · rw [List.append_assoc]
              exact (List.Perm.append_left _ (perm_erase dl)).trans pm
            · rw [upd_ne lp, upd_same]
              exact congrArg (fun z => some (HO.lst z)) (map_erase _ _ _)
            · rw [upd_same, List.map_append]
              rfl
            · rw [upd_ne (ne_of_none hb hp), upd_ne (ne_of_none hb hl)]
              exact but5 _ _ nb (x4 _ _ (x1 _ _ (keep b o nb hb)))
            · rw [upd_ne pP.symm, upd_ne lP.symm]
              exact pen5.pen
            · rw [upd_ne pL.symm, upd_ne lL.symm]
              exact pen5.cells
      · have q0 : qs = [] := by
          cases qs with
          | nil => rfl
          | cons a r => simp at hb
        subst q0
        rw [List.append_nil] at pm
        refine s_ret (ev_var rfl) fun H4 x4 => ?_
        rw [hD]
        exact k p ys s' g' H4 pm hp (by have := pm.length_eq; omega) (fun b o nb hb => x4 _ _ (x1 _ _ (keep b o nb hb))) (x4 _ _ (x1 _ _ ep)) ((pn.mono x1).mono x4)
    rcases hv with ⟨z, rfl, rfl⟩ | ⟨l0, rfl, hl0⟩
    · refine ⟨_, pss_cons (ps_par (i := 2) (j := 3) (by rfl) nd rfl rfl (by decide) rfl rfl (pa_cons (pe_callTy (call_listS rfl) (by rfl) T.list (by decide +kernel) (pa_cons (pv 1) pa_nil)) (pa_cons (pe_lst pa_nil) pa_nil)) (by rfl))
        (pss_cons (ps_while PassesOwn.never (pt_cmpR (r := rNeD K) (by exact op_neD hr.units) (pv 2) (pe_lst pa_nil) (nomark _)) (pss_one (ps_expr (pe_bm PySem.F.plainAttrs_list PySem.F.slot_list_append PySem.F.type_list_append mt_append (pv 3) (pa_cons (pe_bm PySem.F.plainAttrs_list PySem.F.slot_list_pop PySem.F.type_list_pop mt_popAt (pv 2) (pa_cons (pe_call GD hr (by rfl) T.gDraw T.kDraw bD .nil pass0 (pa_cons (pv 0) (pa_cons (pe_callB call_len_seq (by rfl) T.len PySem.boot_len (pa_cons (pv 2) pa_nil)) pa_nil))) pa_nil)) pa_nil)))))
        (pss_one (ps_ret (pv 3)))), ?_⟩
      have lz := len_cps z
      have lS : (signsL z).length = z.length := by
        unfold signsL
        rw [List.length_map]
        exact lz
      refine ⟨_, rfl, z, rfl, by omega, fun l hl => ?_⟩
      refine (?_ : tCons _ _ _ _ _)
      refine ⟨by show 0 ≤ sizeLine; decide, fun p hp => ⟨_, _, rfl, ?_⟩⟩
      have x1 : Ex H (upd H l (.lst (signsV z))) := Ex.new hl
      have x2 : Ex (upd H l (.lst (signsV z))) (upd (upd H l (.lst (signsV z))) p (.lst [])) := Ex.new hp
      have e1 : upd H l (.lst (signsV z)) l = some (.lst ((signsL z).map V.str)) := by
        rw [upd_same]
        unfold signsV signsL
        rw [List.map_map]
        rfl
      exact go l p _ hl (fresh_back x1 hp) (ne_of_none e1 hp) (x1.trans x2) (x2 _ _ e1) upd_same _ rfl
    · refine ⟨_, pss_cons (ps_par (i := 2) (j := 3) (by rfl) nd rfl rfl (by decide) rfl rfl (pa_cons (pe_callTy call_list_of (by rfl) T.list (by decide +kernel) (pa_cons (pv 1) pa_nil)) (pa_cons (pe_lst pa_nil) pa_nil)) (by rfl))
        (pss_cons (ps_while PassesOwn.never (pt_cmpR (r := rNeD K) (by exact op_neD hr.units) (pv 2) (pe_lst pa_nil) (nomark _)) (pss_one (ps_expr (pe_bm PySem.F.plainAttrs_list PySem.F.slot_list_append PySem.F.type_list_append mt_append (pv 3) (pa_cons (pe_bm PySem.F.plainAttrs_list PySem.F.slot_list_pop PySem.F.type_list_pop mt_popAt (pv 2) (pa_cons (pe_call GD hr (by rfl) T.gDraw T.kDraw bD .nil pass0 (pa_cons (pv 0) (pa_cons (pe_callB call_len_seq (by rfl) T.len PySem.boot_len (pa_cons (pv 2) pa_nil)) pa_nil))) pa_nil)) pa_nil)))))
        (pss_one (ps_ret (pv 3)))), ?_⟩
      refine ⟨_, rfl, l0, _, rfl, .inl (sq_of hl0), fun l hl => ?_⟩
      refine (?_ : tCons _ _ _ _ _)
      refine ⟨by show 0 ≤ sizeLine; decide, fun p hp => ⟨_, _, rfl, ?_⟩⟩
      have x1 : Ex H (upd H l (.lst (zs.map V.str))) := Ex.new hl
      have x2 : Ex (upd H l (.lst (zs.map V.str))) (upd (upd H l (.lst (zs.map V.str))) p (.lst [])) := Ex.new hp
      have e1 : upd H l (.lst (zs.map V.str)) l = some (.lst (zs.map V.str)) := upd_same
      exact go l p _ hl (fresh_back x1 hp) (ne_of_none e1 hp) (x1.trans x2) (x2 _ _ e1) upd_same _ rfl
end
end K02

set_option Elab.async false
set_option linter.all false
set_option maxRecDepth 100000
set_option maxHeartbeats 4000000
/-! Lists of pairs of texts, dicts of them -/
namespace K02
open PySem PySem.Spec PyProof.Rows L2 Evl KU
def kvS (qs : List (Str × Str)) : List (Str × V) := qs.map fun q => (q.1, V.str q.2)
/-- a list of pairs of texts -/
def IsI (qs : List (Str × Str)) : V → Hp → Prop := fun v H => ∃ (l : Addr) (ts : List Addr), v = .ref l ∧ H l = some (.lst (ts.map V.ref)) ∧ Paired (fun (t : Addr) (q : Str × Str) => H t = some (.tup [V.str q.1, V.str q.2])) ts qs
/-- a dict of texts -/
def IsW (qs : List (Str × Str)) : V → Hp → Prop := fun v H => ∃ p, v = .ref p ∧ H p = some (.dK (kvG (kvS qs)))
theorem up_isW (qs : List (Str × Str)) : Up (IsW qs) := fun v H H' x ⟨p, e, h⟩ => ⟨p, e, x _ _ h⟩
theorem paired_imp2 {α β : Type} {F G : α → β → Prop} : ∀ {xs : List α} {ys : List β}, Paired F xs ys → (∀ a b, F a b → G a b) → Paired G xs ys
  | _, _, .nil, _ => .nil
  | _, _, .cons h t, i => .cons (i _ _ h) (paired_imp2 t i)
theorem up_isI (qs : List (Str × Str)) : Up (IsI qs) := fun v H H' x ⟨l, ts, e, h, pr⟩ => ⟨l, ts, e, x _ _ h, paired_imp2 pr fun _ _ h => x _ _ h⟩
theorem unlock_isI (qs : List (Str × Str)) {d : Addr} {u : HO} {od : Obj} {v : V} {H : Hp} (hd : H d = some (.frz od u)) (h : IsI qs v H) : IsI qs v (upd H d u) := by
  obtain ⟨l, ts, e, h, pr⟩ := h
  have ne : ∀ {b : Addr} {o : HO}, H b = some o → (∀ o' u', o ≠ .frz o' u') → b ≠ d := fun hb n z => by
    rw [z, hd] at hb
    cases hb
    exact n _ _ rfl
  exact ⟨l, ts, e, by rw [upd_ne (ne h fun _ _ z => by cases z)]; exact h, paired_imp2 pr fun t q h => by rw [upd_ne (ne h fun _ _ z => by cases z)]; exact h⟩
theorem paired_snoc {α β : Type} {F G : α → β → Prop} : ∀ {xs : List α} {ys : List β}, Paired F xs ys → (∀ a b, F a b → G a b) → ∀ {x y}, G x y → Paired G (xs ++ [x]) (ys ++ [y])
  | _, _, .nil, _, _, _, g => .cons g .nil
  | _, _, .cons h t, i, _, _, g => .cons (i _ _ h) (paired_snoc t i g)
/-- the word of a sign -/
def wOf (qs : List (Str × Str)) (k : Str) : Str := ((qs.find? fun q => decide (q.1 = k)).map (·.2)).getD ""
theorem wOf_mem {qs : List (Str × Str)} {k : Str} (h : k ∈ qs.map (·.1)) : (k, wOf qs k) ∈ qs := by
  unfold wOf
  cases e : qs.find? fun q => decide (q.1 = k) with
  | none =>
    obtain ⟨q, hq, rfl⟩ := List.mem_map.mp h
    have := List.find?_eq_none.mp e q hq
    simp at this
  | some q =>
    have h1 : q.1 = k := of_decide_eq_true (List.find?_some (p := fun q : Str × Str => decide (q.1 = k)) e)
    have h2 := List.mem_of_find?_eq_some e
    show (k, q.2) ∈ qs
    rw [← h1]
    exact h2
theorem key_one : ∀ {qs : List (Str × Str)} {k a b : Str}, (qs.map (·.1)).Nodup → (k, a) ∈ qs → (k, b) ∈ qs → a = b
  | [], _, _, _, _, h, _ => by cases h
  | p :: r, k, a, b, nd, ha, hb => by
    rw [List.map_cons, List.nodup_cons] at nd
    rcases List.mem_cons.mp ha with e1 | h1
    · rcases List.mem_cons.mp hb with e2 | h2
      · rw [← e2] at e1
        exact (Prod.mk.inj e1).2
      · exact absurd (List.mem_map.mpr ⟨_, h2, by rw [← e1]⟩) nd.1
    · rcases List.mem_cons.mp hb with e2 | h2
      · exact absurd (List.mem_map.mpr ⟨_, h1, by rw [← e2]⟩) nd.1
      · exact key_one nd.2 h1 h2
theorem wOf_of {qs : List (Str × Str)} {k a : Str} (nd : (qs.map (·.1)).Nodup) (h : (k, a) ∈ qs) : wOf qs k = a := key_one nd (wOf_mem (List.mem_map.mpr ⟨_, h, rfl⟩)) h
theorem val_of {qs : List (Str × Str)} {k : Str} (h : k ∈ qs.map (·.1)) : valV (kvG (kvS qs)) (Sum.inr k) = some (V.str (wOf qs k)) := by
  unfold kvG kvS
  rw [List.map_map]
  induction qs with
  | nil => cases h
  | cons p r ih =>
    rw [List.map_cons]
    by_cases e : p.1 = k
    · rw [valV_pos (by show (Sum.inr p.1 : Key) = _; rw [e])]
      unfold wOf
      rw [List.find?_cons, decide_eq_true e]
      rfl
    · rw [valV_neg (fun z => e (Sum.inr.inj z))]
      have hr : k ∈ r.map (·.1) := by
        rcases List.mem_cons.mp h with z | z
        · exact absurd z.symm e
        · exact z
      rw [ih hr]
      unfold wOf
      rw [List.find?_cons, decide_eq_false e]
theorem val_none {qs : List (Str × Str)} {k : Str} (h : k ∉ qs.map (·.1)) : valV (kvG (kvS qs)) (Sum.inr k) = none := by
  unfold kvG kvS
  rw [List.map_map]
  induction qs with
  | nil => rfl
  | cons p r ih =>
    rw [List.map_cons, valV_neg (fun z => h (List.mem_map.mpr ⟨p, List.mem_cons_self, Sum.inr.inj z⟩))]
    exact ih fun z => h (List.mem_cons_of_mem _ z)
theorem merge_new : ∀ (ks acc : List (Key × V)), (acc.map (·.1) ++ ks.map (·.1)).Nodup → mergeK acc ks = acc ++ ks
  | [], acc, _ => (List.append_nil _).symm
  | p :: r, acc, nd => by
    have np : p.1 ∉ acc.map (·.1) := fun h => by
      rw [List.nodup_append] at nd
      exact nd.2.2 _ h _ List.mem_cons_self rfl
    have e : putK acc p.1 p.2 = acc ++ [p] := by
      unfold putK
      rw [if_neg]
      rw [Bool.not_eq_true, List.any_eq_false]
      intro q hq z
      have z' : q.1 = p.1 := of_decide_eq_true z
      exact np (List.mem_map.mpr ⟨q, hq, z'⟩)
    show mergeK (putK acc p.1 p.2) r = _
    rw [e, merge_new r (acc ++ [p]) (by rw [List.map_append, List.append_assoc]; exact nd), List.append_assoc]
    rfl
theorem kvS_keys (qs : List (Str × Str)) : (kvG (kvS qs)).map (·.1) = (qs.map (·.1)).map Sum.inr := by
  unfold kvG kvS
  rw [List.map_map, List.map_map, List.map_map]
  rfl
theorem kvS_len (qs : List (Str × Str)) : (kvG (kvS qs)).length = qs.length := by
  unfold kvG kvS
  rw [List.length_map, List.length_map]
theorem merge_kvS {qs : List (Str × Str)} (nd : (qs.map (·.1)).Nodup) : mergeK [] (kvG (kvS qs)) = kvG (kvS qs) := by
  rw [merge_new _ _ ?_, List.nil_append]
  rw [List.map_nil, List.nil_append, kvS_keys]
  exact List.pairwise_map.mpr (nd.imp fun ne e => ne (Sum.inr.inj e))
theorem put_newS {qs : List (Str × Str)} {k a : Str} (h : k ∉ qs.map (·.1)) : putK (kvG (kvS qs)) (Sum.inr k) (V.str a) = kvG (kvS (qs ++ [(k, a)])) := by
  unfold putK
  rw [if_neg]
  · unfold kvG kvS
    rw [List.map_append, List.map_append]
    rfl
  · rw [Bool.not_eq_true, List.any_eq_false]
    intro q hq z
    have z' : q.1 = Sum.inr k := of_decide_eq_true z
    have m : q.1 ∈ (qs.map (·.1)).map Sum.inr := by
      rw [← kvS_keys]
      exact List.mem_map.mpr ⟨q, hq, rfl⟩
    rw [z'] at m
    obtain ⟨c, hc, e⟩ := List.mem_map.mp m
    exact h ((Sum.inr.inj e) ▸ hc)
/-- put at a key that is there -/
def setS (qs : List (Str × Str)) (k a : Str) : List (Str × Str) := qs.map fun q => if q.1 = k then (q.1, a) else q
theorem put_oldS {qs : List (Str × Str)} {k a : Str} (h : k ∈ qs.map (·.1)) : putK (kvG (kvS qs)) (Sum.inr k) (V.str a) = kvG (kvS (setS qs k a)) := by
  unfold putK
  rw [if_pos]
  · unfold kvG kvS setS
    rw [List.map_map, List.map_map, List.map_map, List.map_map]
    refine List.map_congr_left fun q hq => ?_
    show (if (Sum.inr q.1 : Key) = Sum.inr k then ((Sum.inr q.1 : Key), V.str a) else (Sum.inr q.1, V.str q.2)) = (Sum.inr (if q.1 = k then (q.1, a) else q).1, V.str (if q.1 = k then (q.1, a) else q).2)
    by_cases e : q.1 = k
    · rw [if_pos e, if_pos (by rw [e])]
    · rw [if_neg e, if_neg fun z => e (Sum.inr.inj z)]
  · rw [List.any_eq_true]
    obtain ⟨q, hq, e⟩ := List.mem_map.mp h
    exact ⟨(Sum.inr q.1, V.str q.2), List.mem_map.mpr ⟨(q.1, V.str q.2), List.mem_map.mpr ⟨q, hq, rfl⟩, rfl⟩, decide_eq_true (by show (Sum.inr q.1 : Key) = _; rw [e])⟩
section
variable {K : PySem.W.Frag} {σ : L2.St} {H : Hp} {te tl t1 t2 ta tb : TE} {j : Nat} {vs : List Nat} {qs : List (Str × Str)}
/-- [(a, b) for x in ..] -/
theorem lc_prs {α : Type} (as : List α) (enc : α → V) {J : It} {G : Hp → Prop} (w : Walk J as.length G (YAt (as.map enc))) (hG : ∀ H1, Ex H H1 → G H1) (few : as.length ≤ 1000) (k v : α → Str) (hw : ∀ x : V, wipe ((wipe σ vs).set j (some x)) vs = wipe σ vs)
    (h1 : ∀ (a : α) (H1 : Hp), Ex H H1 → a ∈ as → Ev t1 ((wipe σ vs).set j (some (enc a))) H1 (.str (k a))) (h2 : ∀ (a : α) (H1 : Hp), Ex H H1 → a ∈ as → Ev t2 ((wipe σ vs).set j (some (enc a))) H1 (.str (v a)))
    {H1 : Hp} (x1 : Ex H H1) {D : Addr} (hD : H1 D = none) {Q : VK} (q : ∀ (p : V) (H2 : Hp), Ex H1 H2 → IsI (as.map fun a => (k a, v a)) p H2 → Q p H2) :
    ∃ W : Nat → Nat → Hp → Prop, (∃ m, W 0 m (upd H1 D (.lst []))) ∧ ∀ (i m : Nat) (H' : Hp), W i m H' → (J.stop i H' ∧ Q (.ref D) H') ∨ (J.go i H' ∧ ∃ Nx : Hp → Prop, (∀ H', Nx H' → ∃ m', m' < m ∧ W (i + 1) m' H') ∧
      ∀ (x : V) (H2 : Hp), J.yld i H' x H2 → gName j x (wipe σ vs) H2 fun σ2 H3 => wipe σ2 vs = wipe σ vs ∧ tYes σ2 H3 fun b H4 => if b = true then tTup (tCons t1 (tCons t2 tNil)) σ2 H4 fun y H5 => ∃ acc, H5 D = some (.lst acc) ∧ acc.length < sizeLine ∧ Nx (upd H5 D (.lst (acc ++ [y]))) else Nx H4) := by
  refine lc_it w (Pv := fun i H' => Ex H1 H' ∧ ∃ ts : List Addr, H' D = some (.lst (ts.map V.ref)) ∧ Paired (fun (t : Addr) (p : Str × Str) => H' t = some (.tup [V.str p.1, V.str p.2])) ts ((as.take i).map fun a => (k a, v a)))
    ⟨Ex.new hD, [], upd_same, .nil⟩ (fun i H' _ c => hG H' (x1.trans c.1)) (fun i x H3 H4 hi c y => ?_) fun H3 c => ?_
  · obtain ⟨rfl, ex⟩ := y
    obtain ⟨x3, ts, hd, pr⟩ := c
    rw [List.getElem?_map] at ex
    obtain ⟨a, ea, rfl⟩ := Option.map_eq_some_iff.mp ex
    have ma := List.mem_of_getElem? ea
    have x13 := x1.trans x3
    refine ⟨hw _, ?_⟩
    unfold tYes
    dsimp only
    rw [if_pos rfl]
    refine (ea_cons (h1 a H4 x13 ma) (ea_cons (h2 a H4 x13 ma) ea_nil)) H4 (Ex.refl _) _ fun H5 x5 => ⟨by show 2 ≤ sizeLine; decide, fun t ht => ?_⟩
    have nD : D ≠ t := ne_of_none (x5 _ _ hd) ht
    have xt : Ex H5 (upd H5 t (.tup [.str (k a), .str (v a)])) := Ex.new ht
    have tl' : ts.length ≤ 1000 := by
      have := Paired.length pr
      rw [List.length_map, List.length_take] at this
      omega
    refine ⟨ts.map V.ref, xt _ _ (x5 _ _ hd), by rw [List.length_map, sizeLine_eq]; omega, ?_, ts ++ [t], ?_, ?_⟩
    · intro b o hb
      have nb : b ≠ D := ne_of_none hb hD
      rw [upd_ne nb]
      exact xt _ _ (x5 _ _ (x3 _ _ hb))
    · rw [upd_same, List.map_append]
      rfl
    · rw [List.take_succ, ea, List.map_append]
      refine paired_snoc pr (fun a b h => ?_) ?_
      · have na : a ≠ D := fun z => by
          rw [z, hd] at h
          cases h
        rw [upd_ne na]
        exact xt _ _ (x5 _ _ h)
      · show upd _ D _ t = _
        rw [upd_ne nD.symm]
        exact upd_same
  · obtain ⟨x3, ts, hd, pr⟩ := c
    rw [List.take_length] at pr
    exact q _ H3 x3 ⟨D, ts, rfl, hd, pr⟩
theorem signsL_len (z : Str) : (signsL z).length = z.length := by
  unfold signsL
  rw [List.length_map]
  exact len_cps z
/-- over the signs of a text -/
theorem evp_prsS {z : Str} (k v : Str → Str) (hx : Ev tl σ H (.str z)) (hl : z.length ≤ 1000) (hw : ∀ x : V, wipe ((wipe σ vs).set j (some x)) vs = wipe σ vs)
    (h1 : ∀ (a : Str) (H1 : Hp), Ex H H1 → a ∈ signsL z → Ev t1 ((wipe σ vs).set j (some (.str a))) H1 (.str (k a))) (h2 : ∀ (a : Str) (H1 : Hp), Ex H H1 → a ∈ signsL z → Ev t2 ((wipe σ vs).set j (some (.str a))) H1 (.str (v a))) :
    EvP (tLc (iStr tl) (gName j) tYes (tTup (tCons t1 (tCons t2 tNil))) vs) σ H (IsI ((signsL z).map fun a => (k a, v a))) := fun H1 x1 Q q =>
  hx H1 x1 _ fun H2 x2 => ⟨z, rfl, fun D hD => by
    have w := walk_signsG (z := z)
    rw [List.length_map] at w
    exact lc_prs (H := H) (signsL z) V.str w (fun _ _ => trivial) (by rw [signsL_len]; exact hl) k v hw h1 h2 (x1.trans x2) hD fun p H3 x3 h => q p H3 (x2.trans x3) h⟩
/-- over a list of texts -/
theorem evp_prsL {zs : List Str} (k v : Str → Str) (hx : EvP tl σ H (IsSL zs)) (hl : zs.length ≤ 1000) (hw : ∀ x : V, wipe ((wipe σ vs).set j (some x)) vs = wipe σ vs)
    (h1 : ∀ (a : Str) (H1 : Hp), Ex H H1 → a ∈ zs → Ev t1 ((wipe σ vs).set j (some (.str a))) H1 (.str (k a))) (h2 : ∀ (a : Str) (H1 : Hp), Ex H H1 → a ∈ zs → Ev t2 ((wipe σ vs).set j (some (.str a))) H1 (.str (v a))) :
    EvP (tLc (iList K tl) (gName j) tYes (tTup (tCons t1 (tCons t2 tNil))) vs) σ H (IsI (zs.map fun a => (k a, v a))) := fun H1 x1 Q q =>
  hx H1 x1 _ fun u H2 x2 ⟨p, e, hp⟩ => ⟨p, e, ⟨_, sq_of hp⟩, fun D hD => by
    have w := walk_list (K := K) (a := p) (xs := zs.map V.str)
    rw [List.length_map] at w
    exact lc_prs (H := H2) zs V.str w (fun H3 x3 => sq_of (x3 _ _ hp)) hl k v hw (fun a H3 x3 => h1 a H3 ((x1.trans x2).trans x3)) (fun a H3 x3 => h2 a H3 ((x1.trans x2).trans x3)) (Ex.refl _) hD fun p H3 x3 h => q p H3 (x2.trans x3) h⟩
/-- over the keys of a dict that is locked -/
theorem evp_prsK {d : Addr} {o : Obj} {zs : List (Str × Str)} (k v : Str → Str) (hx : Ev tl σ H (.ref d)) (hd : H d = some (.frz o (.dK (kvG (kvS zs))))) (hl : zs.length ≤ 1000) (hw : ∀ x : V, wipe ((wipe σ vs).set j (some x)) vs = wipe σ vs)
    (h1 : ∀ (a : Str) (H1 : Hp), Ex H H1 → a ∈ zs.map (·.1) → Ev t1 ((wipe σ vs).set j (some (.str a))) H1 (.str (k a))) (h2 : ∀ (a : Str) (H1 : Hp), Ex H H1 → a ∈ zs.map (·.1) → Ev t2 ((wipe σ vs).set j (some (.str a))) H1 (.str (v a))) :
    EvP (tLc (iKeys tl) (gName j) tYes (tTup (tCons t1 (tCons t2 tNil))) vs) σ H (IsI ((zs.map (·.1)).map fun a => (k a, v a))) := fun H1 x1 Q q =>
  hx H1 x1 _ fun H2 x2 => ⟨d, o, rfl, .inl ⟨_, (x1.trans x2) _ _ hd, fun D hD => by
    have w := (walk_keys (d := d) (o := o) (kvs := kvG (kvS zs))).mono (G' := fun H => H d = some (.frz o (.dK (kvG (kvS zs))))) (Y' := YAt ((zs.map (·.1)).map V.str)) (fun _ h => h) fun i H3 x H4 hi h y => by
      obtain ⟨e, kk, vv, e2, e3⟩ := y
      refine ⟨e, ?_⟩
      have m : ((kvG (kvS zs)).map fun q => kV q.1)[i]? = some x := by
        rw [List.getElem?_map, e2, e3]
        rfl
      have e4 : (kvG (kvS zs)).map (fun q => kV q.1) = (zs.map (·.1)).map V.str := by
        have := congrArg (List.map kV) (kvS_keys zs)
        rw [List.map_map, List.map_map] at this
        exact this
      rw [e4] at m
      exact m
    rw [kvS_len, ← List.length_map (f := fun q : Str × Str => q.1)] at w
    exact lc_prs (H := H) (zs.map (·.1)) V.str w (fun H3 x3 => x3 _ _ hd) (by rw [List.length_map]; exact hl) k v hw h1 h2 (x1.trans x2) hD fun p H3 x3 h => q p H3 (x2.trans x3) h⟩⟩
/-- over numbers from 0 -/
theorem evp_prsR {ta : TA} {n : Nat} (k v : Nat → Str) (hx : EvA ta σ H [.int (n : Int)]) (hl : n ≤ 1000) (hw : ∀ x : V, wipe ((wipe σ vs).set j (some x)) vs = wipe σ vs)
    (h1 : ∀ (a : Nat) (H1 : Hp), Ex H H1 → a < n → Ev t1 ((wipe σ vs).set j (some (.int (a : Int)))) H1 (.str (k a))) (h2 : ∀ (a : Nat) (H1 : Hp), Ex H H1 → a < n → Ev t2 ((wipe σ vs).set j (some (.int (a : Int)))) H1 (.str (v a))) :
    EvP (tLc (iRng1 ta) (gName j) tYes (tTup (tCons t1 (tCons t2 tNil))) vs) σ H (IsI ((List.range n).map fun a => (k a, v a))) := fun H1 x1 Q q =>
  hx H1 x1 _ fun H2 x2 => ⟨(n : Int), rfl, by omega, by omega, fun D hD => by
    have w := (walk_range (lo := 0) (n := n)).mono (G' := fun _ => True) (Y' := YAt ((List.range n).map fun i => V.int ((i : Nat) : Int))) (fun _ h => h) fun i H3 x H4 hi h y => by
      obtain ⟨e, e2⟩ := y
      refine ⟨e, ?_⟩
      rw [List.getElem?_map, List.getElem?_range hi, e2]
      show some (V.int (i : Int)) = some (V.int (0 + (i : Int)))
      rw [Int.zero_add]
    have e : (n : Int).toNat = n := by omega
    rw [e]
    have w2 : Walk (Itr 0 n) (List.range n).length (fun _ => True) (YAt ((List.range n).map fun i => V.int ((i : Nat) : Int))) := by
      rw [List.length_range]
      exact w
    have z := lc_prs (H := H) (Q := Q) (List.range n) (fun i => V.int ((i : Nat) : Int)) w2 (fun _ _ => trivial) (by rw [List.length_range]; exact hl) k v hw (fun a H3 x3 m => h1 a H3 x3 (List.mem_range.mp m)) (fun a H3 x3 m => h2 a H3 x3 (List.mem_range.mp m)) (x1.trans x2) hD fun p H3 x3 h => q p H3 (x2.trans x3) h
    exact z⟩
theorem evp_lockE {P : V → Hp → Prop} {d : Addr} {u : HO} (hd : H d = some u) (m : Mut (some u)) (un : ∀ od v H', H' d = some (.frz od u) → P v H' → P v (upd H' d u)) (h : ∀ od H1, Ex H H1 → EvP tl σ (upd H1 d (.frz od u)) P) : EvP (tLockE tl) σ H P := fun H1 x1 Q q =>
  ⟨d, u, x1 _ _ hd, m, fun od => h od H1 x1 _ (Ex.refl _) _ fun v H2 x2 p => ⟨x2 _ _ upd_same, q v (upd H2 d u) (fun b o hb => by
    by_cases e : b = d
    · rw [e, upd_same]
      rw [e, x1 _ _ hd] at hb
      exact hb
    · rw [upd_ne e]
      exact x2 _ _ (by rw [upd_ne e]; exact hb)) (un od v H2 (x2 _ _ upd_same) p)⟩⟩
abbrev rDictP (K : PySem.W.Frag) : List V → Hp → VK → Prop := fun xs H Q => ∃ (a : Addr) (ps : List Addr) (kvs : List (Key × V)), xs = [V.ref a] ∧ SqL K H a (ps.map V.ref) ∧ Paired (fun p kv => SqT K H p [kV kv.1, kv.2]) ps kvs ∧
    ∀ p : Addr, H p = none → Q (V.ref p) (upd H p (.dK (mergeK [] kvs)))
theorem pairs_kv {H : Hp} {ts : List Addr} {qs : List (Str × Str)} (h : Paired (fun (t : Addr) (q : Str × Str) => H t = some (.tup [V.str q.1, V.str q.2])) ts qs) : Paired (fun p (kv : Key × V) => SqT K H p [kV kv.1, kv.2]) ts (kvG (kvS qs)) := by
  induction h with
  | nil => exact .nil
  | cons a b ih => exact .cons (st_of a) ih
/-- dict(list of pairs) -/
theorem evp_dict (nd : (qs.map (·.1)).Nodup) (h : EvP tl σ H (IsI qs)) : EvP (tCB (rDictP K) (tCons tl tNil)) σ H (IsW qs) := fun H1 x1 Q q => h H1 x1 _ fun u H2 x2 ⟨l, ts, e, hl, pr⟩ => by
  subst e
  refine ⟨l, ts, kvG (kvS qs), rfl, sq_of hl, pairs_kv pr, fun p hp => ?_⟩
  rw [merge_kvS nd]
  exact q _ _ (x2.trans (Ex.new hp)) ⟨p, rfl, upd_same⟩
end
end K02

set_option Elab.async false
set_option linter.all false
set_option maxRecDepth 100000
set_option maxHeartbeats 4000000
/-! Drawn codes: maths -/
namespace K02
open PySem PySem.Spec PyProof.Rows L2 Evl KU
theorem nd_idx {α : Type} : ∀ {l : List α} {i j : Nat} {x : α}, l.Nodup → l[i]? = some x → l[j]? = some x → i = j
  | [], i, _, _, _, h, _ => by simp at h
  | a :: r, 0, 0, _, _, _, _ => rfl
  | a :: r, 0, j + 1, x, nd, h1, h2 => by
    rw [List.nodup_cons] at nd
    have e : a = x := by simpa using h1
    rw [List.getElem?_cons_succ] at h2
    rw [e] at nd
    exact absurd (List.mem_of_getElem? h2) nd.1
  | a :: r, i + 1, 0, x, nd, h1, h2 => by
    rw [List.nodup_cons] at nd
    have e : a = x := by simpa using h2
    rw [List.getElem?_cons_succ] at h1
    rw [e] at nd
    exact absurd (List.mem_of_getElem? h1) nd.1
  | a :: r, i + 1, j + 1, x, nd, h1, h2 => by
    rw [List.nodup_cons] at nd
    rw [List.getElem?_cons_succ] at h1 h2
    rw [nd_idx nd.2 h1 h2]
/-- the alphabets that these laws draw -/
def alphM : List Str := ["01", "012", "abz", "0az", "wxyz", "19", "7"]
theorem alphM_facts : ∀ al ∈ alphM, al.cps.toList.Nodup ∧ 1 ≤ al.length ∧ al.length ≤ 4 ∧ (∀ c ∈ al.cps.toList, c < 128 ∧ inS ⟨#[c]⟩ sSIGNS = true) := by decide +kernel
theorem signs_nd {al : Str} (h : al.cps.toList.Nodup) : (signsL al).Nodup := List.pairwise_map.mpr (h.imp fun ne e => ne (by
  have := congrArg (fun t : Str => t.cps.toList) e
  simpa using this))
theorem sign_of {al s : Str} (h : s ∈ signsL al) : ∃ c ∈ al.cps.toList, s = ⟨#[c]⟩ := by
  obtain ⟨c, hc, rfl⟩ := List.mem_map.mp h
  exact ⟨c, hc, rfl⟩
theorem sign_cps {al s : Str} (h : s ∈ signsL al) : ∃ c ∈ al.cps.toList, s.cps.toList = [c] := by
  obtain ⟨c, hc, rfl⟩ := sign_of h
  exact ⟨c, hc, rfl⟩
theorem sign_over {al s : Str} (h : s ∈ signsL al) : Over al s ∧ s.length = 1 := by
  obtain ⟨c, hc, rfl⟩ := sign_of h
  exact ⟨fun d hd => by rw [show d = c by simpa using hd]; exact hc, rfl⟩
theorem over_cat {al a b : Str} (ha : Over al a) (hb : Over al b) : Over al (a ++ b) := fun c hc => by
  rw [cat_cps] at hc
  rcases List.mem_append.mp hc with h | h
  · exact ha c h
  · exact hb c h
theorem cat_len (a b : Str) : (a ++ b).length = a.length + b.length := by
  rw [← len_cps, cat_cps, List.length_append, len_cps, len_cps]
/-- a drawn code of these signs -/
structure CodeD (al : Str) (ws : List (Str × Str)) : Prop where
  keys : (ws.map (·.1)).Perm (signsL al)
  over : ∀ q ∈ ws, Over al q.2
  len : ∀ q ∈ ws, 1 ≤ q.2.length ∧ q.2.length ≤ 3
  pf : ∀ p ∈ ws, ∀ q ∈ ws, p.1 ≠ q.1 → ¬ p.2.cps.toList <+: q.2.cps.toList
theorem cut3 {w : Str} (h : w.length ≤ 3) : cutS w none (some 3) = w := by
  refine str_eq ?_
  unfold cutS
  show List.take (HT.sIx w.length w.length (some (3 : Int)) - 0) (List.drop 0 w.cps.toList) = _
  have e : HT.sIx w.length w.length (some (3 : Int)) = w.length := by
    unfold HT.sIx
    show (if (3 : Int) < 0 then ((3 : Int) + (w.length : Int)).toNat else min ((3 : Int).toNat) w.length) = w.length
    rw [if_neg (by omega)]
    omega
  rw [e, List.drop_zero]
  refine List.take_of_length_le ?_
  rw [len_cps]
  omega
theorem codeD_again {al : Str} {F : List (Str × Str)} (C : CodeD al F) (nd : (signsL al).Nodup) {ys : List Str} (pm : ys.Perm (F.map (·.1))) : CodeD al (ys.map fun k => (k, wOf F k)) := by
  have mem : ∀ q ∈ ys.map (fun k => (k, wOf F k)), q ∈ F := fun q hq => by
    obtain ⟨k, hk, rfl⟩ := List.mem_map.mp hq
    exact wOf_mem (pm.mem_iff.mp hk)
  refine ⟨?_, fun q hq => C.over q (mem q hq), fun q hq => C.len q (mem q hq), fun p hp q hq => C.pf p (mem p hp) q (mem q hq)⟩
  rw [List.map_map]
  have e : ((fun q : Str × Str => q.1) ∘ fun k => (k, wOf F k)) = fun k => k := rfl
  rw [e, List.map_id']
  exact pm.trans C.keys
theorem heads_pf {ws : List (Str × Str)} (h : ∀ q ∈ ws, ∃ c r, q.1 = (⟨#[c]⟩ : Str) ∧ q.2.cps.toList = c :: r) : ∀ p ∈ ws, ∀ q ∈ ws, p.1 ≠ q.1 → ¬ p.2.cps.toList <+: q.2.cps.toList := fun p hp q hq ne pre => by
  obtain ⟨c, r, e1, e2⟩ := h p hp
  obtain ⟨d, s, e3, e4⟩ := h q hq
  rw [e2, e4, List.cons_prefix_cons] at pre
  exact ne (by rw [e1, e3, pre.1])
theorem keys_map {al : Str} (f : Str → Str) : (((signsL al).map fun s => (s, f s)).map (·.1)) = signsL al := by
  rw [List.map_map]
  exact List.map_id' _
theorem way0 {al : Str} : CodeD al ((signsL al).map fun s => (s, s)) := by
  refine ⟨by rw [keys_map fun s => s], fun q hq => ?_, fun q hq => ?_, heads_pf fun q hq => ?_⟩
  all_goals
    obtain ⟨s, hs, rfl⟩ := List.mem_map.mp hq
    obtain ⟨o, l⟩ := sign_over hs
  · exact o
  · exact ⟨by show 1 ≤ s.length; omega, by show s.length ≤ 3; omega⟩
  · obtain ⟨c, hc, rfl⟩ := sign_of hs
    exact ⟨c, [], rfl, rfl⟩
theorem way1 {al a : Str} (ha : a ∈ signsL al) : CodeD al ((signsL al).map fun s => (s, a ++ s)) := by
  obtain ⟨oa, la⟩ := sign_over ha
  refine ⟨by rw [keys_map fun s => a ++ s], fun q hq => ?_, fun q hq => ?_, fun p hp q hq ne pre => ?_⟩
  · obtain ⟨s, hs, rfl⟩ := List.mem_map.mp hq
    exact over_cat oa (sign_over hs).1
  · obtain ⟨s, hs, rfl⟩ := List.mem_map.mp hq
    have l := (sign_over hs).2
    exact ⟨by show 1 ≤ (a ++ s).length; rw [cat_len]; omega, by show (a ++ s).length ≤ 3; rw [cat_len]; omega⟩
  · obtain ⟨s, hs, rfl⟩ := List.mem_map.mp hp
    obtain ⟨t, ht, rfl⟩ := List.mem_map.mp hq
    obtain ⟨c, hc, rfl⟩ := sign_of hs
    obtain ⟨d, hd, rfl⟩ := sign_of ht
    obtain ⟨e, he, rfl⟩ := sign_of ha
    have p1 : [e, c] <+: [e, d] := pre
    rw [List.cons_prefix_cons, List.cons_prefix_cons] at p1
    exact ne (by show (⟨#[c]⟩ : Str) = ⟨#[d]⟩; rw [p1.2.1])
/-- a <= b -/
def leB (a b : Str) : Bool := !decide (b.cps.toList < a.cps.toList)
theorem leB_refl (a : Str) : leB a a = true := by
  unfold leB
  rw [decide_eq_false (List.lt_irrefl _)]
  rfl
theorem way2 {al a : Str} (ha : a ∈ signsL al) : CodeD al ((signsL al).map fun s => (s, if leB s a = true then a ++ s else s)) := by
  obtain ⟨oa, la⟩ := sign_over ha
  refine ⟨by rw [keys_map fun s => if leB s a = true then a ++ s else s], fun q hq => ?_, fun q hq => ?_, fun p hp q hq ne pre => ?_⟩
  · obtain ⟨s, hs, rfl⟩ := List.mem_map.mp hq
    show Over al (if leB s a = true then a ++ s else s)
    split
    · exact over_cat oa (sign_over hs).1
    · exact (sign_over hs).1
  · obtain ⟨s, hs, rfl⟩ := List.mem_map.mp hq
    have l := (sign_over hs).2
    show 1 ≤ (if leB s a = true then a ++ s else s).length ∧ (if leB s a = true then a ++ s else s).length ≤ 3
    split
    · rw [cat_len]
      omega
    · omega
  · obtain ⟨s, hs, rfl⟩ := List.mem_map.mp hp
    obtain ⟨t, ht, rfl⟩ := List.mem_map.mp hq
    have ne : s ≠ t := ne
    have pre : (if leB s a = true then a ++ s else s).cps.toList <+: (if leB t a = true then a ++ t else t).cps.toList := pre
    by_cases h1 : leB s a = true
    · rw [if_pos h1] at pre
      by_cases h2 : leB t a = true
      · rw [if_pos h2] at pre
        obtain ⟨c, hc, rfl⟩ := sign_of hs
        obtain ⟨d, hd, rfl⟩ := sign_of ht
        obtain ⟨e, he, rfl⟩ := sign_of ha
        have p1 : [e, c] <+: [e, d] := pre
        rw [List.cons_prefix_cons, List.cons_prefix_cons] at p1
        exact ne (by rw [p1.2.1])
      · rw [if_neg h2] at pre
        have := pre.length_le
        rw [len_cps, len_cps, cat_len, (sign_over hs).2, (sign_over ht).2, la] at this
        omega
    · rw [if_neg h1] at pre
      by_cases h2 : leB t a = true
      · rw [if_pos h2] at pre
        obtain ⟨c, hc, rfl⟩ := sign_of hs
        obtain ⟨d, hd, rfl⟩ := sign_of ht
        obtain ⟨e, he, rfl⟩ := sign_of ha
        have p1 : [c] <+: [e, d] := pre
        rw [List.cons_prefix_cons] at p1
        rw [p1.1] at h1
        exact h1 (leB_refl _)
      · rw [if_neg h2] at pre
        obtain ⟨c, hc, rfl⟩ := sign_of hs
        obtain ⟨d, hd, rfl⟩ := sign_of ht
        have p1 : [c] <+: [d] := pre
        rw [List.cons_prefix_cons] at p1
        exact ne (by rw [p1.1])
/-- put again what is there -/
theorem setS_same {qs : List (Str × Str)} {k a : Str} (h : ∀ q ∈ qs, q.1 = k → q.2 = a) : setS qs k a = qs := by
  unfold setS
  conv => rhs; rw [← List.map_id qs]
  refine List.map_congr_left fun q hq => ?_
  show (if q.1 = k then (q.1, a) else q) = q
  by_cases e : q.1 = k
  · rw [if_pos e, ← h q hq e]
  · rw [if_neg e]
/-- words that begin with their own signs -/
structure Own (al : Str) (ws : List (Str × Str)) : Prop where
  own : ∀ q ∈ ws, ∃ c r, q.1 = (⟨#[c]⟩ : Str) ∧ q.2.cps.toList = c :: r
  over : ∀ q ∈ ws, Over al q.2
  len : ∀ q ∈ ws, q.2.length ≤ 3
theorem Own.nil {al : Str} : Own al [] := ⟨fun _ h => absurd h List.not_mem_nil, fun _ h => absurd h List.not_mem_nil, fun _ h => absurd h List.not_mem_nil⟩
theorem Own.snoc {al : Str} {ws : List (Str × Str)} {s r : Str} (O : Own al ws) (hs : s ∈ signsL al) (hr : Over al r) (l : r.length ≤ 2) : Own al (ws ++ [(s, s ++ r)]) := by
  obtain ⟨os, ls⟩ := sign_over hs
  have at_ : ∀ {P : Str × Str → Prop}, (∀ q ∈ ws, P q) → P (s, s ++ r) → ∀ q ∈ ws ++ [(s, s ++ r)], P q := fun h1 h2 q hq => by
    rcases List.mem_append.mp hq with h | h
    · exact h1 q h
    · rw [List.mem_singleton.mp h]
      exact h2
  refine ⟨at_ O.own ?_, at_ O.over (over_cat os hr), at_ O.len ?_⟩
  · obtain ⟨c, hc, rfl⟩ := sign_of hs
    exact ⟨c, r.cps.toList, rfl, by show ((⟨#[c]⟩ : Str) ++ r).cps.toList = _; rw [cat_cps]; rfl⟩
  · show (s ++ r).length ≤ 3
    rw [cat_len]
    omega
theorem Own.code {al : Str} {ws : List (Str × Str)} (O : Own al ws) (h : (ws.map (·.1)).Perm (signsL al)) : CodeD al ws :=
  ⟨h, O.over, fun q hq => ⟨by
    obtain ⟨c, r, _, e⟩ := O.own q hq
    rw [← len_cps, e]
    exact Nat.succ_le_succ (Nat.zero_le _), O.len q hq⟩, heads_pf O.own⟩
end K02

set_option Elab.async false
set_option linter.all false
set_option maxRecDepth 100000
set_option maxHeartbeats 4000000
/-! `_law_code`: a code drawn -/
namespace K02
open PySem PySem.Spec PyProof.Rows L2 Evl KU
abbrev nLCode : List Str := ["_law_pen_here", "_law_signs", "_law_way", "_law_found", "_law_ahead", "_law_own", "_law_left", "_law_at", "_law_tail", "_law_sign"]
theorem scLCode : FnScope nLCode ["_law_pen_here", "_law_signs"] (defScope sLCode) := ⟨rfl, rfl, rfl, by decide +kernel, rfl, by decide +kernel, by decide +kernel⟩
abbrev rLeS : R2 := fun x y H Q => ∃ i j : Str, x = .str i ∧ y = .str j ∧ Q (.bl (!decide (j.cps.toList < i.cps.toList))) H
theorem op_leS {X : Cx} : OpR X (compareOp .LtE) rLeS := op_le_str
abbrev rListD (K : PySem.W.Frag) : List V → Hp → VK → Prop := fun xs H Q => ∃ (a : Addr) (kvs : List (Key × V)), xs = [.ref a] ∧ Rd H a (.dK kvs) ∧ ∀ p : Addr, H p = none → Q (.ref p) (upd H p (.lst (kvs.map fun kv => kV kv.1)))
abbrev rAddS : R2 := fun x y H Q => ∃ i j : Str, x = .str i ∧ y = .str j ∧ i.length + j.length ≤ sizeLine ∧ Q (.str (i ++ j)) H
theorem ev_cat {σ : L2.St} {H : Hp} {ta tb : TE} {a b : Str} (ha : Ev ta σ H (.str a)) (hb : Ev tb σ H (.str b)) (l : a.length + b.length ≤ 1000) : Ev (tOp rAddS ta tb) σ H (.str (a ++ b)) := ev_op ha hb fun H1 x1 Q q => ⟨a, b, rfl, rfl, by rw [sizeLine_eq]; omega, q H1 (Ex.refl _)⟩
theorem ev_leS {σ : L2.St} {H : Hp} {ta tb : TE} {a b : Str} (ha : Ev ta σ H (.str a)) (hb : Ev tb σ H (.str b)) : Ev (tOp rLeS ta tb) σ H (.bl (leB a b)) := ev_op ha hb fun H1 x1 Q q => ⟨a, b, rfl, rfl, q H1 (Ex.refl _)⟩
def spLCode : Sp := fun vs H Q _ => ∃ (P L : Addr) (ns : List Int) (s : Nat) (g : Int) (al : Str), vs = [.ref P, .str al] ∧ al ∈ alphM ∧ Pen H P L ns s g ∧ s ≤ 80000 ∧
  ∀ (p : Addr) (ws : List (Str × Str)) (s' : Nat) (g' : Int) (H' : Hp), CodeD al ws → s' ≤ s + 20 → But P H H' → H' p = some (.dK (kvG (kvS ws))) → Pen H' P L ns s' g' → Q (.ref p) H'
section
variable {P : Program} {w : World} {K : PySem.W.Frag} {mg : Str → Option Value} {base : Heap}
theorem ok_lcode {f fD fP fM : Addr} {fd fdD fdP fdM : FuncData} (F : Fun K "_law_code" "_law_code" sLCode f fd) (T : Draws K mg fD fP) (FD : Fun K "_law_draw" "_law_draw" sDraw fD fdD) (bD : Binds K fdD ["_law_pen_here", "_law_many"] []) (FP : Fun K "_law_pick" "_law_pick" sPick fP fdP) (bP : Binds K fdP ["_law_pen_here", "_law_some"] [])
    (FM : Fun K "_law_mixed" "_law_mixed" sMixed fM fdM) (bM : Binds K fdM ["_law_pen_here", "_law_some"] []) (gM : mg "_law_mixed" = some (.ref fM)) (kM : PySem.W.keepIn K (.ref fM) = true) (gDict : mg "dict" = none) : FnOk P w K mg base CX0 3 f fd ["_law_pen_here", "_law_signs"] spLCode := by
  have GD : FnOk P w K mg base CX0 1 fD fdD ["_law_pen_here", "_law_many"] spDraw := ok_draw FD T.toFree
  have GP : FnOk P w K mg base CX0 2 fP fdP ["_law_pen_here", "_law_some"] spPick := ok_pick FP T FD bD
  have GPS : FnOk P w K mg base CX0 2 fP fdP ["_law_pen_here", "_law_some"] spPickS := ok_pickS FP T FD bD
  have GM : FnOk P w K mg base CX0 2 fM fdM ["_law_pen_here", "_law_some"] spMixed := ok_mixed FM T FD bD
  refine F.ok scLCode (fun vs H Q E h => ?_) (fun cdv A outer s H vs Q E hr h => ?_)
  · obtain ⟨_, _, _, _, _, _, rfl, _⟩ := h
    rfl
  · obtain ⟨Pn, L, ns, s0, g0, al, rfl, hal, pen, hs, k⟩ := h
    have nd := scLCode.nd
    refine ⟨_, pss_cons (ps_asg (pe_tup (pa_cons (pe_call GD (hr.mono (by decide)) (by rfl) T.gDraw T.kDraw bD .nil pass0 (pa_cons (pv 0) (pa_cons pe_int pa_nil))) (pa_cons pe_dnewK pa_nil))) (pg_tup (by rfl) (pgs_cons (pg_name (i := 2) nd rfl (.inl rfl)) (pgs_cons (pg_name (i := 3) nd rfl (.inr rfl)) pgs_nil))))
      (pss_cons (ps_if (pt_cmpR op_eq (pv 2) pe_int (nomark _)) (pss_one (ps_set (i := 3) nd rfl (.inr rfl) (pe_callTy (r := rDictP K) (by exact call_dictP rfl) (by rfl) gDict (by decide +kernel) (pa_cons (pe_lc (own := [("_law_sign", 9)]) (wi := iStr (tVar 1)) (g := gName 9) (tt := tYes) rfl nd (by exact pi_str (pv 1)) (by refine blkOk_by (own := [("_law_sign", 9)]) (N := nLCode) (sc := defScope sLCode) ?_; decide +kernel)
        (fun _ _ _ _ _ => pg_name (i := 9) nd rfl (Or.inl rfl)) (fun _ _ _ _ _ => pts_nil) (fun _ _ _ _ _ => (pe_tup (pa_cons (pv 9) (pa_cons (pv 9) pa_nil))))) pa_nil)))) (pss_one (ps_if (pt_cmpR op_eq (pv 2) pe_int (nomark _)) (pss_cons (ps_set (i := 4) nd rfl (.inr rfl) (pe_call GPS (hr.mono (by decide)) (by rfl) T.gPick T.kPick bP .nil pass0 (pa_cons (pv 0) (pa_cons (pv 1) pa_nil))))
      (pss_one (ps_set (i := 3) nd rfl (.inr rfl) (pe_callTy (r := rDictP K) (by exact call_dictP rfl) (by rfl) gDict (by decide +kernel) (pa_cons (pe_lc (own := [("_law_sign", 9)]) (wi := iStr (tVar 1)) (g := gName 9) (tt := tYes) rfl nd (by exact pi_str (pv 1)) (by refine blkOk_by (own := [("_law_sign", 9)]) (N := nLCode) (sc := defScope sLCode) ?_; decide +kernel)
        (fun _ _ _ _ _ => pg_name (i := 9) nd rfl (Or.inl rfl)) (fun _ _ _ _ _ => pts_nil) (fun _ _ _ _ _ => (pe_tup (pa_cons (pv 9) (pa_cons (pe_op op_add_str (pv 4) (pv 9)) pa_nil))))) pa_nil))))) (pss_one (ps_if (pt_cmpR op_eq (pv 2) pe_int (nomark _)) (pss_cons (ps_set (i := 5) nd rfl (.inr rfl) (pe_call GPS (hr.mono (by decide)) (by rfl) T.gPick T.kPick bP .nil pass0 (pa_cons (pv 0) (pa_cons (pv 1) pa_nil))))
      (pss_cons (ps_set (i := 3) nd rfl (.inr rfl) (pe_callTy (r := rDictP K) (by exact call_dictP rfl) (by rfl) gDict (by decide +kernel) (pa_cons (pe_lc (own := [("_law_sign", 9)]) (wi := iStr (tVar 1)) (g := gName 9) (tt := tYes) rfl nd (by exact pi_str (pv 1)) (by refine blkOk_by (own := [("_law_sign", 9)]) (N := nLCode) (sc := defScope sLCode) ?_; decide +kernel)
        (fun _ _ _ _ _ => pg_name (i := 9) nd rfl (Or.inl rfl)) (fun _ _ _ _ _ => pts_nil) (fun _ _ _ _ _ => (pe_tup (pa_cons (pv 9) (pa_cons (pe_ifExp (pt_cmpR op_leS (pv 9) (pv 5) (nomark _)) (pe_op op_add_str (pv 5) (pv 9)) (pv 9)) pa_nil))))) pa_nil)))
      (pss_one (ps_asg (pe_op op_add_str (pv 5) (pv 5)) (pg_sub (pv 3) (pv 5) (set_dict (hu_of hr))))))) (pss_cons (ps_set (i := 6) nd rfl (.inl rfl) (pe_call GM (hr.mono (by decide)) (by rfl) gM kM bM .nil pass0 (pa_cons (pv 0) (pa_cons (pv 1) pa_nil))))
      (pss_one (ps_for PassesOwn.never rfl (pi_range1 rfl T.range (pa_cons (pe_callB call_len_str (by rfl) T.len PySem.boot_len (pa_cons (pv 1) pa_nil)) pa_nil)) (pg_name (i := 7) nd rfl (.inl rfl))
      (pss_cons (ps_set (i := 8) nd rfl (.inl rfl) (pe_ifExp (pt_cmpR op_lt (pv 7) (pe_op op_sub (pe_callB call_len_str (by rfl) T.len PySem.boot_len (pa_cons (pv 1) pa_nil)) pe_int) (nomark _)) pe_str (pe_call GP (hr.mono (by decide)) (by rfl) T.gPick T.kPick bP .nil pass0 (pa_cons (pv 0) (pa_cons (pe_lst (pa_cons pe_str (pa_cons (pe_ix (r := rIxL K) (by exact ix_list) (pv 6) pe_int (fun _ _ => rfl)) pa_nil))) pa_nil)))))
      (pss_one (ps_asg (pe_op op_add_str (pe_op op_add_str (pe_ix (r := rIxL K) (by exact ix_list) (pv 6) (pv 7) (fun _ _ => rfl)) (pv 8)) (pe_call GP (hr.mono (by decide)) (by rfl) T.gPick T.kPick bP .nil pass0 (pa_cons (pv 0) (pa_cons (pe_lst (pa_cons pe_str (pa_cons pe_str (pa_cons (pe_ix (r := rIxL K) (by exact ix_list) (pv 6) pe_int (fun _ _ => rfl)) pa_nil)))) pa_nil)))) (pg_sub (pv 3) (pe_ix (r := rIxL K) (by exact ix_list) (pv 6) (pv 7) (fun _ _ => rfl)) (set_dict (hu_of hr))))))))))))))
      (pss_one (ps_ret (pe_callTy (r := rDictP K) (by exact call_dictP rfl) (by rfl) gDict (by decide +kernel) (pa_cons (pe_lc (own := [("_law_sign", 9)]) (wi := iList K (tCall spMixed [] E0 (tCons (tVar 0) (tCons (tCB (rListD K) (tCons (tVar 3) tNil)) tNil)))) (g := gName 9) (tt := tYes) rfl nd (by exact pi_list (pe_call GM (hr.mono (by decide)) (by rfl) gM kM bM .nil pass0 (pa_cons (pv 0) (pa_cons (pe_callTy (r := rListD K) (by exact call_listD rfl) (by rfl) T.list (by decide +kernel) (pa_cons (pv 3) pa_nil)) pa_nil)))) (by refine blkOk_by (own := [("_law_sign", 9)]) (N := nLCode) (sc := defScope sLCode) ?_; decide +kernel)
        (fun _ _ _ _ _ => pg_name (i := 9) nd rfl (Or.inl rfl)) (fun _ _ _ _ _ => pts_nil) (fun _ _ _ _ _ => (pe_tup (pa_cons (pv 9) (pa_cons (pe_slice sl_str (pe_dget (hu_of hr) (pv 3) (pv 9) (fun _ _ => rfl)) po_none (po_some pe_int)) pa_nil))))) pa_nil))))), ?_⟩
    obtain ⟨and_, al1, al4, chars⟩ := alphM_facts al hal
    have snd := signs_nd and_
    have sl := signsL_len al
    have sok : ∀ t ∈ signsL al, PyData.strOk t = true := fun t ht => by
      obtain ⟨c, hc, rfl⟩ := sign_of ht
      have := (chars c hc).1
      unfold PyData.strOk
      show ([c] : List Nat).toArray.all _ = true
      simp
      omega
    -- the end, from a code that was found
    have fin : ∀ (σ : L2.St) (p : Addr) (F : List (Str × Str)) (s1 : Nat) (g1 : Int) (H1 : Hp), σ.length = 10 → σ[0]? = some (some (.ref Pn)) → σ[3]? = some (some (.ref p)) → H1 p = some (.dK (kvG (kvS F))) → CodeD al F → But Pn H H1 → Pen H1 Pn L ns s1 g1 → s1 ≤ s0 + 14 → ∀ D : L2.Ends, D.rt = Q →
        tRet (tCB (rDictP K) (tCons (tLc (iList K (tCall spMixed [] E0 (tCons (tVar 0) (tCons (tCB (rListD K) (tCons (tVar 3) tNil)) tNil)))) (gName 9) tYes (tTup (tCons (tVar 9) (tCons (tSl rSlS (tDGet (tVar 3) (tVar 9)) tNoPart (tPart (tC (.int 3)))) tNil))) [9]) tNil)) D σ H1 := by
      intro σ p F s1 g1 H1 hl h0 h3 hp C b1 pen1 hs1 D hD
      have pP : p ≠ Pn := fun z => by
        rw [z, pen1.pen] at hp
        cases hp
      have kl : (F.map (·.1)).length = al.length := by
        rw [C.keys.length_eq]
        exact sl
      refine (?_ : tCall spMixed [] E0 (tCons (tVar 0) (tCons (tCB (rListD K) (tCons (tVar 3) tNil)) tNil)) σ H1 (fun u H3 => tCB (rDictP K) (tCons (tLc (iList K (fun _ H Q => Q u H)) (gName 9) tYes (tTup (tCons (tVar 9) (tCons (tSl rSlS (tDGet (tVar 3) (tVar 9)) tNoPart (tPart (tC (.int 3)))) tNil))) [9]) tNil) σ H3 D.rt))
      refine ⟨_, h0, _, h3, p, _, rfl, .inl hp, fun l hl' => ?_⟩
      have x2 : Ex H1 (upd H1 l (.lst ((kvG (kvS F)).map fun kv => kV kv.1))) := Ex.new hl'
      have e2 : upd H1 l (.lst ((kvG (kvS F)).map fun kv => kV kv.1)) l = some (.lst ((F.map (·.1)).map V.str)) := by
        rw [upd_same]
        have := congrArg (List.map kV) (kvS_keys F)
        rw [List.map_map, List.map_map] at this
        exact congrArg (fun z => some (HO.lst z)) this
      refine ⟨Pn, L, ns, s1, g1, .ref l, F.map (·.1), rfl, .inr ⟨l, rfl, e2⟩, by omega, fun t ht => sok t (C.keys.mem_iff.mp ht), pen1.mono x2, by omega, fun q ys s3 g3 H3 pm hq hs3 but3 eq pen3 => ?_⟩
      have b3 : But Pn H H3 := (b1.trans (But.of_ex x2)).trans but3
      have hp3 : H3 p = some (.dK (kvG (kvS F))) := but3 _ _ pP (x2 _ _ hp)
      have yl : ys.length = al.length := by rw [pm.length_eq, kl]
      have C' := codeD_again C snd pm
      have y := evp_prsL (K := K) (σ := σ) (H := H3) (j := 9) (vs := [9]) (t1 := tVar 9) (t2 := tSl rSlS (tDGet (tVar 3) (tVar 9)) tNoPart (tPart (tC (.int 3)))) (tl := fun _ H Q => Q (.ref q) H) (zs := ys) (fun k => k) (fun k => wOf F k) (fun H4 x4 Q4 q4 => q4 _ H4 (Ex.refl _) ⟨q, rfl, x4 _ _ eq⟩) (by omega)
        (fun x => by
          match σ, hl with
          | [_, _, _, _, _, _, _, _, _, _], _ => rfl)
        (fun a H4 x4 ha => by
          match σ, hl with
          | [_, _, _, _, _, _, _, _, _, _], _ => exact ev_var rfl)
        (fun a H4 x4 ha => by
          have ka := pm.mem_iff.mp ha
          have lw : (wOf F a).length ≤ 3 := (C.len _ (wOf_mem ka)).2
          match σ, hl, h3 with
          | [v0, v1, v2, v3, v4, v5, v6, v7, v8, v9], _, h3 =>
            intro H5 x5 Q5 q5
            refine (ev_dget (σ := (wipe [v0, v1, v2, v3, v4, v5, v6, v7, v8, v9] [9]).set 9 (some (.str a))) (k := Sum.inr a) (ev_var h3) (ev_var (i := 9) (v := .str a) rfl) (x4 _ _ hp3) (val_of ka)) H5 x5 _ fun H6 x6 => ?_
            refine ⟨_, rfl, _, rfl, by rw [sizeLine_eq]; show (wOf F a).length ≤ _; omega, ?_⟩
            rw [cut3 lw]
            exact q5 H6 x6)
      have ndk : ((ys.map fun k => (k, wOf F k)).map (·.1)).Nodup := by
        rw [C'.keys.nodup_iff]
        exact snd
      refine evp_dict (K := K) ndk y H3 (Ex.refl _) _ fun u H4 x4 ⟨r, eu, hr4⟩ => ?_
      subst eu
      rw [hD]
      exact k r _ s3 g3 H4 C' (by omega) (b3.trans (But.of_ex x4)) hr4 (pen3.mono x4)
    -- the way
    refine (?_ : tAsg _ _ _ _ H)
    refine (?_ : tTup _ _ H _)
    refine (?_ : tCons _ _ _ H _)
    refine ⟨_, rfl, Pn, L, ns, s0, g0, 4, rfl, by decide, by decide, pen, by omega, fun d s1 g1 H1 hd hs1 but1 pen1 => ?_⟩
    refine (?_ : tCons _ _ _ H1 _)
    intro p hp
    have x2 : Ex H1 (upd H1 p (.dK [])) := Ex.new hp
    have e2 : upd H1 p (.dK []) p = some (.dK (kvG (kvS []))) := upd_same
    have pen2 := pen1.mono x2
    have b2 := but1.trans (But.of_ex x2)
    have pP : p ≠ Pn := (ne_of_none pen1.pen hp).symm
    have pL : p ≠ L := (ne_of_none pen1.cells hp).symm
    have hpH : ∀ b o, b ≠ Pn → H b = some o → b ≠ p := fun b o nb hb => ne_of_none (but1 _ _ nb hb) hp
    generalize upd H1 p (.dK []) = H2 at x2 e2 pen2 b2 ⊢
    refine ⟨by show 2 ≤ sizeLine; decide, fun t ht => ⟨t, _, rfl, st_of upd_same, rfl, _, _, rfl, _, _, rfl, rfl, ?_⟩⟩
    have x3 : Ex H2 (upd H2 t (.tup [.int (d : Int), .ref p])) := Ex.new ht
    have e3 := x3 _ _ e2
    have pen3 := pen2.mono x3
    have b3 := b2.trans (But.of_ex x3)
    generalize upd H2 t (.tup [.int (d : Int), .ref p]) = H3 at x3 e3 pen3 b3 ⊢
    have d4 : d < 4 := by omega
    have isN : ∀ (n : Int) {σ : L2.St} {G : Hp}, σ[2]? = some (some (.int (d : Int))) → EvT (tTest (tOp rEq (tVar 2) (tC (.int n)))) σ G (decide (V.int (d : Int) = V.int n)) := fun n {σ G} e => et_test (ev_op (ev_var e) ev_c (rv_eq rfl))
    have no : ∀ {n : Int}, (d : Int) ≠ n → decide (V.int (d : Int) = V.int n) = false := fun h => decide_eq_false fun z => h (by injection z)
    refine (?_ : tSeq _ _ _ [some (.ref Pn), some (.str al), some (.int (d : Int)), some (.ref p), none, none, none, none, none, none] H3)
    refine q_if (isN 0 rfl) (fun hb H4 x4 => ?_) (fun h0 H4 x4 => ?_)
    · -- each its own
      refine s_asgP (P := IsW ((signsL al).map fun s => (s, s))) (evp_dict (by rw [keys_map fun s => s]; exact snd) (evp_prsS (fun s => s) (fun s => s) (ev_var rfl) (by omega) (fun _ => rfl) (fun a G y ha => ev_var rfl) (fun a G y ha => ev_var rfl))) fun v H5 x5 ⟨r, ev, hr5⟩ => ?_
      subst ev
      have x45 := x4.trans x5
      exact fin _ r _ s1 g1 H5 rfl rfl rfl hr5 way0 (b3.trans (But.of_ex x45)) (pen3.mono x45) (by omega) _ rfl
    have pen4 := pen3.mono x4
    have b4 := b3.trans (But.of_ex x4)
    have e4 := x4 _ _ e3
    refine s_if (isN 1 rfl) (fun hb H5 x5 => ?_) (fun h1 H5 x5 => ?_)
    · have pen5 := pen4.mono x5
      refine ⟨_, rfl, _, rfl, Pn, L, ns, al, s1, g1, rfl, by omega, by omega, pen5, by omega, fun c s6 g6 H6 hc hs6 but6 pen6 => ?_⟩
      have ma : (⟨#[c]⟩ : Str) ∈ signsL al := List.mem_map.mpr ⟨c, hc, rfl⟩
      refine s_asgP (P := IsW ((signsL al).map fun s => (s, (⟨#[c]⟩ : Str) ++ s))) (evp_dict (by rw [keys_map fun s => (⟨#[c]⟩ : Str) ++ s]; exact snd) (evp_prsS (fun s => s) (fun s => (⟨#[c]⟩ : Str) ++ s) (ev_var rfl) (by omega) (fun _ => rfl) (fun a G y ha => ev_var rfl) (fun a G y ha => ev_cat (ev_var rfl) (ev_var rfl) (by rw [(sign_over ha).2]; show 1 + 1 ≤ 1000; decide)))) fun v H7 x7 ⟨r, ev, hr7⟩ => ?_
      subst ev
      exact fin _ r _ s6 g6 H7 rfl rfl rfl hr7 (way1 ma) (((b4.trans (But.of_ex x5)).trans but6).trans (But.of_ex x7)) (pen6.mono x7) (by omega) _ rfl
    have pen5 := pen4.mono x5
    have b5 := b4.trans (But.of_ex x5)
    have e5 := x5 _ _ e4
    refine s_if (isN 2 rfl) (fun hb H6 x6 => ?_) (fun h2 H6 x6 => ?_)
    · have pen6 := pen5.mono x6
      refine ⟨_, rfl, _, rfl, Pn, L, ns, al, s1, g1, rfl, by omega, by omega, pen6, by omega, fun c s7 g7 H7 hc hs7 but7 pen7 => ?_⟩
      have ma : (⟨#[c]⟩ : Str) ∈ signsL al := List.mem_map.mpr ⟨c, hc, rfl⟩
      refine q_asgP (P := IsW ((signsL al).map fun s => (s, if leB s ⟨#[c]⟩ = true then (⟨#[c]⟩ : Str) ++ s else s))) (evp_dict (by rw [keys_map fun s => if leB s ⟨#[c]⟩ = true then (⟨#[c]⟩ : Str) ++ s else s]; exact snd) (evp_prsS (fun s => s) (fun s => if leB s ⟨#[c]⟩ = true then (⟨#[c]⟩ : Str) ++ s else s) (ev_var rfl) (by omega) (fun _ => rfl) (fun a G y ha => ev_var rfl) (fun a G y ha =>
        ev_if (et_test (ev_leS (ev_var rfl) (ev_var rfl))) (fun h => ev_is (ev_cat (ev_var rfl) (ev_var rfl) (by rw [(sign_over ha).2]; show 1 + 1 ≤ 1000; decide)) (congrArg V.str (if_pos h).symm)) fun h => ev_is (ev_var rfl) (congrArg V.str (if_neg (by rw [h]; decide)).symm)))) fun v H8 x8 ⟨r, ev, hr8⟩ => ?_
      subst ev
      have C := way2 ma
      have pen8 := pen7.mono x8
      have rP : r ≠ Pn := fun z => by
        rw [z, pen8.pen] at hr8
        cases hr8
      have rL : r ≠ L := fun z => by
        rw [z, pen8.cells] at hr8
        cases hr8
      have b8 := ((b5.trans (But.of_ex x6)).trans but7).trans (But.of_ex x8)
      refine (ev_cat (ev_var rfl) (ev_var rfl) (by show 1 + 1 ≤ 1000; decide)) H8 (Ex.refl _) _ fun H9 x9 => ?_
      refine ⟨_, rfl, _, rfl, r, _, rfl, DPut.k (k := Sum.inr ⟨#[c]⟩) (x9 _ _ hr8) (by rw [kvS_len, List.length_map, sl, sizeLine_eq]; omega), ?_⟩
      rw [put_oldS (by rw [keys_map fun s => if leB s ⟨#[c]⟩ = true then (⟨#[c]⟩ : Str) ++ s else s]; exact ma), setS_same (fun q hq e => by
        obtain ⟨s, hs, rfl⟩ := List.mem_map.mp hq
        have e : s = ⟨#[c]⟩ := e
        show (if leB s ⟨#[c]⟩ = true then (⟨#[c]⟩ : Str) ++ s else s) = _
        rw [e, leB_refl, if_pos rfl])]
      refine fin _ r _ s7 g7 _ rfl rfl rfl upd_same C (fun b o nb hb => ?_) ⟨?_, ?_, pen8.ne, pen8.few, pen8.left⟩ (by omega) _ rfl
      · by_cases e : b = r
        · have := x9 _ _ (b8 _ _ nb hb)
          rw [e, x9 _ _ hr8] at this
          rw [e, upd_same]
          exact this
        · rw [upd_ne e]
          exact x9 _ _ (b8 _ _ nb hb)
      · rw [upd_ne rP.symm]
        exact x9 _ _ pen8.pen
      · rw [upd_ne rL.symm]
        exact x9 _ _ pen8.cells
    · -- each its own, and more
      have pen6 := pen5.mono x6
      have b6 := b5.trans (But.of_ex x6)
      have e6 := x6 _ _ e5
      refine ⟨_, rfl, _, rfl, Pn, L, ns, s1, g1, .str al, signsL al, rfl, .inl ⟨al, rfl, rfl⟩, by omega, sok, pen6, by omega, fun l ys s7 g7 H7 pm hl hs7 but7 el pen7 => ?_⟩
      have b7 := b6.trans but7
      have e7 := but7 _ _ pP e6
      have lP : l ≠ Pn := (ne_of_none pen6.pen hl).symm
      have lp : l ≠ p := (ne_of_none e6 hl).symm
      have yl : ys.length = al.length := by rw [pm.length_eq, sl]
      have y0 : 0 < ys.length := by omega
      have mem : ∀ {i : Nat} (h : i < ys.length), ys[i] ∈ signsL al := fun h => pm.mem_iff.mp (List.getElem_mem h)
      have a0 := sign_over (mem y0)
      dsimp only [gName, List.set_cons_succ, List.set_cons_zero]
      refine s_forR1 (n := (al.length : Int)) (ea_cons (ev_lenS (ev_var rfl) (by rw [sizeLine_eq]; omega)) ea_nil) ⟨by omega, by omega⟩
        (fun i σ' H' => ∃ (y7 y8 : Option V) (F : List (Str × Str)) (s' : Nat) (g' : Int), σ' = [some (.ref Pn), some (.str al), some (.int (d : Int)), some (.ref p), none, none, some (.ref l), y7, y8, none] ∧ F.map (·.1) = ys.take i ∧ Own al F ∧ H' l = some (.lst (ys.map V.str)) ∧ H' p = some (.dK (kvG (kvS F))) ∧ (∀ b o, b ≠ Pn → H b = some o → H' b = some o) ∧ Pen H' Pn L ns s' g' ∧ s' ≤ s7 + 2 * i)
        (fun H8 x8 => ⟨_, _, [], s7, g7, rfl, rfl, Own.nil, x8 _ _ el, x8 _ _ e7, fun b o nb hb => x8 _ _ (b7 _ _ nb hb), pen7.mono x8, Nat.le_refl _⟩) (fun i σ' H' hi q => ?_) (fun σ' H' q => ?_)
      · obtain ⟨y7, y8, F, s', g', rfl, fk, O, el, ep, keep, pn, hs'⟩ := q
        have iy : i < ys.length := by omega
        have ai := sign_over (mem iy)
        have ixE : ∀ {G : Hp} {σ : L2.St} {j : Int} {m : Nat} {te : TE}, G l = some (.lst (ys.map V.str)) → σ[6]? = some (some (.ref l)) → Ev te σ G (.int j) → j = (m : Int) → (hm : m < ys.length) → Ev (tOp (rIxL K) (tVar 6) te) σ G (.str ys[m]) := fun {G σ j m te} el es ej e hm => by
          subst e
          refine ev_op (ev_var es) ej (rv_ixL (sq_of el) (atI_nat ?_))
          rw [List.getElem?_map, List.getElem?_eq_getElem hm]
          rfl
        have pick2 : ∀ (G : Hp) (s1' : Nat) (g1' : Int) (σ : L2.St) (vs : List V) (ta : TA) (Q1 : VK), σ[0]? = some (some (.ref Pn)) → EvA ta σ G vs → vs ≠ [] → vs.length ≤ 100 → Pen G Pn L ns s1' g1' → s1' ≤ 100000 →
            (∀ v s2 g2 G2, v ∈ vs → s2 ≤ s1' + 1 → But Pn G G2 → Pen G2 Pn L ns s2 g2 → Q1 v G2) → tCall spPick [] E0 (tCons (tVar 0) (tCons (tLst ta) tNil)) σ G Q1 := fun G s1' g1' σ vs ta Q1 h0 hv ne hl pn hs q => by
          refine ⟨_, h0, ?_⟩
          refine (?_ : tCons _ _ _ G _)
          refine (el_lst hv (by omega)) G (Ex.refl _) _ fun l2 G2 hl2 y2 e2 => ?_
          exact ⟨Pn, L, l2, ns, vs, s1', g1', rfl, ne, by omega, e2, (ne_of_none pn.pen hl2).symm, pn.mono y2, hs, fun v s2 g2 G3 hv hs2 but pen3 => q v s2 g2 G3 hv hs2 ((But.of_ex y2).trans but) pen3⟩
        have word : ∀ {v : V} {vs : List V}, v ∈ vs → (∀ u ∈ vs, u = .str "" ∨ u = .str ys[0]) → ∃ r : Str, v = .str r ∧ Over al r ∧ r.length ≤ 1 := fun {v vs} hv h => by
          rcases h v hv with e | e
          · exact ⟨"", e, (fun c hc => absurd hc List.not_mem_nil), Nat.zero_le _⟩
          · exact ⟨_, e, a0.1, by omega⟩
        have rest : ∀ (tail : Str) (s8 : Nat) (g8 : Int) (H8 : Hp), Over al tail → tail.length ≤ 1 → s8 ≤ s' + 1 → But Pn H' H8 → Pen H8 Pn L ns s8 g8 → ∀ D : L2.Ends, (∀ σ2 G2, (∃ (y7 y8 : Option V) (F : List (Str × Str)) (s' : Nat) (g' : Int), σ2 = [some (.ref Pn), some (.str al), some (.int (d : Int)), some (.ref p), none, none, some (.ref l), y7, y8, none] ∧ F.map (·.1) = ys.take (i + 1) ∧ Own al F ∧ G2 l = some (.lst (ys.map V.str)) ∧ G2 p = some (.dK (kvG (kvS F))) ∧ (∀ b o, b ≠ Pn → H b = some o → G2 b = some o) ∧ Pen G2 Pn L ns s' g' ∧ s' ≤ s7 + 2 * (i + 1)) → D.nx σ2 G2) →
            tAsg (tOp rAddS (tOp rAddS (tOp (rIxL K) (tVar 6) (tVar 7)) (tVar 8)) (tCall spPick [] E0 (tCons (tVar 0) (tCons (tLst (tCons (tC (.str "")) (tCons (tC (.str "")) (tCons (tOp (rIxL K) (tVar 6) (tC (.int 0))) tNil)))) tNil)))) (gSub (tVar 3) (tOp (rIxL K) (tVar 6) (tVar 7)) rSetD) D [some (.ref Pn), some (.str al), some (.int (d : Int)), some (.ref p), none, none, some (.ref l), some (.int (i : Int)), some (.str tail), none] H8 := by
          intro tail s8 g8 H8 ot lt hs8 b8 pn8 D hD
          have el8 := b8 _ _ lP el
          have ep8 := b8 _ _ pP ep
          have li := ai.2
          have l0 := a0.2
          refine (?_ : tOp rAddS _ _ _ H8 _)
          refine (ev_cat (ixE el8 rfl (ev_var rfl) rfl iy) (ev_var rfl) (by rw [li]; omega)) H8 (Ex.refl _) _ fun H9 x9 => ?_
          refine pick2 H9 s8 g8 _ [.str "", .str "", .str ys[0]] _ _ rfl (ea_cons ev_c (ea_cons ev_c (ea_cons (ixE (x9 _ _ el8) rfl ev_c rfl y0) ea_nil))) (by simp) (by show 3 ≤ 100; decide) (pn8.mono x9) (by omega) fun v s10 g10 H10 hv hs10 b10 pn10 => ?_
          obtain ⟨r, rfl, orr, lr⟩ := word hv fun u hu => by
            simp only [List.mem_cons, List.not_mem_nil, or_false] at hu
            rcases hu with h | h | h
            · exact .inl h
            · exact .inl h
            · exact .inr h
          have el10 := b10 _ _ lP (x9 _ _ el8)
          have ep10 := b10 _ _ pP (x9 _ _ ep8)
          refine ⟨_, _, rfl, rfl, by rw [sizeLine_eq, cat_len]; omega, ?_⟩
          refine ⟨_, rfl, ?_⟩
          refine (ixE el10 rfl (ev_var rfl) rfl iy) H10 (Ex.refl _) _ fun H11 x11 => ?_
          have fl : F.length = i := by
            have := congrArg List.length fk
            rw [List.length_map, List.length_take] at this
            omega
          refine ⟨p, _, rfl, DPut.k (k := Sum.inr ys[i]) (x11 _ _ ep10) (by rw [kvS_len, sizeLine_eq]; omega), ?_⟩
          have nin : ys[i] ∉ F.map (·.1) := by
            rw [fk]
            intro z
            obtain ⟨j, hj, e⟩ := List.getElem_of_mem z
            rw [List.length_take] at hj
            rw [List.getElem_take] at e
            have ndy : ys.Nodup := pm.nodup_iff.mpr snd
            have q1 : ys[j]? = some ys[i] := by rw [List.getElem?_eq_getElem (by omega), e]
            have := nd_idx ndy q1 (List.getElem?_eq_getElem iy)
            omega
          rw [put_newS nin]
          have assoc : (ys[i] ++ tail) ++ r = ys[i] ++ (tail ++ r) := str_eq (by rw [cat_cps, cat_cps, cat_cps, cat_cps, List.append_assoc])
          rw [assoc]
          refine hD _ _ ⟨_, _, F ++ [(ys[i], ys[i] ++ (tail ++ r))], s10, g10, rfl, ?_, O.snoc (mem iy) (over_cat ot orr) (by rw [cat_len]; omega), ?_, upd_same, fun b o nb hb => ?_, ⟨?_, ?_, pn10.ne, pn10.few, pn10.left⟩, by omega⟩
          · rw [List.map_append, fk, List.take_succ, List.getElem?_eq_getElem iy]
            rfl
          · rw [upd_ne lp]
            exact x11 _ _ el10
          · rw [upd_ne (hpH b o nb hb)]
            exact x11 _ _ (b10 _ _ nb (x9 _ _ (b8 _ _ nb (keep b o nb hb))))
          · rw [upd_ne pP.symm]
            exact x11 _ _ pn10.pen
          · rw [upd_ne pL.symm]
            exact x11 _ _ pn10.cells
        refine (?_ : tIf _ _ _ [some (.ref Pn), some (.str al), some (.int (d : Int)), some (.ref p), none, none, some (.ref l), some (.int (i : Int)), y8, none] H' _)
        refine (et_test (ev_op (ev_var rfl) (ev_op (ev_lenS (ev_var (i := 1) rfl) (by rw [sizeLine_eq]; omega)) ev_c rv_I0) rv_I0)) H' (Ex.refl _) _ fun H8 x8 => ?_
        cases hc : decide ((i : Int) < (al.length : Int) - 1) with
        | true =>
          rw [if_pos rfl]
          exact rest "" s' g' H8 (fun c hc => absurd hc List.not_mem_nil) (Nat.zero_le _) (by omega) (But.of_ex x8) (pn.mono x8) _ fun σ2 G2 h => h
        | false =>
          rw [if_neg (by decide)]
          refine pick2 H8 s' g' _ [.str "", .str ys[0]] _ _ rfl (ea_cons ev_c (ea_cons (ixE (x8 _ _ el) rfl ev_c rfl y0) ea_nil)) (by simp) (by show 2 ≤ 100; decide) (pn.mono x8) (by omega) fun v s9 g9 H9 hv hs9 b9 pn9 => ?_
          obtain ⟨r, rfl, orr, lr⟩ := word hv fun u hu => by
            simp only [List.mem_cons, List.not_mem_nil, or_false] at hu
            exact hu
          exact rest r s9 g9 H9 orr lr (by omega) ((But.of_ex x8).trans b9) pn9 _ fun σ2 G2 h => h
      · obtain ⟨y7, y8, F, s', g', rfl, fk, O, el, ep, keep, pn, hs'⟩ := q
        have e : ((al.length : Int)).toNat = ys.length := by omega
        rw [e, List.take_length] at fk
        exact fin _ p F s' g' H' rfl rfl rfl ep (O.code (by rw [fk]; exact pm)) (fun b o nb hb => keep b o nb hb) pn (by omega) _ rfl
end
end K02

set_option Elab.async false
set_option linter.all false
set_option maxRecDepth 100000
set_option maxHeartbeats 4000000
/-! list(d.values()) -/
namespace KU
open PySem PySem.Spec PyProof.Rows L2 Evl
/-- a list of the values of a dict -/
def rValsL : V → Hp → VK → Prop := fun x H Q => ∃ (d : Addr) (kvs : List (Key × V)), x = .ref d ∧ Rd H d (.dK kvs) ∧ ∀ p, H p = none → Q (.ref p) (upd H p (.lst (kvs.map fun kv => kv.2)))
def tListVals (te : TE) : TE := fun σ H Q => te σ H fun x H1 => rValsL x H1 Q
theorem vals_at : ∀ {kvs : List (Key × V)} {vs : List (Key × Value)} {us : List Value}, KV kvs vs → us.length = vs.length → (∀ (j : Nat) (v : Value), us[j]? = some v → ∃ k : Key, vs[j]? = some (k, v)) → Vals (kvs.map fun kv => kv.2) us
  | [], [], [], _, _, _ => .nil
  | [], [], _ :: _, _, hl, _ => by simp at hl
  | a :: r, b :: t, [], _, hl, _ => by simp at hl
  | a :: r, b :: t, u :: us, h, hl, hv => by
    cases h with
    | cons h1 h2 =>
      obtain ⟨k, e⟩ := hv 0 u rfl
      have e' : b = (k, u) := Option.some.inj e
      subst e'
      rw [List.map_cons]
      refine .cons h1.2 (vals_at h2 (by simpa using hl) fun j v ej => ?_)
      obtain ⟨k2, e2⟩ := hv (j + 1) v (by simpa using ej)
      exact ⟨k2, by simpa using e2⟩
section
variable {X : Cx} {e : Expr} {te : TE} {p apos cpos pos : Pos}
theorem pe_listVals (hc : X.calm = true) (he : PE X e te) (hg : Gl X "list") (hm : X.mg "list" = none) (hv : bootBuiltins "list" = some (.type "list")) (hbase : attributeBase e "values" X.env (eval e X.env) = eval e X.env := by rfl) (hline : (apos.endLine == cpos.line) = true := by rfl)
    (hs : starEach [.Call (.Attribute e "values" apos) [] [] cpos] X.env = (false, eval (.Call (.Attribute e "values" apos) [] [] cpos) X.env) :: starEach [] X.env := by rfl) :
    PE X (.Call (.Name "list" p) [.Call (.Attribute e "values" apos) [] [] cpos] [] pos) (tListVals te) := by
  refine ⟨fun pins s σ H Q I hq => ?_⟩
  refine wpAny_Call_Name_kw (ld_blt I hg hm hv ?_)
  refine PyProof.Rows.callWith_type1 ?_ hs rfl
  rw [hs]
  show wpAny _ _ (spliced ((false, eval (.Call (.Attribute e "values" apos) [] [] cpos) X.env) :: backTo pos (starEach [] X.env))) _ _ s
  refine Calls.spliced_cons ?_
  refine wpAny_Call_method (T := "dict") (id := "dict.values") hbase rfl hline F.plainAttrs_dict F.slot_dict_values F.type_dict_values (thn (he.run pins s σ H _ I hq) fun u s1 ⟨x, H1, I1, rx, d, kvs, ex, hd, q⟩ => ?_)
  subst ex
  obtain rfl : u = Value.ref d := rx
  obtain ⟨hz, hs0, vs, kv, hdo⟩ := dk_rd I1.hok hd
  obtain ⟨ep, hat⟩ := hdo.dictAt
  have lk : kvs.length = vs.length := Paired.length kv
  have I2 : Inv X pins σ H1 { s1 with heap := s1.heap.push { cls := .type "dict_values", data := .fields #[.ref d] } } := I1.kept (t' := s1.toks) fun b ob q => Heap.get?_push_of_some _ q
  refine ⟨hdo.typeIs, hdo.mapOf.noDict, ?_⟩
  show wpAny _ _ (callWith cpos (.builtin "dict.values") [.ref d] [] []) _ X.xe s1
  refine method_meetsIn F.slot_dict_values F.entry_dict_values rfl (PySem.evalArgs_none ⟨rfl, hdo.typeIs, F.args_dict_values_1 _, _, meets_dict_values (mixKind X.prog X.w) d hs0, ⟨vs, hdo⟩, ?_⟩)
  refine Calls.spliced_nil ?_
  refine PySem.W.kdl_call (PySem.W.kdl_values (knd := mixKind X.prog X.w) (kvs := vs) (ep := ep)) (I1.ok.hd hc) ⟨⟨_, Heap.get?_push_size _ rfl, rfl, rfl⟩, hat.push _⟩ (by omega) fun h' tk acc c' hk hD hacc => ?_
  have hv : Vals (kvs.map fun kv => kv.2) acc.toList := vals_at kv (by rw [Array.length_toList]; exact hacc.1) fun j v e => hacc.2 j v (by rw [← Array.getElem?_toList]; exact e)
  exact ⟨.ref _, upd H1 _ (.lst (kvs.map fun kv => kv.2)), I2.laid (t' := tk) hk (Nat.le_refl _)
    (show ObjOk X.prog X.w _ _ _ (.lst (kvs.map fun kv => kv.2)) from ⟨by rw [List.length_map]; exact hz, acc.toList, c', hv, by rw [Array.toArray_toList]; exact hD⟩), rfl, q _ (I2.hok.fresh (Nat.le_refl _))⟩
end
end KU

set_option Elab.async false
set_option linter.all false
set_option maxRecDepth 100000
set_option maxHeartbeats 4000000
/-! moves.py: begins_alike, check_words of words that are right -/
namespace K02
open PySem PySem.Spec PyProof.Rows L2 Evl KU
section
variable {σ : L2.St} {H : Hp} {tb tz : TS} {D : L2.Ends} {d : Addr} {qs : List (Str × Str)} {i j : Nat}
theorem ext_unlock {d : Addr} {u : HO} {od : Obj} {H H' : Hp} (hd : H d = some u) (x : Ex (upd H d (.frz od u)) H') : Ex H (upd H' d u) := fun b o hb => by
  by_cases e : b = d
  · rw [e, upd_same]
    rw [e, hd] at hb
    exact hb
  · rw [upd_ne e]
    exact x _ _ (by rw [upd_ne e]; exact hb)
/-- a walk over a dict's keys that only asks -/
theorem q_lockKeys (hd : H d = some (.dK (kvG (kvS qs)))) (hσ : ∀ y, (σ.set j y)[i]? = some (some (.ref d))) (h0 : ∃ y, σ = σ.set j y)
    (hb : ∀ a ∈ qs.map (·.1), ∀ (H' : Hp) (Dn : L2.Ends), (∀ H2, Ex H' H2 → Dn.nx (σ.set j (some (.str a))) H2) → tb Dn (σ.set j (some (.str a))) H') (k : ∀ y H', Ex H H' → tz D (σ.set j y) H') : tSeq (tLock (tFor (iKeys (tVar i)) (gName j) tb)) tz D σ H := by
  obtain ⟨y0, e0⟩ := h0
  refine ⟨d, _, hd, trivial, fun od => ?_⟩
  refine ⟨_, by rw [e0]; exact hσ y0, d, od, rfl, .inl ⟨_, upd_same, ?_⟩⟩
  refine for_it (walk_keys (d := d) (o := od) (kvs := kvG (kvS qs))) (fun n σ' H' => (∃ y, σ' = σ.set j y) ∧ Ex (upd H d (.frz od (.dK (kvG (kvS qs))))) H') ⟨⟨y0, e0⟩, Ex.refl _⟩ (fun n σ' H' _ p => p.2 _ _ upd_same) (fun n x σ' H' H2 hn p y => ?_) fun σ' H' p => ?_
  · obtain ⟨⟨y1, rfl⟩, x1⟩ := p
    obtain ⟨rfl, kk, vv, e2, rfl⟩ := y
    have m : kk ∈ (qs.map (·.1)).map Sum.inr := by
      rw [← kvS_keys]
      exact List.mem_map.mpr ⟨_, List.mem_of_getElem? e2, rfl⟩
    obtain ⟨a, ha, rfl⟩ := List.mem_map.mp m
    refine (?_ : tb _ ((σ.set j y1).set j (some (.str a))) H2)
    rw [List.set_set]
    exact hb a ha H2 _ fun H3 x3 => ⟨⟨_, rfl⟩, x1.trans x3⟩
  · obtain ⟨⟨y1, rfl⟩, x1⟩ := p
    exact ⟨x1 _ _ upd_same, k y1 _ (ext_unlock hd x1)⟩
theorem q_lockVals (hd : H d = some (.dK (kvG (kvS qs)))) (hσ : ∀ y, (σ.set j y)[i]? = some (some (.ref d))) (h0 : ∃ y, σ = σ.set j y)
    (hb : ∀ a ∈ qs.map (·.2), ∀ (H' : Hp) (Dn : L2.Ends), (∀ H2, Ex H' H2 → Dn.nx (σ.set j (some (.str a))) H2) → tb Dn (σ.set j (some (.str a))) H') (k : ∀ y H', Ex H H' → tz D (σ.set j y) H') : tSeq (tLock (tFor (iVals (tVar i)) (gName j) tb)) tz D σ H := by
  obtain ⟨y0, e0⟩ := h0
  refine ⟨d, _, hd, trivial, fun od => ?_⟩
  refine ⟨_, by rw [e0]; exact hσ y0, d, od, _, rfl, upd_same, ?_⟩
  refine for_it (walk_values (d := d) (o := od) (kvs := kvG (kvS qs))) (fun n σ' H' => (∃ y, σ' = σ.set j y) ∧ Ex (upd H d (.frz od (.dK (kvG (kvS qs))))) H') ⟨⟨y0, e0⟩, Ex.refl _⟩ (fun n σ' H' _ p => p.2 _ _ upd_same) (fun n x σ' H' H2 hn p y => ?_) fun σ' H' p => ?_
  · obtain ⟨⟨y1, rfl⟩, x1⟩ := p
    obtain ⟨rfl, kk, e2⟩ := y
    have m : x ∈ (kvG (kvS qs)).map (·.2) := List.mem_map.mpr ⟨_, List.mem_of_getElem? e2, rfl⟩
    have e : (kvG (kvS qs)).map (·.2) = (qs.map (·.2)).map V.str := by
      unfold kvG kvS
      rw [List.map_map, List.map_map, List.map_map]
      rfl
    rw [e] at m
    obtain ⟨a, ha, rfl⟩ := List.mem_map.mp m
    refine (?_ : tb _ ((σ.set j y1).set j (some (.str a))) H2)
    rw [List.set_set]
    exact hb a ha H2 _ fun H3 x3 => ⟨⟨_, rfl⟩, x1.trans x3⟩
  · obtain ⟨⟨y1, rfl⟩, x1⟩ := p
    exact ⟨x1 _ _ upd_same, k y1 _ (ext_unlock hd x1)⟩
end
/-! ### begins_alike -/
def alikeB (w o : Str) : Bool := Txt.startswith w o || Txt.startswith o w
abbrev rStart : V → List V → Hp → VK → Prop := fun x xs H Q => ∃ a b : Str, x = .str a ∧ xs = [.str b] ∧ Q (.bl (Txt.startswith a b)) H
def spBegins (K : PySem.W.Frag) : Sp := fun vs H Q _ => ∃ (w : Str) (a : Addr) (ws : List Str), vs = [.str w, .ref a] ∧ SqL K H a (ws.map V.str) ∧ ws.length ≤ 1000 ∧ RetV (.bl (ws.any (alikeB w))) H Q
theorem scBegins : FnScope ["word", "others", "other"] ["word", "others"] (defScope sBegins) := ⟨rfl, rfl, rfl, by decide +kernel, rfl, by decide +kernel, by decide +kernel⟩
theorem ev_start {K : PySem.W.Frag} {σ : L2.St} {H : Hp} {ta tb : TE} {a b : Str} (ha : Ev ta σ H (.str a)) (hb : Ev tb σ H (.str b)) : Ev (tBM K "str" rStart ta (tCons tb tNil)) σ H (.bl (Txt.startswith a b)) := fun H1 x1 Q q =>
  ha H1 x1 _ fun H2 x2 => ⟨rfl, hb H2 (x1.trans x2) _ fun H3 x3 => ⟨a, b, rfl, rfl, q H3 (x2.trans x3)⟩⟩
section
variable {P : Program} {w : World} {K : PySem.W.Frag} {mg : Str → Option Value} {base : Heap}
theorem ok_begins {f : Addr} {fd : FuncData} (F : Fun K "begins_alike" "begins_alike" sBegins f fd) (T : Free mg) : FnOk P w K mg base CX0 1 f fd ["word", "others"] (spBegins K) := by
  refine F.ok scBegins (fun vs H Q E h => ?_) (fun cdv A outer s H vs Q E hr h => ?_)
  · obtain ⟨_, _, _, rfl, _⟩ := h
    rfl
  · obtain ⟨x, a, ws, rfl, hs, hl, k⟩ := h
    have nd := scBegins.nd
    refine ⟨_, pss_one (ps_ret (pe_callB (cr_any rfl) (by rfl) T.any (by decide +kernel) (pa_cons (pe_lc (own := [("other", 2)]) (g := gName 2) (tt := tYes) (te := tOrV (tBM K "str" rStart (tVar 0) (tCons (tVar 2) tNil)) (tBM K "str" rStart (tVar 2) (tCons (tVar 0) tNil))) (wi := iList K (tVar 1)) rfl nd (by exact pi_list (pv 1)) (by refine blkOk_by (own := [("other", 2)]) (N := ["word", "others", "other"]) (sc := defScope sBegins) ?_; decide +kernel)
      (fun _ _ _ _ _ => pg_name (i := 2) nd rfl (Or.inl rfl)) (fun _ _ _ _ _ => pts_nil) (fun _ _ _ _ _ => by exact pe_or (pe_bm PySem.F.plainAttrs_str PySem.F.slot_str_startswith PySem.F.type_str_startswith mt_startswith (pv 0) (pa_cons (pv 2) pa_nil)) (pe_one (pe_bm PySem.F.plainAttrs_str PySem.F.slot_str_startswith PySem.F.type_str_startswith mt_startswith (pv 2) (pa_cons (pv 0) pa_nil))))) pa_nil))), ?_⟩
    refine s_ret (v := .bl (ws.any (alikeB x))) ?_ fun H1 x1 => k H1 x1
    have e : ws.any (alikeB x) = (ws.map (alikeB x)).any id := by
      rw [List.any_map]
      rfl
    rw [e]
    refine ev_anyN ?_
    have z := el_fmL (K := K) (σ := start ["word", "others", "other"] [.str x, .ref a]) (H := H) (te := tOrV (tBM K "str" rStart (tVar 0) (tCons (tVar 2) tNil)) (tBM K "str" rStart (tVar 2) (tCons (tVar 0) tNil))) (t := tYes) (tl := tVar 1) (j := 2) (vs := [2]) (a := a) (xs := ws.map V.str) (fun _ => true) (onS fun o => .bl (alikeB x o)) (ev_var rfl) hs (by rw [List.length_map]; omega) (fun _ => rfl)
      (fun _ _ _ _ => et_yes) fun v H1 x1 m _ => by
        obtain ⟨o, mo, rfl⟩ := mem_str m
        exact ev_orV (ev_start (ev_var rfl) (ev_var rfl)) fun _ => ev_start (ev_var rfl) (ev_var rfl)
    have e2 : List.map (onS fun o => .bl (alikeB x o)) (List.filter (fun _ => true) (ws.map V.str)) = (ws.map (alikeB x)).map V.bl := by
      rw [all_str, List.map_map, List.map_map]
      rfl
    rw [e2] at z
    exact z
end
end K02

set_option Elab.async false
set_option linter.all false
set_option maxRecDepth 100000
set_option maxHeartbeats 4000000
/-! moves.py: check_words of words that are right -/
namespace K02
open PySem PySem.Spec PyProof.Rows L2 Evl KU
theorem start_pre {x y : Str} (h : Txt.startswith x y = true) : y.cps.toList <+: x.cps.toList := by
  unfold Txt.startswith at h
  rw [Bool.and_eq_true, StrLaws.subAt_eq, beq_iff_eq, List.drop_zero] at h
  rw [← h.2]
  exact List.take_prefix _ _
/-- words that make a code -/
structure GoodW (qs : List (Str × Str)) : Prop where
  ne : qs ≠ []
  few : qs.length ≤ 40
  nd : (qs.map (·.1)).Nodup
  key : ∀ q ∈ qs, isSgnV (.str q.1) sSIGNS = true
  word : ∀ q ∈ qs, isWordB q.2 sSIGNS 3 = true
  pf : ∀ p ∈ qs, ∀ q ∈ qs, p.1 ≠ q.1 → ¬ p.2.cps.toList <+: q.2.cps.toList
theorem word_len {w al : Str} {m : Int} (h : isWordB w al m = true) : (w.length : Int) ≤ m := by
  unfold isWordB at h
  rw [Bool.and_eq_true, Bool.and_eq_true, decide_eq_true_eq, decide_eq_true_eq] at h
  exact h.2.2
theorem key_len {w al : Str} (h : isSgnV (.str w) al = true) : w.length = 1 := by
  unfold isSgnV at h
  rw [Bool.and_eq_true, decide_eq_true_eq] at h
  exact h.1
theorem GoodW.no {qs : List (Str × Str)} (G : GoodW qs) {k j : Nat} (hk : k < qs.length) (hj : j < k) : alikeB (qs[k]).2 (qs[j]).2 = false := by
  have mk := List.getElem_mem hk
  have mj := List.getElem_mem (show j < qs.length by omega)
  have ne : (qs[k]).1 ≠ (qs[j]).1 := fun e => by
    have h1 : (qs.map (·.1))[k]? = some (qs[k]).1 := by rw [List.getElem?_map, List.getElem?_eq_getElem hk]; rfl
    have h2 : (qs.map (·.1))[j]? = some (qs[k]).1 := by rw [List.getElem?_map, List.getElem?_eq_getElem (show j < qs.length by omega), e]; rfl
    have := nd_idx G.nd h1 h2
    omega
  unfold alikeB
  rw [Bool.or_eq_false_iff]
  constructor
  · cases h : Txt.startswith (qs[k]).2 (qs[j]).2 with
    | false => rfl
    | true => exact absurd (start_pre h) (G.pf _ mj _ mk ne.symm)
  · cases h : Txt.startswith (qs[j]).2 (qs[k]).2 with
    | false => rfl
    | true => exact absurd (start_pre h) (G.pf _ mk _ mj ne)
theorem cut_toV {xs : List V} {i : Nat} (hi : i ≤ xs.length) : cutV xs none (some (i : Int)) = xs.take i := by
  unfold cutV
  have e1 : HT.sIx xs.length 0 none = 0 := rfl
  have e2 : HT.sIx xs.length xs.length (some (i : Int)) = i := by
    unfold HT.sIx
    show (if (i : Int) < 0 then _ else min ((i : Int).toNat) xs.length) = i
    rw [if_neg (by omega), Int.toNat_natCast]
    exact Nat.min_eq_left hi
  rw [e1, e2, List.drop_zero, Nat.sub_zero]
theorem es_toW {K : PySem.W.Frag} {σ : L2.St} {H : Hp} {ta tb : TE} {ws : List Str} {i : Nat} (hi : i ≤ ws.length) (ha : EvP ta σ H (IsSL ws)) (hb : Ev tb σ H (.int (i : Int))) : EvP (L2.tSl (rSlL K) ta tNoPart (tPart tb)) σ H (IsSL (ws.take i)) := fun H1 x1 Q q =>
  ha H1 x1 _ fun v H2 x2 a => hb H2 (x1.trans x2) _ fun H3 x3 => by
    obtain ⟨l, ev, hl⟩ := up_isSL ws v _ _ x3 a
    subst ev
    exact ⟨_, rfl, l, _, rfl, sq_of hl, fun p hp => q _ _ ((x2.trans x3).trans (Ex.new hp)) ⟨p, rfl, by rw [upd_same, cut_toV (by rw [List.length_map]; exact hi), List.map_take]⟩⟩
def spCheck : Sp := fun vs H Q _ => ∃ (p : Addr) (qs : List (Str × Str)), vs = [.ref p] ∧ H p = some (.dK (kvG (kvS qs))) ∧ GoodW qs ∧ RetV .non H Q
abbrev nCheck : List Str := ["words", "sign", "word", "told", "k"]
theorem scCheck : FnScope nCheck ["words"] (defScope sCheck) := ⟨rfl, rfl, rfl, by decide +kernel, rfl, by decide +kernel, by decide +kernel⟩
theorem ev_isDict {K : PySem.W.Frag} {σ : L2.St} {H : Hp} {te : TE} {p : Addr} {kvs : List (Key × V)} (h : Ev te σ H (.ref p)) (hp : H p = some (.dK kvs)) : Ev (tCB (rIsi K) (tCons te (tCons (tC (.ty "dict")) tNil))) σ H (.bl true) := ev_cb (ea_cons h (ea_cons ev_c ea_nil)) fun H1 x1 Q1 q1 =>
  ⟨.ref p, _, _, _, true, rfl, .ty "dict", bty_tyx (.dic (x1 _ _ hp)), kit_ty (by decide +kernel), q1 H1 (Ex.refl _)⟩
section
variable {P : Program} {w : World} {K : PySem.W.Frag} {mg : Str → Option Value} {base : Heap}
theorem ok_check {f fG fW fB : Addr} {fd fdG fdW fdB : FuncData} (F : Fun K "check_words" "check_words" sCheck f fd) (T : Free mg) (gD : mg "dict" = none) (gS : ∃ t, mg "SIGNS" = some (.str "0123456789abcdefghijklmnopqrstuvwxyz" t)) (gM : ∃ t, mg "MOST_SIGNS" = some (.int 3 t))
    (GG : FnOk P w K mg base CX0 1 fG fdG ["value", "signs"] (spIsSgn K)) (bG : Binds K fdG ["value", "signs"] []) (gG : mg "is_sign" = some (.ref fG)) (kG : PySem.W.keepIn K (.ref fG) = true)
    (GW : FnOk P w K mg base CX0 2 fW fdW ["value", "signs", "most"] (spIsWord K)) (bW : Binds K fdW ["value", "signs", "most"] []) (gW : mg "is_word" = some (.ref fW)) (kW : PySem.W.keepIn K (.ref fW) = true)
    (GB : FnOk P w K mg base CX0 1 fB fdB ["word", "others"] (spBegins K)) (bB : Binds K fdB ["word", "others"] []) (gB : mg "begins_alike" = some (.ref fB)) (kB : PySem.W.keepIn K (.ref fB) = true) : FnOk P w K mg base CX0 3 f fd ["words"] spCheck := by
  obtain ⟨tk, gS⟩ := gS
  obtain ⟨tm, gM⟩ := gM
  refine F.ok scCheck (fun vs H Q E h => ?_) (fun cdv A outer s H vs Q E hr h => ?_)
  · obtain ⟨_, _, rfl, _⟩ := h
    rfl
  · obtain ⟨p, qs, rfl, hp, G, k⟩ := h
    have nd := scCheck.nd
    refine ⟨_, pss_cons (ps_if (PW.pt (pw_or (pt_not (pt_val (pe_callB call_isi (by rfl) T.isinstance (by decide +kernel) (pa_cons (pv 0) (pa_cons (pe_bltn (v := .ty "dict") (by rfl) gD (by decide +kernel) rfl) pa_nil))))) (pw_or1 (pt_cmpR op_eq (pe_callB call_lenD (by rfl) T.len PySem.boot_len (pa_cons (pv 0) pa_nil)) pe_int (nomark _))))) (pss_one ps_never) pss_nil)
      (pss_cons (ps_lock (ps_for PassesOwn.never rfl (pi_keys (pv 0)) (pg_name (i := 1) nd rfl (.inl rfl)) (pss_one (ps_if (pt_not (pt_val (pe_call GG (hr.mono (by decide)) (by rfl) gG kG bG .nil pass0 (pa_cons (pv 1) (pa_cons (pe_glob (v := .str sSIGNS) rfl gS ⟨_, rfl⟩) pa_nil))))) (pss_one ps_never) pss_nil))))
      (pss_cons (ps_lock (ps_for PassesOwn.never rfl (pi_values (pv 0)) (pg_name (i := 2) nd rfl (.inl rfl)) (pss_one (ps_if (pt_not (pt_val (pe_call GW (hr.mono (by decide)) (by rfl) gW kW bW .nil pass0 (pa_cons (pv 2) (pa_cons (pe_glob (v := .str sSIGNS) rfl gS ⟨_, rfl⟩) (pa_cons (pe_glob (v := .int 3) rfl gM ⟨_, rfl⟩) pa_nil)))))) (pss_one ps_never) pss_nil))))
      (pss_cons (ps_set (i := 3) nd rfl (.inr rfl) (pe_listVals rfl (pv 0) (by rfl) T.list (by decide +kernel)))
      (pss_one (ps_if (pt_val (pe_callB (cr_any rfl) (by rfl) T.any (by decide +kernel) (pa_cons (pe_lc (own := [("k", 4)]) (g := gName 4) (tt := tYes) (te := tCall (spBegins K) [] E0 (tCons (tOp (rIxL K) (tVar 3) (tVar 4)) (tCons (L2.tSl (rSlL K) (tVar 3) tNoPart (tPart (tVar 4))) tNil))) rfl nd (pi_range1 rfl T.range (pa_cons (pe_callB call_len_seq (by rfl) T.len PySem.boot_len (pa_cons (pv 3) pa_nil)) pa_nil)) (by refine blkOk_by (own := [("k", 4)]) (N := nCheck) (sc := defScope sCheck) ?_; decide +kernel)
        (fun _ _ _ _ _ => pg_name (i := 4) nd rfl (Or.inl rfl)) (fun _ _ _ _ _ => pts_nil) (fun _ _ _ _ _ => pe_call GB (hr.mono (by decide)) (by rfl) gB kB bB .nil pass0 (pa_cons (pe_ix (r := rIxL K) (by exact ix_list) (pv 3) (pv 4) (fun _ _ => rfl)) (pa_cons (pe_slice sl_list (pv 3) po_none (po_some (pv 4))) pa_nil)))) pa_nil))) (pss_one ps_never) pss_nil))))), ?_⟩
    have q0 : 0 < qs.length := by
      have := G.ne
      cases qs with
      | nil => exact absurd rfl this
      | cons a r => exact Nat.succ_pos _
    have few := G.few
    refine q_when (b := false) (et_is (et_or (a := false) (et_is (et_not (et_B (ev_isDict (ev_var rfl) hp))) rfl) fun _ => et_test (ev_op (ev_cb (z := .int (qs.length : Int)) (ea_cons (ev_var rfl) ea_nil) fun H1 x1 Q1 q1 => ⟨p, _, rfl, x1 _ _ hp, by rw [kvS_len]; exact q1 H1 (Ex.refl _)⟩) ev_c (rv_eq rfl))) (by
      rw [Bool.false_or]
      exact decide_eq_false fun z => by injection z with z; omega)) (fun z => by cases z) fun _ H1 x1 => ?_
    refine q_lockKeys (qs := qs) (x1 _ _ hp) (fun y => rfl) ⟨_, rfl⟩ (fun a ha H' Dn k' => ?_) fun y1 H2 x2 => ?_
    · obtain ⟨q, hq, rfl⟩ := List.mem_map.mp ha
      have l1 := key_len (G.key q hq)
      refine s_when (b := false) (et_is (et_not (et_B (ev_call (ea_cons (ev_var rfl) (ea_cons ev_c ea_nil)) fun H3 x3 Q3 q3 E3 => ⟨.str q.1, sSIGNS, rfl, .str _ (by omega), q3⟩))) (by rw [G.key q hq]; rfl)) (fun z => by cases z) fun _ H3 x3 => k' H3 x3
    refine q_lockVals (qs := qs) (x2 _ _ (x1 _ _ hp)) (fun y => rfl) ⟨_, rfl⟩ (fun a ha H' Dn k' => ?_) fun y2 H3 x3 => ?_
    · obtain ⟨q, hq, rfl⟩ := List.mem_map.mp ha
      have l1 := word_len (G.word q hq)
      refine s_when (b := false) (et_is (et_not (et_B (ev_call (ea_cons (ev_var rfl) (ea_cons ev_c (ea_cons ev_c ea_nil))) fun H3 x3 Q3 q3 E3 => ⟨.str q.2, sSIGNS, 3, rfl, .str _ (by omega), q3⟩))) (by show (!isWordB q.2 sSIGNS 3) = false; rw [G.word q hq]; rfl)) (fun z => by cases z) fun _ H3 x3 => k' H3 x3
    have x13 := x1.trans (x2.trans x3)
    refine q_asgP (P := IsSL (qs.map (·.2))) (fun G1 y Q1 q1 => ⟨_, rfl, p, _, rfl, .inl (y _ _ (x13 _ _ hp)), fun l hl => q1 _ _ (Ex.new hl) ⟨l, rfl, by
      rw [upd_same]
      unfold kvG kvS
      rw [List.map_map, List.map_map, List.map_map]
      rfl⟩⟩) fun v4 H4 x4 ⟨l, ev, hl⟩ => ?_
    subst ev
    have ll : (qs.map (·.2)).length = qs.length := List.length_map _
    have z := el_lcR1 (σ := (((start nCheck [.ref p]).set 1 y1).set 2 y2).set 3 (some (.ref l))) (H := H4) (te := tCall (spBegins K) [] E0 (tCons (tOp (rIxL K) (tVar 3) (tVar 4)) (tCons (L2.tSl (rSlL K) (tVar 3) tNoPart (tPart (tVar 4))) tNil))) (t := tYes) (j := 4) (vs := [4]) (n := (qs.length : Int))
      (ta := tCons (tCB (rLenS K) (tCons (tVar 3) tNil)) tNil) (fun _ => true) (fun _ => .bl false) (ea_cons (by
        have := ev_len (K := K) (σ := (((start nCheck [.ref p]).set 1 y1).set 2 y2).set 3 (some (.ref l))) (ta := tVar 3) (ev_var rfl) (sq_of hl)
        rw [List.length_map, ll] at this
        exact this) ea_nil) ⟨by omega, by omega⟩ (fun _ => rfl) (fun _ _ _ _ => et_yes) (fun i H5 x5 hi _ => ?_)
    · have zz : EvL (tLc (iRng1 (tCons (tCB (rLenS K) (tCons (tVar 3) tNil)) tNil)) (gName 4) tYes (tCall (spBegins K) [] E0 (tCons (tOp (rIxL K) (tVar 3) (tVar 4)) (tCons (L2.tSl (rSlL K) (tVar 3) tNoPart (tPart (tVar 4))) tNil))) [4]) ((((start nCheck [.ref p]).set 1 y1).set 2 y2).set 3 (some (.ref l))) H4 ((List.replicate qs.length false).map V.bl) := by
        have e : given ((qs.length : Int)).toNat (fun _ => true) (fun _ => V.bl false) = (List.replicate qs.length false).map V.bl := by
          unfold given
          rw [all_str, show ((qs.length : Int)).toNat = qs.length by omega, List.map_replicate, List.map_const', List.length_range]
        rw [← e]
        exact z
      refine s_when (b := false) (et_is (et_B (ev_anyN zz)) (by
        rw [List.any_eq_false]
        intro b hb
        rw [(List.mem_replicate.mp hb).2]
        decide)) (fun z => by cases z) fun _ H5 x5 => k H5 (x13.trans (x4.trans x5))
    · have hi' : i < qs.length := by omega
      have hl5 := x5 _ _ hl
      refine fun H6 x6 Q6 q6 => ?_
      refine (?_ : tCons _ _ _ H6 _)
      refine (ev_op (z := .str (qs[i]).2) (ev_var rfl) (ev_var rfl) (rv_ixL (sq_of (x6 _ _ hl5)) (atI_nat (by
        rw [List.getElem?_map, List.getElem?_map, List.getElem?_eq_getElem hi']
        rfl)))) H6 (Ex.refl _) _ fun H7 x7 => ?_
      refine (?_ : tCons _ _ _ H7 _)
      refine (es_toW (K := K) (ws := qs.map (·.2)) (i := i) (by omega) (fun G1 y Q1 q1 => ⟨_, rfl, q1 _ G1 (Ex.refl _) ⟨l, rfl, y _ _ (x7 _ _ (x6 _ _ hl5))⟩⟩) (ev_var rfl)) H7 (Ex.refl _) _ fun v8 H8 x8 ⟨l8, ev8, hl8⟩ => ?_
      subst ev8
      refine ⟨_, l8, _, rfl, sq_of hl8, by rw [List.length_take]; omega, fun H9 x9 => ?_⟩
      have e : ((qs.map (·.2)).take i).any (alikeB (qs[i]).2) = false := by
        rw [List.any_eq_false]
        intro b hb
        obtain ⟨j, hj, rfl⟩ := List.getElem_of_mem hb
        rw [List.length_take] at hj
        rw [List.getElem_take, List.getElem_map, G.no hi' (by omega)]
        decide
      rw [e]
      exact q6 H9 (x7.trans (x8.trans x9))
end
end K02

set_option Elab.async false
set_option linter.all false
set_option maxRecDepth 100000
set_option maxHeartbeats 4000000
/-! Own classes: truth by len; != by the own == -/
namespace KU
open PySem PySem.Spec PyProof.Rows L2
section
variable {X : Cx} {CX : CXT} {pins : List (Addr × Obj)} {σ : L2.St} {H : Hp} {s : Shared} {C g : Addr} {n : Nat} {sp : Sp} {E : XK}
theorem spec_ins {M : Model} {A : Around} {Ex : Value → Shared → Prop} {Q : Option Value → Shared → Prop} {a : Addr} {ox : Obj} {od : Option Obj} {name : Str} {r : Option Value} (kin : X.K.In s.heap) (J : PySem.W.InstAt s.heap a ox C od)
    (nb : PySem.W.findIn X.K (.ref C) name = some r) (q : Q r s) : wpAny M A (specialOf (.ref a) name) Q Ex s := by
  unfold specialOf
  exact wpAny_bind (J.type _ _ _ _ (fun _ _ h => h) (PySem.W.looks_findIn kin nb _ _ _ _ (fun _ _ h => h) q))
/-- the truth of an instance whose class has __len__ and no __bool__ -/
theorem truthy_lenI {a dx : Addr} {fs : List (Str × V)} {Q : Bool → Hp → Prop} {A : Around} (nb : PySem.W.findIn X.K (.ref C) "__bool__" = some none) (hs : PySem.W.findIn X.K (.ref C) "__len__" = some (some (.ref g))) (hf : PySem.W.isFn X.K (.ref g) = true)
    (F : FnR X.prog X.w X.K X.mg X.base CX n g sp) (hr : Room (n + 1) A) (e0 : Env0 X.prog X.w X.K X.mg X.base A X.stack s H) (hx : Passes CX X E) (I : Inv X pins σ H s) (ha : H a = some (.ins C dx fs))
    (q : sp [.ref a] H (fun z H' => ∃ k : Nat, z = .int (k : Int) ∧ k < 9223372036854775808 ∧ Q (decide (k ≠ 0)) H') E) :
    wpAny (model X.prog X.w) A (truthy (.ref a)) (fun b s' => ∃ H', Inv X pins σ H' s' ∧ Q b H') X.xe s := by
  obtain ⟨od, Ja⟩ := ins_at I ha
  obtain ⟨m, fr⟩ := I.fr
  unfold truthy callSpecial?
  refine wpAny_bind (wpAny_bind (spec_ins I.kIn Ja nb (wpAny_pure ?_)))
  refine wpAny_bind (spec_ins I.kIn Ja hs ?_)
  rw [if_neg (by simp)]
  refine wpAny_bind (runValue_entry (b := Builtin.len) rfl ?_)
  unfold Builtin.len
  show wpAny _ _ (oneArg "len" ⟨[.ref a], []⟩ >>= _) _ _ _
  refine wpAny_bind (wpAny_pure ?_)
  refine wpAny_bind (PySem.W.special_fn I.kIn Ja hs (by unfold PySem.W.isFn at hf; exact eq_of_beq hf) ?_)
  have eA : A.under (Code.builtin "len" ⟨[.ref a], []⟩) = A.in1 := rfl
  rw [eA]
  refine wpAny_mono (own_call F hr.in1 e0.in1 hx I (vs := [.ref a]) (.cons rfl .nil) q) (fun u s' ⟨z, H', I', rz, k, ez, hk, qz⟩ => ?_) fun e s' z => z
  subst ez
  obtain ⟨t, rfl⟩ := rz
  refine wpAny_bind (wpAny_holding (wpAny_pure ?_))
  refine wpAny_bind (wpAny_letGo ?_)
  rw [if_neg (by omega), if_neg (by omega)]
  refine wpAny_bind (thn (Q := fun v s2 => v = Value.int k s'.toks ∧ s2 = { s' with toks := s'.toks + 1 }) ?_ fun v s2 ⟨e1, e2⟩ => ?_)
  · exact wpAny_mkInt ⟨rfl, rfl⟩
  subst e1
  subst e2
  refine wpAny_pure ⟨_, rfl, wpAny_pure ⟨H', I'.tok _, ?_⟩⟩
  have e : ((k : Int) != 0) = decide (k ≠ 0) := by
    by_cases h : k = 0
    · subst h
      rfl
    · have h' : (k : Int) ≠ 0 := by omega
      simp [h, h']
  rw [e]
  exact qz
/-- e as a test, e such an instance -/
def tTruI (C : Addr) (sp : Sp) (E : XK) (te : TE) : TT := fun σ H Q => te σ H fun x H1 => ∃ (a dx : Addr) (fs : List (Str × V)), x = .ref a ∧ H1 a = some (.ins C dx fs) ∧
  sp [.ref a] H1 (fun z H' => ∃ k : Nat, z = .int (k : Int) ∧ k < 9223372036854775808 ∧ Q (decide (k ≠ 0)) H') E
theorem pt_truthI {e : Expr} {te : TE} (he : PE X e te) (nb : PySem.W.findIn X.K (.ref C) "__bool__" = some none) (hs : PySem.W.findIn X.K (.ref C) "__len__" = some (some (.ref g))) (hf : PySem.W.isFn X.K (.ref g) = true)
    (F : FnR X.prog X.w X.K X.mg X.base CX n g sp) (hr : Room (n + 1) X.A) (hx : Passes CX X E)
    (hsh : ∀ whole : Sem Value, PySem.isTrue e X.env whole = (do let v ← whole; standAt e.pos; holding [v] (truthy v)) := by intro _; rfl) : PT X e (tTruI C sp E te) := by
  refine ⟨fun pins s σ H Q I h => ?_⟩
  rw [hsh]
  refine wpAny_bind (thn (he.run pins s σ H _ I h) fun u s1 ⟨x, H1, I1, rx, a, dx, fs, ex, ha, q⟩ => ?_)
  subst ex
  obtain rfl : u = Value.ref a := rx
  refine wpAny_bind (wpAny_standAt ?_)
  exact wpAny_holding (truthy_lenI nb hs hf F hr I1.env0 hx I1 ha q)
/-- a != b, both of one class, by its own == -/
def rNeI (C : Addr) (sp : Sp) (E : XK) : R2 := fun x y H Q => ∃ (a dx : Addr) (fs : List (Str × V)) (b dy : Addr) (gs : List (Str × V)), x = .ref a ∧ y = .ref b ∧ H a = some (.ins C dx fs) ∧ H b = some (.ins C dy gs) ∧
  sp [x, y] H (fun z H' => ∃ k : Bool, z = .bl k ∧ Q (.bl !k) H') E
theorem call_objNe {a b : Addr} {ox : Obj} {od : Option Obj} {A : Around} {P : Value → Shared → Prop} {Ex : Value → Shared → Prop} {pr : Program} {w : World} (kin : X.K.In s.heap) (Ja : PySem.W.InstAt s.heap a ox C od)
    (he : PySem.W.findIn X.K (.ref C) "__eq__" = some (some (.ref g))) (hf : PySem.W.isFn X.K (.ref g) = true) (hm : PySem.W.mroIn X.K C (.type "object") = some true) (hu : A.in1.units < cLine)
    (h : wpAny (model pr w) A.in1 (call (.ref g) [.ref a, .ref b]) (fun v s' => ∃ k, v = .bool k ∧ P (.bool !k) s') Ex s) :
    wpAny (model pr w) A (call (.builtin "object.__ne__") [.ref a, .ref b]) P Ex s := by
  refine wpAny_call (codeAny_call_builtin F.cmp_object.ne.plain F.cmpEntry_ne (PySem.W.check_slot F.cmpKind_ne F.cmpSplit_ne (PySem.W.Looks.andThen Ja.type (PySem.W.looks_mroIn kin hm)) (F.cmpArgs_ne _ _) ?_))
  unfold Builtin.«object.__ne__»
  have es : slotArgs "__ne__" 1 ⟨[.ref a, .ref b], []⟩ = pure (.ref a, [.ref b]) := rfl
  rw [es]
  refine wpAny_bind (wpAny_pure ?_)
  refine wpAny_bind (wpAny_cRoomFor hu ?_)
  refine wpAny_bind (PySem.W.ifBound_K kin Ja he hf (wpAny_mono h (fun r s' ⟨k, ek, q⟩ => ?_) fun _ _ e => e))
  subst ek
  exact wpAny_bind (wpAny_pure (wpAny_pure q))
end
end KU

set_option Elab.async false
set_option linter.all false
set_option maxRecDepth 100000
set_option maxHeartbeats 4000000
/-! Own classes: != by the own == -/
namespace KU
open PySem PySem.Spec PyProof.Rows L2
theorem ifBound_ne {M : Model} {A : Around} {Ex : Value → Shared → Prop} {s : Shared} {K : PySem.W.Frag} {x C : Addr} {ox : Obj} {od : Option Obj} {args : List Value} {Q : Option Value → Shared → Prop} (X : K.In s.heap) (I : PySem.W.InstAt s.heap x ox C od)
    (hs : PySem.W.findIn K (.ref C) "__ne__" = some (some (.builtin "object.__ne__"))) (h : wpAny M A (call (.builtin "object.__ne__") (.ref x :: args)) (fun v => Q (some v)) Ex s) :
    wpAny M A (callSpecialIfBound? (.ref x) "__ne__" args) Q Ex s := by
  unfold callSpecialIfBound? bindSpecialIfBound? specialOf
  refine wpAny_holding (wpAny_bind (wpAny_bind (wpAny_bind (PySem.W.Looks.here I.type (PySem.W.Looks.here (PySem.W.looks_findIn X hs) ?_)))))
  refine wpAny_bind (wpAny_askSetting (wpAny_ite ?_))
  have fin : wpAny M A (call (.builtin "object.__ne__") (.ref x :: args) >>= fun a => pure (some a)) Q Ex s := wpAny_bind (wpAny_mono h (fun v s' h' => wpAny_pure h') fun _ _ h' => h')
  split
  · exact wpAny_bind (wpAny_of_eq (F.cmp_object.ne.bind (.ref x)) (wpAny_pure fin))
  · exact wpAny_tryCatch (wpAny_bind (wpAny_of_eq (F.cmp_object.ne.bind (.ref x)) (wpAny_pure fin)))
section
variable {X : Cx} {CX : CXT} {pins : List (Addr × Obj)} {σ : L2.St} {H : Hp} {s : Shared} {C g : Addr} {n : Nat} {sp : Sp} {E : XK}
theorem op_neI (hs : PySem.W.findIn X.K (.ref C) "__ne__" = some (some (.builtin "object.__ne__"))) (he : PySem.W.findIn X.K (.ref C) "__eq__" = some (some (.ref g))) (hf : PySem.W.isFn X.K (.ref g) = true)
    (hm : PySem.W.mroIn X.K C (.type "object") = some true) (F : FnR X.prog X.w X.K X.mg X.base CX n g sp) (hr : Room (n + 1) X.A) (hx : Passes CX X E) : OpR X (compareOp .NotEq) (rNeI C sp E) := by
  intro pins s σ H x y u v Q I rx ry h
  obtain ⟨a, dx, fs, b, dy, gs, rfl, rfl, ha, hb, q⟩ := h
  obtain rfl : u = Value.ref a := rx
  obtain rfl : v = Value.ref b := ry
  obtain ⟨od, Ja⟩ := ins_at I ha
  obtain ⟨oe, Jb⟩ := ins_at I hb
  have hu : X.A.units < cLine := Nat.lt_of_le_of_lt (Nat.le_add_right _ 64) hr.units
  have hu1 : X.A.in1.units < cLine := Nat.lt_of_le_of_lt (Nat.le_add_right _ 64) hr.in1.units
  show wpAny _ _ (richCompare .NotEq (.ref a) (.ref b)) _ _ _
  unfold richCompare
  refine wpAny_holding (wpAny_bind (wpAny_cRoomFor hu ?_))
  have e1 : oneThing? .NotEq (.ref a) (.ref b) = none := rfl
  rw [e1]
  show wpAny _ _ (typeOf (.ref a) >>= _) _ _ _
  refine wpAny_bind (PySem.W.Looks.here Ja.type (wpAny_bind (PySem.W.Looks.here Jb.type ?_)))
  rw [if_neg (by simp)]
  refine wpAny_bind (wpAny_pure ?_)
  show wpAny _ _ (tryCompare (.ref a) "__ne__" (.ref b) >>= _) _ _ _
  refine wpAny_bind ?_
  unfold tryCompare
  refine wpAny_bind (ifBound_ne I.kIn Ja hs (call_objNe I.kIn Ja he hf hm hu1 ?_))
  refine wpAny_mono (own_call F hr.in1 I.env0.in1 hx I (vs := [.ref a, .ref b]) (.cons rfl (.cons rfl .nil)) q) (fun u s' ⟨z, H', I', rz, k, ez, qz⟩ => ?_) fun e s' z => z
  subst ez
  cases rz
  exact ⟨k, rfl, wpAny_pure (wpAny_pure ⟨.bl !k, H', I', rfl, qz⟩)⟩
end
end KU

set_option Elab.async false
set_option linter.all false
set_option maxRecDepth 100000
set_option maxHeartbeats 4000000
/-! moves.py: Code made, compared -/
namespace K02
open PySem PySem.Spec PyProof.Rows L2 Evl KU
def ExB (a : Addr) (H H' : Hp) : Prop := ∀ b o, b ≠ a → H b = some o → H' b = some o
structure ClsO (K : PySem.W.Frag) (C : Addr) : Prop extends Cls K C where
  cA : PySem.W.findIn K (.ref C) "__class__" = some (some (.builtin "object.__class__"))
  cG : PySem.W.specialIn K (.builtin "object.__class__") "__get__" = some (some (.builtin "getset_descriptor.__get__"))
  cT : PySem.W.takesIn K (.builtin "object.__class__") = some true
  cM : PySem.W.mroIn K C (.type "object") = some true
  cI : PySem.W.kitOne K (.ref C) (.ref C) = some true
structure ClsCd (K : PySem.W.Frag) (mg : Str → Option Value) (C : Addr) : Prop extends ClsO K C where
  nWords : NoAttr K C "words"
  nOf : NoAttr K C "_word_of"
  gC : mg "Code" = some (.ref C)
/-- a Code of these words -/
def CodeAt (C : Addr) (H : Hp) (a : Addr) (ws : List (Str × Str)) : Prop := ∃ (dx W O : Addr) (ts : List Addr), H a = some (.ins C dx [("words", .ref W), ("_word_of", .ref O)]) ∧ H W = some (.tup (ts.map V.ref)) ∧
  Paired (fun (t : Addr) (q : Str × Str) => H t = some (.tup [V.str q.1, V.str q.2])) ts ws ∧ H O = some (.dK (kvG (kvS ws)))
theorem CodeAt.mono {C : Addr} {H H' : Hp} {a : Addr} {ws : List (Str × Str)} (x : Ex H H') (h : CodeAt C H a ws) : CodeAt C H' a ws := by
  obtain ⟨dx, W, O, ts, h1, h2, h3, h4⟩ := h
  exact ⟨dx, W, O, ts, x _ _ h1, x _ _ h2, paired_imp2 h3 fun _ _ h => x _ _ h, x _ _ h4⟩
def IsC (C : Addr) (ws : List (Str × Str)) : V → Hp → Prop := fun v H => ∃ a, v = .ref a ∧ CodeAt C H a ws
theorem up_isC (C : Addr) (ws : List (Str × Str)) : Up (IsC C ws) := fun v H H' x ⟨a, e, h⟩ => ⟨a, e, h.mono x⟩
/-- the words as they stand in a Code -/
def codeOf (qs : List (Str × Str)) : List (Str × Str) := (srt (qs.map (·.1))).map fun k => (k, wOf qs k)
theorem codeOf_keys (qs : List (Str × Str)) : (codeOf qs).map (·.1) = srt (qs.map (·.1)) := by
  unfold codeOf
  rw [List.map_map]
  exact List.map_id' _
theorem codeOf_mem {qs : List (Str × Str)} (nd : (qs.map (·.1)).Nodup) (q : Str × Str) : q ∈ codeOf qs ↔ q ∈ qs := by
  unfold codeOf
  rw [List.mem_map]
  constructor
  · rintro ⟨k, hk, rfl⟩
    exact wOf_mem ((mem_srt _ k).mp hk)
  · intro h
    exact ⟨q.1, (mem_srt _ _).mpr (List.mem_map.mpr ⟨q, h, rfl⟩), by rw [wOf_of nd (show (q.1, q.2) ∈ qs from h)]⟩
theorem srt_congr {a b : List Str} (h : ∀ t, t ∈ a ↔ t ∈ b) : srt a = srt b := srt_is (srt_sorted a) (nodup_srt a) fun k => (mem_srt a k).trans (h k)
/-- the same pairs make the same words -/
theorem codeOf_same {ps qs : List (Str × Str)} (n1 : (ps.map (·.1)).Nodup) (n2 : (qs.map (·.1)).Nodup) (h : ∀ q, q ∈ ps ↔ q ∈ qs) : codeOf ps = codeOf qs := by
  have e : srt (ps.map (·.1)) = srt (qs.map (·.1)) := srt_congr fun k => by
    rw [List.mem_map, List.mem_map]
    exact exists_congr fun q => and_congr_left fun _ => h q
  unfold codeOf
  rw [e]
  refine List.map_congr_left fun k hk => ?_
  have m := wOf_mem ((mem_srt _ k).mp hk)
  rw [wOf_of n1 ((h _).mpr m)]
theorem codeOf_len {qs : List (Str × Str)} (nd : (qs.map (·.1)).Nodup) : (codeOf qs).length = qs.length := by
  have h1 : (codeOf qs).length = (srt (qs.map (·.1))).length := by
    unfold codeOf
    rw [List.length_map]
  have h2 : (srt (qs.map (·.1))).Perm (qs.map (·.1)) := (List.perm_ext_iff_of_nodup (nodup_srt _) nd).mpr fun k => mem_srt _ k
  rw [h1, h2.length_eq, List.length_map]
section
variable {K : PySem.W.Frag} {σ : L2.St} {H : Hp} {te tl tk tv ta : TE} {i j : Nat} {vs : List Nat}
theorem es_sorted {ws : List Str} (h : EvL tl σ H (ws.map V.str)) (nd : ws.Nodup) (lt : ws.length < 64) : EvP (tCB (rSortedS K) (tCons tl tNil)) σ H (IsSL (srt ws)) := fun H1 x1 Q q =>
  h H1 x1 _ fun p H2 hp x2 e => ⟨p, ws, rfl, sq_of e, lt, fun ys r pe so hr => by
    have es : ys = srt ws := srt_is so (pe.nodup_iff.mpr nd) fun k => pe.mem_iff
    subst es
    exact q _ _ (x2.trans (Ex.new hr)) ⟨r, rfl, upd_same⟩⟩
/-- {key: value for a, b in a tuple of pairs} -/
theorem evp_dcT {W : Addr} {ts : List Addr} {ws : List (Str × Str)} (k v : Str × Str → Str) (hx : Ev te σ H (.ref W)) (hW : H W = some (.tup (ts.map V.ref))) (pr : Paired (fun (t : Addr) (q : Str × Str) => H t = some (.tup [V.str q.1, V.str q.2])) ts ws)
    (nd : (ws.map k).Nodup) (few : ws.length ≤ 1000) (hw : ∀ x y : V, wipe (((wipe σ vs).set i (some x)).set j (some y)) vs = wipe σ vs)
    (h1 : ∀ q ∈ ws, ∀ H1, Ex H H1 → Ev tk (((wipe σ vs).set i (some (.str q.1))).set j (some (.str q.2))) H1 (.str (k q))) (h2 : ∀ q ∈ ws, ∀ H1, Ex H H1 → Ev tv (((wipe σ vs).set i (some (.str q.1))).set j (some (.str q.2))) H1 (.str (v q))) :
    EvP (tDc (iTup K te) (gTup K 2 (gCons (gName i) (gCons (gName j) gNil))) tYes tk tv vs) σ H (IsW (ws.map fun q => (k q, v q))) := fun H1 x1 Q q =>
  hx H1 x1 _ fun H2 x2 => ⟨W, rfl, ⟨_, st_of ((x1.trans x2) _ _ hW)⟩, fun D hD => by
    have x12 := x1.trans x2
    have ll := Paired.length pr
    have lm : (ts.map V.ref).length = ws.length := by rw [List.length_map, ll]
    refine dc_it (walk_tup (K := K) (a := W) (xs := ts.map V.ref)) (Pv := fun n H' => Ex H2 H' ∧ H' D = some (.dK (kvG (kvS ((ws.take n).map fun q => (k q, v q)))))) ⟨Ex.new hD, upd_same⟩ (fun n H' _ c => st_of (c.1 _ _ (x12 _ _ hW))) (fun n x H3 H4 hn c y => ?_) fun H3 c => ?_
    · obtain ⟨rfl, hx'⟩ := y
      rw [List.getElem?_map] at hx'
      obtain ⟨t, ht, rfl⟩ := Option.map_eq_some_iff.mp hx'
      obtain ⟨q0, hq0, hT⟩ := paired_get pr ht
      have mq := List.mem_of_getElem? hq0
      have x3 := x12.trans c.1
      refine ⟨t, _, rfl, st_of (x3 _ _ hT), rfl, _, _, rfl, _, _, rfl, rfl, hw _ _, ?_⟩
      unfold tYes
      dsimp only
      rw [if_pos rfl]
      refine h1 q0 mq H4 x3 H4 (Ex.refl _) _ fun H5 x5 => ?_
      refine h2 q0 mq H4 x3 H5 x5 _ fun H6 x6 => ?_
      have x46 := x5.trans x6
      refine ⟨_, Sum.inr (k q0), rfl, x46 _ _ c.2, ?_, ?_, ?_⟩
      · rw [kvS_len, List.length_map, List.length_take, sizeLine_eq]
        omega
      · intro b o hb
        rw [upd_ne (ne_of_none hb hD)]
        exact x46 _ _ (c.1 _ _ hb)
      · have nin : k q0 ∉ ((ws.take n).map fun q => (k q, v q)).map (·.1) := by
          rw [List.map_map]
          intro z
          obtain ⟨q1, m1, e1⟩ := List.mem_map.mp z
          have e1 : k q1 = k q0 := e1
          obtain ⟨m, hm, rfl⟩ := List.getElem_of_mem m1
          rw [List.length_take] at hm
          rw [List.getElem_take] at e1
          have g1 : (ws.map k)[m]? = some (k q0) := by rw [List.getElem?_map, List.getElem?_eq_getElem (by omega), ← e1]; rfl
          have g2 : (ws.map k)[n]? = some (k q0) := by rw [List.getElem?_map, hq0]; rfl
          have := nd_idx nd g1 g2
          omega
        rw [upd_same, put_newS nin, List.take_succ, hq0, List.map_append]
        rfl
    · rw [lm, List.take_length] at c
      exact q _ H3 (x2.trans c.1) ⟨D, rfl, c.2⟩⟩
/-- over a tuple of pairs -/
theorem el_pairsT {W : Addr} {ts : List Addr} {ws : List (Str × Str)} (φ : Str × Str → V) (hx : Ev tl σ H (.ref W)) (hs : H W = some (.tup (ts.map V.ref))) (hp : Paired (fun (t : Addr) (q : Str × Str) => H t = some (.tup [V.str q.1, V.str q.2])) ts ws) (hl : ts.length ≤ 40000)
    (hw : ∀ x y : V, wipe (((wipe σ vs).set i (some x)).set j (some y)) vs = wipe σ vs)
    (he : ∀ q ∈ ws, ∀ H1, Ex H H1 → Ev te (((wipe σ vs).set i (some (.str q.1))).set j (some (.str q.2))) H1 (φ q)) : EvL (tLc (iTup K tl) (gTup K 2 (gCons (gName i) (gCons (gName j) gNil))) tYes te vs) σ H (ws.map φ) := by
  have ll := Paired.length hp
  have eg : given ts.length (fun _ => true) (fun n => (ws[n]?.map φ).getD .non) = ws.map φ := by
    unfold given
    rw [ll]
    exact given_all ws _ φ fun n x h => by rw [h]; rfl
  rw [← eg]
  intro H1 x1 Q q
  refine hx H1 x1 _ fun H2 x2 => ⟨W, rfl, ⟨_, st_of ((x1.trans x2) _ _ hs)⟩, fun D hD => ?_⟩
  have ls : (ts.map V.ref).length = ts.length := List.length_map _
  rw [← ls] at q
  refine lc_it (walk_tup (K := K) (a := W) (xs := ts.map V.ref)) (Cw H2 (fun _ => true) (fun n => (ws[n]?.map φ).getD .non) D) ⟨hD, Ex.new hD, upd_same⟩ (fun n H' _ p => st_of (p.2.1 _ _ ((x1.trans x2) _ _ hs))) (fun n x H' H3 hlt p y => ?_) (fun H' p => q D H' (fresh_back x2 p.1) (x2.trans p.2.1) p.2.2)
  obtain ⟨rfl, hn⟩ := y
  rw [List.getElem?_map] at hn
  obtain ⟨t, ht, rfl⟩ := Option.map_eq_some_iff.mp hn
  obtain ⟨qv, hq, hT⟩ := paired_get hp ht
  have nl : n < 50000 := by
    have := (List.getElem?_eq_some_iff.mp ht).1
    omega
  refine ⟨t, _, rfl, st_of (p.2.1 _ _ ((x1.trans x2) _ _ hT)), rfl, _, _, rfl, _, _, rfl, rfl, hw _ _, ?_⟩
  refine cw_turn p nl et_yes fun _ => ?_
  rw [hq]
  exact he qv (List.mem_of_getElem? hq) H2 (x1.trans x2)
end
/-- a tuple of pairs of texts -/
def IsTI (qs : List (Str × Str)) : V → Hp → Prop := fun v H => ∃ (W : Addr) (ts : List Addr), v = .ref W ∧ H W = some (.tup (ts.map V.ref)) ∧ Paired (fun (t : Addr) (q : Str × Str) => H t = some (.tup [V.str q.1, V.str q.2])) ts qs
abbrev rTupleOf (K : PySem.W.Frag) : List V → Hp → VK → Prop := fun xs H Q => ∃ (p : Addr) (ys : List V), xs = [V.ref p] ∧ ((SqL K H p ys ∧ ∀ l : Addr, H l = none → Q (V.ref l) (upd H l (.tup ys))) ∨ (SqT K H p ys ∧ Q (V.ref p) H))
section
variable {K : PySem.W.Frag} {σ : L2.St} {H : Hp} {tl tv : TE} {i : Nat} {tz : TS} {D : L2.Ends} {f : Str} {Pz : V → Hp → Prop} {a : Addr}
theorem evp_tupI {qs : List (Str × Str)} (h : EvP tl σ H (IsI qs)) : EvP (tCB (rTupleOf K) (tCons tl tNil)) σ H (IsTI qs) := fun H1 x1 Q q => h H1 x1 _ fun v H2 x2 ⟨l, ts, e, hl, pr⟩ => by
  subst e
  exact ⟨l, ts.map V.ref, rfl, .inl ⟨sq_of hl, fun W hW => q _ _ (x2.trans (Ex.new hW)) ⟨W, ts, rfl, upd_same, paired_imp2 pr fun _ _ h => (Ex.new hW) _ _ h⟩⟩⟩
/-- self.f = .. -/
theorem q_fldP (h : EvP tv σ H Pz) (hσ : σ[i]? = some (some (.ref a))) (k : ∀ v H1, Ex H H1 → Pz v H1 → ∃ (C dx : Addr) (fs : List (Str × V)), H1 a = some (.ins C dx fs) ∧ Cls K C ∧ NoAttr K C f ∧ fs.length < 1000 ∧ tz D σ (upd H1 a (.ins C dx (putF f v fs)))) : tSeq (sFld K (tVar i) tv f) tz D σ H :=
  h H (Ex.refl _) _ fun v H1 x1 p => by
    obtain ⟨C, dx, fs, h1, h2, h3, h4, h5⟩ := k v H1 x1 p
    exact ⟨_, hσ, a, C, dx, fs, rfl, h1, h2, h3, h4, h5⟩
theorem s_fldP (h : EvP tv σ H Pz) (hσ : σ[i]? = some (some (.ref a))) (k : ∀ v H1, Ex H H1 → Pz v H1 → ∃ (C dx : Addr) (fs : List (Str × V)), H1 a = some (.ins C dx fs) ∧ Cls K C ∧ NoAttr K C f ∧ fs.length < 1000 ∧ D.nx σ (upd H1 a (.ins C dx (putF f v fs)))) : sFld K (tVar i) tv f D σ H :=
  h H (Ex.refl _) _ fun v H1 x1 p => by
    obtain ⟨C, dx, fs, h1, h2, h3, h4, h5⟩ := k v H1 x1 p
    exact ⟨_, hσ, a, C, dx, fs, rfl, h1, h2, h3, h4, h5⟩
end
/-! ### Code.__init__ -/
def spCInit (C : Addr) : Sp := fun vs H Q _ => ∃ (a p dx : Addr) (qs : List (Str × Str)), vs = [.ref a, .ref p] ∧ H a = some (.ins C dx []) ∧ H p = some (.dK (kvG (kvS qs))) ∧ GoodW qs ∧ ∀ H', ExB a H H' → CodeAt C H' a (codeOf qs) → Q .non H'
abbrev nCInit : List Str := ["self", "words", "content", "sign", "word"]
theorem scCInit : FnScope nCInit ["self", "words"] (defScope (codeM 0)) := ⟨rfl, rfl, rfl, by decide +kernel, rfl, by decide +kernel, by decide +kernel⟩
theorem ev_fld {K : PySem.W.Frag} {σ : L2.St} {H : Hp} {te : TE} {a C dx : Addr} {fs : List (Str × V)} {f : Str} {v : V} (h : Ev te σ H (.ref a)) (ha : H a = some (.ins C dx fs)) (cl : Cls K C) (no : NoAttr K C f) (lk : fs.lookup f = some v) : Ev (tFld K te f) σ H v :=
  fun H1 x1 Q q => h H1 x1 _ fun H2 x2 => ⟨a, C, dx, fs, v, rfl, (x1.trans x2) _ _ ha, cl, no, lk, q H2 x2⟩
section
variable {P : Program} {w : World} {K : PySem.W.Frag} {mg : Str → Option Value} {base : Heap} {C : Addr}
theorem ok_cinit {f fK : Addr} {fd fdK : FuncData} (F : Fun K "__init__" "Code.__init__" (codeM 0) f fd) (T : Free mg) (CC : ClsCd K mg C) (GK : FnOk P w K mg base CX0 3 fK fdK ["words"] spCheck) (bK : Binds K fdK ["words"] []) (gK : mg "check_words" = some (.ref fK)) (kK : PySem.W.keepIn K (.ref fK) = true) :
    FnOk P w K mg base CX0 4 f fd ["self", "words"] (spCInit C) := by
  refine F.ok scCInit (fun vs H Q E h => ?_) (fun cdv A outer s H vs Q E hr h => ?_)
  · obtain ⟨_, _, _, _, rfl, _⟩ := h
    rfl
  · obtain ⟨a, p, dx, qs, rfl, ha, hp, G, k⟩ := h
    have nd := scCInit.nd
    refine ⟨_, pss_cons (ps_expr (pe_call GK hr (by rfl) gK kK bK .nil pass0 (pa_cons (pv 1) pa_nil)))
      (pss_cons (ps_set (i := 2) nd rfl (.inl rfl) (pe_callB (r := rSortedS K) (by exact cr_sortedS) (by rfl) T.sorted (by decide +kernel) (pa_cons (pe_lock (pe_lc (own := [("sign", 3)]) (wi := iKeys (tVar 1)) (g := gName 3) (tt := tYes) rfl nd (by exact pi_keys (pv 1)) (by refine blkOk_by (own := [("sign", 3)]) (N := nCInit) (sc := defScope (codeM 0)) ?_; decide +kernel)
          (fun _ _ _ _ _ => pg_name (i := 3) nd rfl (Or.inl rfl)) (fun _ _ _ _ _ => pts_nil) (fun _ _ _ _ _ => pe_callTy SkE.call_str_str (by rfl) T.str (by decide +kernel) (pa_cons (pv 3) pa_nil)))) pa_nil)))
      (pss_cons (ps_fld (pv 0) (pe_callTy call_tuple_of (by rfl) T.tuple (by decide +kernel) (pa_cons (pe_lc (own := [("sign", 3)]) (wi := iList K (tVar 2)) (g := gName 3) (tt := tYes) rfl nd (by exact pi_list (pv 2)) (by refine blkOk_by (own := [("sign", 3)]) (N := nCInit) (sc := defScope (codeM 0)) ?_; decide +kernel)
          (fun _ _ _ _ _ => pg_name (i := 3) nd rfl (Or.inl rfl)) (fun _ _ _ _ _ => pts_nil) (fun _ _ _ _ _ => pe_tup (pa_cons (pv 3) (pa_cons (pe_dget (hu_of hr) (pv 1) (pv 3) (fun _ _ => rfl)) pa_nil)))) pa_nil)) rfl)
      (pss_one (ps_fld (pv 0) (pe_dc (own := [("sign", 3), ("word", 4)]) (wi := iTup K (tFld K (tVar 0) "words")) (g := gTup K 2 (gCons (gName 3) (gCons (gName 4) gNil))) (tt := tYes) rfl nd (by exact pi_tup (pe_fld (pv 0) rfl)) (by refine blkOk_by (own := [("sign", 3), ("word", 4)]) (N := nCInit) (sc := defScope (codeM 0)) ?_; decide +kernel)
          (fun _ _ _ _ _ => (pg_tup (by rfl) (pgs_cons (pg_name (i := 3) nd rfl (Or.inl rfl)) (pgs_cons (pg_name (i := 4) nd rfl (Or.inl rfl)) pgs_nil)))) (fun _ _ _ _ _ => pts_nil) (fun _ _ _ _ _ => pv 3) (fun _ _ _ _ _ => pv 4)) rfl)))), ?_⟩
    have few := G.few
    have kl : (qs.map (·.1)).length = qs.length := List.length_map _
    have cl := codeOf_len G.nd
    have kd : ((codeOf qs).map (·.1)).Nodup := by
      rw [codeOf_keys]
      exact nodup_srt _
    refine q_drop (v := .non) (ev_call (ea_cons (ev_var rfl) ea_nil) fun H1 x1 Q1 q1 E1 => ⟨p, qs, rfl, x1 _ _ hp, G, q1⟩) fun H1 x1 => ?_
    -- content
    refine q_asgP (P := IsSL (srt (qs.map (·.1)))) (es_sorted (el_lockE (x1 _ _ hp) trivial fun od H2 x2 => ?_) G.nd (by omega)) fun v3 H3 x3 ⟨l, ev, hl⟩ => ?_
    · have z := el_fmK (σ := start nCInit [.ref a, .ref p]) (H := upd H2 p (.frz od (.dK (kvG (kvS qs))))) (te := tCB (fun xs H Q => ∃ a : Str, xs = [V.str a] ∧ Q (V.str a) H) (tCons (tVar 3) tNil)) (tl := tVar 1) (t := tYes) (j := 3) (vs := [3]) (d := p) (fun _ => true) (fun x => x)
        (ev_var rfl) upd_same (by rw [kvS_len]; omega) (fun _ => rfl) (fun _ _ _ _ => et_yes) (fun x H4 x4 m _ => by
          have e := congrArg (List.map kV) (kvS_keys qs)
          rw [List.map_map, List.map_map] at e
          have e : (kvG (kvS qs)).map (fun kv => kV kv.1) = (qs.map (·.1)).map V.str := e
          rw [e] at m
          obtain ⟨c, mc, rfl⟩ := mem_str m
          exact ev_cb (ea_cons (ev_var rfl) ea_nil) fun H7 x7 Q7 q7 => ⟨c, rfl, q7 H7 (Ex.refl _)⟩)
      have e := congrArg (List.map kV) (kvS_keys qs)
      rw [List.map_map, List.map_map] at e
      have e : (kvG (kvS qs)).map (fun kv => kV kv.1) = (qs.map (·.1)).map V.str := e
      rw [e, all_str, List.map_id'] at z
      exact z
    subst ev
    have x13 := x1.trans x3
    -- words
    refine q_fldP (Pz := IsTI (codeOf qs)) (a := a) (evp_tupI (evp_prsL (K := K) (zs := srt (qs.map (·.1))) (fun s => s) (fun s => wOf qs s) (fun G1 y Q1 q1 => ⟨_, rfl, q1 _ G1 (Ex.refl _) ⟨l, rfl, y _ _ hl⟩⟩) (by have := codeOf_len G.nd; unfold codeOf at this; rw [List.length_map] at this; omega) (fun _ => rfl) (fun s H4 x4 ms => ev_var rfl) (fun s H4 x4 ms => ev_dget (k := Sum.inr s) (ev_var rfl) (ev_var (v := .str s) rfl) (x4 _ _ (x13 _ _ hp)) (val_of ((mem_srt _ s).mp ms))))) rfl fun v5 H5 x4 ⟨W, ts, ev5, e5, pr5⟩ => ?_
    subst ev5
    have x15 := x13.trans x4
    refine ⟨C, dx, [], x15 _ _ ha, CC.toCls, CC.nWords, by simp, ?_⟩
    have Wa : W ≠ a := fun z => by
      rw [z, x15 _ _ ha] at e5
      cases e5
    have b6 : ExB a H (upd H5 a (.ins C dx (putF "words" (.ref W) []))) := fun b o ne hb => by
      rw [upd_ne ne]
      exact x15 _ _ hb
    have e6 : upd H5 a (.ins C dx (putF "words" (.ref W) [])) a = some (.ins C dx [("words", .ref W)]) := upd_same
    have w6 : upd H5 a (.ins C dx (putF "words" (.ref W) [])) W = some (.tup (ts.map V.ref)) := by
      rw [upd_ne Wa]
      exact e5
    have pr6 : Paired (fun (t : Addr) (q : Str × Str) => upd H5 a (.ins C dx (putF "words" (.ref W) [])) t = some (.tup [V.str q.1, V.str q.2])) ts (codeOf qs) := paired_imp2 pr5 fun t q h => by
      have ta : t ≠ a := fun z => by
        rw [z, x15 _ _ ha] at h
        cases h
      rw [upd_ne ta]
      exact h
    generalize upd H5 a (.ins C dx (putF "words" (.ref W) [])) = H6 at b6 e6 w6 pr6 ⊢
    -- _word_of
    refine s_fldP (Pz := IsW ((codeOf qs).map fun q : Str × Str => (q.1, q.2))) (a := a) (evp_dcT (K := K) (σ := [some (.ref a), some (.ref p), some (.ref l), none, none]) (i := 3) (j := 4) (vs := [3, 4]) (tk := tVar 3) (tv := tVar 4) (ws := codeOf qs) (fun q => q.1) (fun q => q.2) (ev_fld (te := tVar 0) (ev_var rfl) e6 CC.toCls CC.nWords rfl) w6 pr6 kd (by omega) (fun _ _ => rfl) (fun q hq H7 x7 => ev_var rfl) (fun q hq H7 x7 => ev_var rfl)) rfl fun v7 H7 x7 ⟨O, ev7, hO⟩ => ?_
    subst ev7
    refine ⟨C, dx, _, x7 _ _ e6, CC.toCls, CC.nOf, by simp, ?_⟩
    have Oa : O ≠ a := fun z => by
      rw [z, x7 _ _ e6] at hO
      cases hO
    rw [List.map_id'] at hO
    refine k _ (fun b o nb hb => by rw [upd_ne nb]; exact x7 _ _ (b6 _ _ nb hb)) ⟨dx, W, O, ts, upd_same, ?_, paired_imp2 pr6 fun t q h => ?_, ?_⟩
    · rw [upd_ne Wa]
      exact x7 _ _ w6
    · have ta : t ≠ a := fun z => by
        rw [z, e6] at h
        cases h
      rw [upd_ne ta]
      exact x7 _ _ h
    · rw [upd_ne Oa]
      exact hO
end
end K02

set_option Elab.async false
set_option linter.all false
set_option maxRecDepth 100000
set_option maxHeartbeats 4000000
/-! moves.py: Code compared, Put -/
namespace K02
open PySem PySem.Spec PyProof.Rows L2 Evl KU
section
variable {K : PySem.W.Frag} {σ : L2.St} {H : Hp} {ta tb : TE} {tr : TA} {r : R2} {x z : V} {P : V → Hp → Prop}
/-- a tuple of texts -/
def IsTS (ws : List Str) : V → Hp → Prop := fun v H => ∃ p, v = .ref p ∧ H p = some (.tup (ws.map V.str))
theorem up_isTS (ws : List Str) : Up (IsTS ws) := fun v H H' x ⟨p, e, h⟩ => ⟨p, e, x _ _ h⟩
theorem ep_ts {ws : List Str} (h : EvA tr σ H (ws.map V.str)) (hl : ws.length ≤ 1000) : EvP (tTup tr) σ H (IsTS ws) := fun H1 e Q q => h H1 e _ fun H2 e2 =>
  ⟨sz_of (by rw [List.length_map]; omega), fun p hp => q _ _ (e2.trans (Ex.new hp)) ⟨p, rfl, upd_same⟩⟩
theorem all_ts : ∀ {wss : List (List Str)} {xs : List V}, Each (wss.map IsTS) xs H → DpAll K H xs (wss.map fun ws => .tuple (dstrs ws))
  | [], xs, h => by
    have l := h.len
    cases xs with
    | nil => exact .nil
    | cons a r => cases l
  | ws :: wss, xs, h => by
    unfold Each at h
    cases h with
    | cons h1 h2 =>
      obtain ⟨p, rfl, hp⟩ := h1
      exact .cons (.tup (st_of hp) (dp_strs ws)) (all_ts h2)
theorem up_ts (wss : List (List Str)) : ∀ P ∈ wss.map IsTS, Up P := fun P h => by
  obtain ⟨d, _, rfl⟩ := List.mem_map.mp h
  exact up_isTS d
theorem lay_ts (wss : List (List Str)) (h : ∀ ws ∈ wss, ∀ t ∈ ws, PyData.strOk t = true) : PyData.canLayAll0 (wss.map fun ws => .tuple (dstrs ws)) = true := by
  induction wss with
  | nil => rfl
  | cons ws r ih =>
    have z := ih fun w m => h w (List.mem_cons_of_mem _ m)
    have y := lay_strs ws (h ws List.mem_cons_self)
    simp only [List.map_cons, PyData.canLayAll0, PyData.canLay0, Bool.and_eq_true] at z ⊢
    exact ⟨y, z⟩
theorem depth_ts (wss : List (List Str)) : PyData.depthAll (wss.map fun ws => .tuple (dstrs ws)) ≤ 2 := by
  induction wss with
  | nil => simp [PyData.depthAll]
  | cons ws r ih =>
    have y := depth_strs ws
    simp only [List.map_cons, PyData.depthAll, PyData.depth]
    omega
theorem shaped_ts (wss : List (List Str)) (h : ∀ ws ∈ wss, ∀ t ∈ ws, PyData.strOk t = true) : SeqAt.shaped (.list (wss.map fun ws => .tuple (dstrs ws))) = true := by
  have d := depth_ts wss
  have e : PyData.depth (.list (wss.map fun ws => .tuple (dstrs ws))) ≤ 64 := by
    simp only [PyData.depth]
    omega
  show (PyData.canLay0 (.list (wss.map fun ws => .tuple (dstrs ws))) && decide (PyData.depth (.list (wss.map fun ws => .tuple (dstrs ws))) ≤ 64)) = true
  rw [Bool.and_eq_true]
  exact ⟨by simp only [PyData.canLay0]; exact lay_ts wss h, decide_eq_true e⟩
theorem eqv_ts (wss : List (List Str)) (h : ∀ ws ∈ wss, ∀ t ∈ ws, PyData.strOk t = true) : PyData.eqv (.list (wss.map fun ws => .tuple (dstrs ws))) (.list (wss.map fun ws => .tuple (dstrs ws))) = true := by
  have z := shaped_ts wss h
  unfold SeqAt.shaped at z
  rw [Bool.and_eq_true] at z
  exact SeqAt.eqv_refl _ z.1
end
def pairD (q : Str × Str) : PyData := .tuple (dstrs [q.1, q.2])
theorem pairs_eqv : ∀ a b : List (Str × Str), PyData.eqvAll (a.map pairD) (b.map pairD) = decide (a = b)
  | [], [] => rfl
  | [], q :: r => by
    rw [decide_eq_false (by simp)]
    rfl
  | q :: r, [] => by
    rw [decide_eq_false (by simp)]
    rfl
  | p :: r, q :: s => by
    have ih := pairs_eqv r s
    show (PyData.eqv (.tuple (dstrs [p.1, p.2])) (.tuple (dstrs [q.1, q.2])) && PyData.eqvAll (r.map pairD) (s.map pairD)) = _
    rw [ih, eqv_strsT, Bool.eq_iff_iff, Bool.and_eq_true, decide_eq_true_eq, decide_eq_true_eq, decide_eq_true_eq]
    constructor
    · rintro ⟨h, rfl⟩
      have h1 := (List.cons.inj h).1
      have h2 := (List.cons.inj (List.cons.inj h).2).1
      rw [show p = q from Prod.ext h1 h2]
    · intro h
      injection h with h1 h2
      subst h1 h2
      exact ⟨rfl, rfl⟩
def OkW (ws : List (Str × Str)) : Prop := ∀ q ∈ ws, PyData.strOk q.1 = true ∧ PyData.strOk q.2 = true
def pairsS (ws : List (Str × Str)) : List (List Str) := ws.map fun q => [q.1, q.2]
theorem OkW.each {ws : List (Str × Str)} (h : OkW ws) : ∀ us ∈ pairsS ws, ∀ t ∈ us, PyData.strOk t = true := fun us hu t ht => by
  obtain ⟨q, hq, rfl⟩ := List.mem_map.mp hu
  rcases List.mem_cons.mp ht with rfl | ht
  · exact (h q hq).1
  · rw [List.mem_singleton.mp ht]
    exact (h q hq).2
theorem pairs_data (ws : List (Str × Str)) : (pairsS ws).map (fun us => PyData.tuple (dstrs us)) = ws.map pairD := by
  unfold pairsS
  rw [List.map_map]
  rfl
theorem shaped_prs {ws : List (Str × Str)} (h : OkW ws) : SeqAt.shaped (.tuple (ws.map pairD)) = true := by
  have z := shaped_ts (pairsS ws) h.each
  rw [pairs_data] at z
  unfold SeqAt.shaped at z ⊢
  rw [Bool.and_eq_true, decide_eq_true_eq] at z ⊢
  exact ⟨by have := z.1; simp only [PyData.canLay0] at this ⊢; exact this, by have := z.2; simp only [PyData.depth] at this ⊢; exact this⟩
theorem dp_prs {K : PySem.W.Frag} {H : Hp} : ∀ {ts : List Addr} {ws : List (Str × Str)}, Paired (fun (t : Addr) (q : Str × Str) => H t = some (.tup [V.str q.1, V.str q.2])) ts ws → DpAll K H (ts.map V.ref) (ws.map pairD)
  | _, _, .nil => .nil
  | _, _, .cons h t => .cons (.tup (st_of h) (dp_strs [_, _])) (dp_prs t)
/-! ### Code.__eq__ -/
def spEqC (C : Addr) : Sp := fun vs H Q _ => ∃ (a b : Addr) (ws us : List (Str × Str)), vs = [.ref a, .ref b] ∧ CodeAt C H a ws ∧ CodeAt C H b us ∧ OkW ws ∧ OkW us ∧ RetV (.bl (decide (ws = us))) H Q
theorem scCEq : FnScope ["self", "other"] ["self", "other"] (defScope (codeM 4)) := ⟨rfl, rfl, rfl, by decide +kernel, rfl, by decide +kernel, by decide +kernel⟩
theorem ev_isO {K : PySem.W.Frag} {C a dx : Addr} {fs : List (Str × V)} {H : Hp} (CB : ClsO K C) (h1 : H a = some (.ins C dx fs)) {ta tc : TE} {σ : L2.St} (ha : Ev ta σ H (.ref a)) (hc : Ev tc σ H (.ref C)) : Ev (tCB (rIsi K) (tCons ta (tCons tc tNil))) σ H (.bl true) :=
  ev_cb (ea_cons ha (ea_cons hc ea_nil)) fun H1 x1 Q q => ⟨_, _, _, _, true, rfl, .own C, .base (.ins (x1 _ _ h1) CB.toCls CB.cA CB.cG CB.cT CB.cM), CB.cI, q H1 (Ex.refl _)⟩
section
variable {P : Program} {w : World} {K : PySem.W.Frag} {mg : Str → Option Value} {base : Heap} {C CP : Addr}
theorem ok_ceq {f : Addr} {fd : FuncData} (F : Fun K "__eq__" "Code.__eq__" (codeM 4) f fd) (T : Free mg) (CC : ClsCd K mg C) : FnOk P w K mg base CX0 1 f fd ["self", "other"] (spEqC C) := by
  refine F.ok scCEq (fun vs H Q E h => ?_) (fun cdv A outer s H vs Q E hr h => ?_)
  · obtain ⟨_, _, _, _, rfl, _⟩ := h
    rfl
  · obtain ⟨a, b, ws, us, rfl, A1, A2, o1, o2, k⟩ := h
    obtain ⟨dx, W, O, ts, h1, h2, h3, h4⟩ := A1
    obtain ⟨dx', W', O', ts', g1, g2, g3, g4⟩ := A2
    refine ⟨_, pss_one (ps_ret (pe_and (pe_callB call_isi (by rfl) T.isinstance (by decide +kernel) (pa_cons (pv 1) (pa_cons (pe_glob (v := .ref C) rfl CC.gC rfl) pa_nil)))
      (pe_one (pe_cmpR (r := rEqD K) (by exact op_eqD hr.units) (pe_fld (pv 0) rfl) (pe_fld (pv 1) rfl) (nomark _))))), ?_⟩
    have z := ev_andV (ev_isO CC.toClsO g1 (ta := tVar 1) (tc := tC (.ref C)) (σ := start ["self", "other"] [.ref a, .ref b]) (ev_var rfl) ev_c) fun _ =>
      ev_op (r := rEqD K) (z := .bl (decide (ws = us))) (ev_fld (K := K) (te := tVar 0) (ev_var rfl) h1 CC.toCls CC.nWords rfl) (ev_fld (K := K) (te := tVar 1) (ev_var rfl) g1 CC.toCls CC.nWords rfl) fun H1 x1 Q1 q1 =>
        ⟨.tuple (ws.map pairD), .tuple (us.map pairD), .tup (st_of (x1 _ _ h2)) (dp_prs (paired_imp2 h3 fun _ _ h => x1 _ _ h)), .tup (st_of (x1 _ _ g2)) (dp_prs (paired_imp2 g3 fun _ _ h => x1 _ _ h)), shaped_prs o1, shaped_prs o2, by
          have e : PyData.eqv (.tuple (ws.map pairD)) (.tuple (us.map pairD)) = decide (ws = us) := by
            rw [← pairs_eqv]
            simp [PyData.eqv]
          rw [e]
          exact q1 H1 (Ex.refl _)⟩
    refine s_ret z fun H1 x1 => ?_
    rw [Bool.true_and]
    exact k H1 x1
/-! ### Put -/
structure ClsPu (K : PySem.W.Frag) (mg : Str → Option Value) (C : Addr) : Prop extends ClsO K C where
  nSign : NoAttr K C "sign"
  gP : mg "Put" = some (.ref C)
def PutAt (C : Addr) (H : Hp) (a : Addr) (s : Str) : Prop := ∃ dx, H a = some (.ins C dx [("sign", .str s)])
theorem PutAt.mono {C : Addr} {H H' : Hp} {a : Addr} {s : Str} (x : Ex H H') (h : PutAt C H a s) : PutAt C H' a s := by
  obtain ⟨dx, h⟩ := h
  exact ⟨dx, x _ _ h⟩
def IsP (C : Addr) (s : Str) : V → Hp → Prop := fun v H => ∃ a, v = .ref a ∧ PutAt C H a s
theorem up_isP (C : Addr) (s : Str) : Up (IsP C s) := fun v H H' x ⟨a, e, h⟩ => ⟨a, e, h.mono x⟩
def spPInit (C : Addr) : Sp := fun vs H Q _ => ∃ (a dx : Addr) (s : Str), vs = [.ref a, .str s] ∧ H a = some (.ins C dx []) ∧ isSgnV (.str s) sSIGNS = true ∧ ∀ H', ExB a H H' → PutAt C H' a s → Q .non H'
theorem scPInit : FnScope ["self", "sign"] ["self", "sign"] (defScope (putM 0)) := ⟨rfl, rfl, rfl, by decide +kernel, rfl, by decide +kernel, by decide +kernel⟩
theorem scPEq : FnScope ["self", "other"] ["self", "other"] (defScope (putM 1)) := ⟨rfl, rfl, rfl, by decide +kernel, rfl, by decide +kernel, by decide +kernel⟩
theorem ok_pinit {f fG : Addr} {fd fdG : FuncData} (F : Fun K "__init__" "Put.__init__" (putM 0) f fd) (CC : ClsPu K mg C) (gS : ∃ t, mg "SIGNS" = some (.str "0123456789abcdefghijklmnopqrstuvwxyz" t))
    (GG : FnOk P w K mg base CX0 1 fG fdG ["value", "signs"] (spIsSgn K)) (bG : Binds K fdG ["value", "signs"] []) (gG : mg "is_sign" = some (.ref fG)) (kG : PySem.W.keepIn K (.ref fG) = true) : FnOk P w K mg base CX0 2 f fd ["self", "sign"] (spPInit C) := by
  obtain ⟨tk, gS⟩ := gS
  refine F.ok scPInit (fun vs H Q E h => ?_) (fun cdv A outer s H vs Q E hr h => ?_)
  · obtain ⟨_, _, _, rfl, _⟩ := h
    rfl
  · obtain ⟨a, dx, t, rfl, ha, ht, k⟩ := h
    have l1 := key_len ht
    refine ⟨_, pss_cons (ps_if (pt_not (pt_val (pe_call GG (hr.mono (by decide)) (by rfl) gG kG bG .nil pass0 (pa_cons (pv 1) (pa_cons (pe_glob (v := .str sSIGNS) rfl gS ⟨_, rfl⟩) pa_nil))))) (pss_one ps_never) pss_nil)
      (pss_one (ps_fld (pv 0) (pv 1) rfl)), ?_⟩
    refine q_when (b := false) (et_is (et_not (et_B (ev_call (ea_cons (ev_var rfl) (ea_cons ev_c ea_nil)) fun H3 x3 Q3 q3 E3 => ⟨.str t, sSIGNS, rfl, .str _ (by omega), q3⟩))) (by rw [ht]; rfl)) (fun z => by cases z) fun _ H1 x1 => ?_
    refine ⟨_, rfl, _, rfl, a, C, dx, [], rfl, x1 _ _ ha, CC.toCls, CC.nSign, by simp, ?_⟩
    exact k _ (fun b o nb hb => by rw [upd_ne nb]; exact x1 _ _ hb) ⟨dx, upd_same⟩
def spEqP (C : Addr) : Sp := fun vs H Q _ => ∃ (a b : Addr) (s t : Str), vs = [.ref a, .ref b] ∧ PutAt C H a s ∧ PutAt C H b t ∧ RetV (.bl (decide (s = t))) H Q
theorem ok_peq {f : Addr} {fd : FuncData} (F : Fun K "__eq__" "Put.__eq__" (putM 1) f fd) (T : Free mg) (CC : ClsPu K mg C) : FnOk P w K mg base CX0 1 f fd ["self", "other"] (spEqP C) := by
  refine F.ok scPEq (fun vs H Q E h => ?_) (fun cdv A outer s H vs Q E hr h => ?_)
  · obtain ⟨_, _, _, _, rfl, _⟩ := h
    rfl
  · obtain ⟨a, b, x, y, rfl, A1, A2, k⟩ := h
    obtain ⟨dx, h1⟩ := A1
    obtain ⟨dx', g1⟩ := A2
    refine ⟨_, pss_one (ps_ret (pe_and (pe_callB call_isi (by rfl) T.isinstance (by decide +kernel) (pa_cons (pv 1) (pa_cons (pe_glob (v := .ref C) rfl CC.gP rfl) pa_nil)))
      (pe_one (pe_cmpR op_eq (pe_fld (pv 0) rfl) (pe_fld (pv 1) rfl) (nomark _))))), ?_⟩
    have z := ev_andV (ev_isO CC.toClsO g1 (ta := tVar 1) (tc := tC (.ref C)) (σ := start ["self", "other"] [.ref a, .ref b]) (ev_var rfl) ev_c) fun _ =>
      ev_op (ev_fld (K := K) (te := tVar 0) (ev_var rfl) h1 CC.toCls CC.nSign rfl) (ev_fld (K := K) (te := tVar 1) (ev_var rfl) g1 CC.toCls CC.nSign rfl) (rv_eq rfl)
    refine s_ret z fun H1 x1 => ?_
    have e : (decide (V.str x = V.str y)) = decide (x = y) := by
      rw [Bool.eq_iff_iff, decide_eq_true_eq, decide_eq_true_eq]
      exact ⟨fun z => by injection z, fun z => by rw [z]⟩
    rw [Bool.true_and, e]
    exact k H1 x1
end
end K02

set_option Elab.async false
set_option linter.all false
set_option maxRecDepth 100000
set_option maxHeartbeats 4000000
/-! a staticmethod called through its class -/
namespace KU
open PySem PySem.Spec PyProof.Rows L2 Evl
/-- C.m is a staticmethod: its record at p, its def at g -/
structure SMet (K : PySem.W.Frag) (C : Addr) (mc : Value) (m : Str) (p g : Addr) : Prop where
  at_ : PySem.W.findCls K (.ref C) mc m = some (.get (.builtin "staticmethod.__get__") (.ref p) .none (.ref C))
  rc : ∃ rest, PySem.W.recIn K p "staticmethod" = some (.ref g :: rest)
  kp : PySem.W.keepIn K (.ref g) = true
/-- e.m(..), e the class at C, m a staticmethod -/
def tSMeth (C : Addr) (sp : Sp) (E : XK) (ta : TE) (t : TA) : TE := fun σ H Q => ta σ H fun x H1 => x = .ref C ∧ t σ H1 fun vs H2 => sp vs H2 Q E
section
variable {X : Cx} {CX : CXT} {k : Nat} {C p g : Addr} {mc : Value} {sp : Sp} {E : XK} {o e : Expr} {es : List Expr} {f m : Str} {pos apos : Pos} {ta : TE} {t : TA} {pl : Sem Bool} {fd : FuncData} {ps : List Str} {pins : List (Addr × Obj)} {σ : L2.St} {H : Hp} {s : Shared} {A : Around} {Er : Value → Shared → Prop}
theorem getsmet_ok {b : Bool} {Q : Value → Shared → Prop} (I : Inv X pins σ H s) (r : ClX.CRead X.K C mc) (k : SMet X.K C mc m p g)
    (h : ∀ s', Inv X pins σ H s' → Q (.ref g) s') : wpAny (model X.prog X.w) A (getAttr (.ref C) m b) Q Er s := by
  obtain ⟨rest, hp⟩ := k.rc
  refine PySem.W.cls_bind I.kIn r.rd k.at_ ?_
  refine wpAny_call (PySem.W.sm_get (s := { s with toks := s.toks + 1 }) I.kIn hp (PySem.W.handed_on rfl ?_))
  exact h _ (I.tok _)
theorem pe_smeth (he : PE X o ta) (r : ClX.CRead X.K C mc) (c : SMet X.K C mc m p g) (F : FnOk X.prog X.w X.K X.mg X.base CX k g fd ps sp) (hr : Room k X.A) (hb : Binds X.K fd ps []) (hx : Passes CX X E) (ha : PA X (e :: es) t)
    (hst : starEach (e :: es) X.env = (false, eval e X.env) :: starEach es X.env := by rfl) (hpl : (backTo pos (starEach es X.env)).any (·.1) = false := by rfl)
    (ht : eval (.Call (.Attribute o m apos) (e :: es) [] pos) X.env = (do
      let ov ← eval o X.env
      standAt apos.atName
      let (f, first) ← holding [ov] (getMethod ov m pl)
      callWith pos f first (backTo pos (starEach (e :: es) X.env)) (backToKw pos (keywordEach [] X.env))) := by rfl) :
    PE X (.Call (.Attribute o m apos) (e :: es) [] pos) (tSMeth C sp E ta t) := by
  refine ⟨fun pins s σ H Q I h => ?_⟩
  refine PySem.W.methodCall_KW (pl := pl) (thn (he.run pins s σ H _ I h) fun u s1 ⟨x, H1, I1, rx, ex, q⟩ => ?_) ht
  subst ex
  obtain rfl : u = Value.ref C := rx
  refine PySem.W.method_cls I1.kIn r.ga (getsmet_ok I1 r c fun s2 I2 => ?_)
  refine PySem.W.callWith_K (h₀ := X.base) I2.ok.mod.kin c.kp (thn (ha.run pos pins s2 σ H1 _ I2 q) fun us s3 ⟨vs, H2, I3, rv, q2⟩ => ⟨I3.kIn, ?_⟩) hst hpl
  exact run_fn F hr hb .nil hx I3 rv (by rw [List.append_nil]; exact q2)
end
end KU

set_option Elab.async false
set_option linter.all false
set_option maxRecDepth 100000
set_option maxHeartbeats 4000000
/-! Codes: maths; exchanged signs -/
namespace K02
open PySem PySem.Spec PyProof.Rows L2 Evl KU
theorem tw_all (p : Nat → Bool) : ∀ l : List Nat, (∀ c ∈ l, p c = true) → l.takeWhile p = l
  | [], _ => rfl
  | a :: r, h => by rw [List.takeWhile_cons, if_pos (h a List.mem_cons_self), tw_all p r fun c hc => h c (List.mem_cons_of_mem _ hc)]
theorem strip_over {al t : Str} (h : Over al t) : Txt.stripChars t al = "" := by
  show Txt.stripBy al.cps.contains true true t = ""
  rw [stripBy_eq]
  have all : ∀ c ∈ t.cps.toList, al.cps.contains c = true := fun c hc => by
    rw [Array.contains_eq_mem, decide_eq_true_eq]
    exact Array.mem_toList_iff.mp (h c hc)
  have lo : stripLo al.cps.contains true t = t.length := by
    unfold stripLo
    rw [if_pos rfl]
    have e : t.cps.toList.takeWhile al.cps.contains = t.cps.toList := by
      exact tw_all _ _ all
    rw [e, len_cps]
  have hi : stripHi al.cps.contains true t (stripLo al.cps.contains true t) = t.length := by
    rw [lo]
    unfold stripHi
    rw [if_pos rfl, List.drop_of_length_le (by rw [len_cps]; exact Nat.le_refl _)]
    simp
  rw [hi, lo]
  refine str_ext ?_
  show (t.cps.extract t.length t.length).toList = _
  simp
  rfl
theorem word_over {al t : Str} (h : Over al t) (h0 : 0 < t.length) {m : Int} (hm : (t.length : Int) ≤ m) : isWordB t al m = true := by
  unfold isWordB isTextB
  rw [strip_over h]
  simp
  omega
theorem ok_over {al t : Str} (h : Over al t) (ha : ∀ c ∈ al.cps.toList, c < 1114112) : PyData.strOk t = true := by
  show t.cps.all (· < 0x110000) = true
  rw [← Array.all_toList, List.all_eq_true]
  exact fun c hc => decide_eq_true (ha c (h c hc))

theorem signs_small : ∀ c ∈ sSIGNS.cps.toList, c < 1114112 ∧ inS ⟨#[c]⟩ sSIGNS = true := by decide +kernel
theorem inS_mem {c : Nat} (al : Str) : inS ⟨#[c]⟩ al = true ↔ c ∈ al.cps.toList := by
  rw [inS_iff (by simp)]
  show [c] <:+: al.cps.toList ↔ _
  constructor
  · intro h
    exact h.subset (by simp)
  · intro h
    obtain ⟨s, r, e⟩ := List.append_of_mem h
    exact ⟨s, r, by rw [e]; simp⟩
/-- a code: single signs, each with its own word of one to three signs, none at the beginning of another one's -/
structure CodeG (qs : List (Str × Str)) : Prop where
  ne : qs ≠ []
  few : qs.length ≤ 40
  nd : (qs.map (·.1)).Nodup
  key : ∀ q ∈ qs, ∃ c ∈ sSIGNS.cps.toList, q.1 = (⟨#[c]⟩ : Str)
  over : ∀ q ∈ qs, Over sSIGNS q.2
  len : ∀ q ∈ qs, 1 ≤ q.2.length ∧ q.2.length ≤ 3
  pf : ∀ p ∈ qs, ∀ q ∈ qs, p.1 ≠ q.1 → ¬ p.2.cps.toList <+: q.2.cps.toList
theorem CodeG.good {qs : List (Str × Str)} (G : CodeG qs) : GoodW qs := ⟨G.ne, G.few, G.nd, fun q hq => by
  obtain ⟨c, hc, e⟩ := G.key q hq
  rw [e]
  unfold isSgnV
  simp only [Bool.and_eq_true, decide_eq_true_eq]
  exact ⟨rfl, (inS_mem _).mpr hc⟩, fun q hq => word_over (G.over q hq) (by have := (G.len q hq).1; omega) (by have := (G.len q hq).2; omega), G.pf⟩
theorem CodeG.ok {qs : List (Str × Str)} (G : CodeG qs) : OkW qs := fun q hq => by
  obtain ⟨c, hc, e⟩ := G.key q hq
  exact ⟨ok_over (al := sSIGNS) (by rw [e]; exact fun d hd => by rw [show d = c by simpa using hd]; exact hc) fun c hc => (signs_small c hc).1, ok_over (G.over q hq) fun c hc => (signs_small c hc).1⟩
theorem CodeG.same {ps qs : List (Str × Str)} (G : CodeG qs) (nd : (ps.map (·.1)).Nodup) (h : ∀ q, q ∈ ps ↔ q ∈ qs) (l : ps.length ≤ 40) : CodeG ps := by
  refine ⟨fun z => ?_, l, nd, fun q hq => G.key q ((h q).mp hq), fun q hq => G.over q ((h q).mp hq), fun q hq => G.len q ((h q).mp hq), fun p hp q hq => G.pf p ((h p).mp hp) q ((h q).mp hq)⟩
  have ne := G.ne
  cases e : qs with
  | nil => exact ne e
  | cons q r =>
    have := (h q).mpr (by rw [e]; exact List.mem_cons_self)
    rw [z] at this
    cases this
theorem CodeG.of {qs : List (Str × Str)} (G : CodeG qs) : CodeG (codeOf qs) := G.same (by rw [codeOf_keys]; exact nodup_srt _) (codeOf_mem G.nd) (by rw [codeOf_len G.nd]; exact G.few)
theorem codeOf_twice {qs : List (Str × Str)} (G : CodeG qs) : codeOf (codeOf qs) = codeOf qs := codeOf_same (by rw [codeOf_keys]; exact nodup_srt _) G.nd (codeOf_mem G.nd)
theorem CodeD.code {al : Str} {ws : List (Str × Str)} (C : CodeD al ws) (hal : al ∈ alphM) : CodeG ws := by
  obtain ⟨and_, al1, al4, chars⟩ := alphM_facts al hal
  have kl : ws.length = al.length := by
    have := C.keys.length_eq
    rw [List.length_map, signsL_len] at this
    exact this
  have sub : ∀ {t : Str}, Over al t → Over sSIGNS t := fun o c hc => (inS_mem _).mp (chars c (o c hc)).2
  refine ⟨fun z => ?_, by omega, C.keys.nodup_iff.mpr (signs_nd and_), fun q hq => ?_, fun q hq => sub (C.over q hq), C.len, C.pf⟩
  · rw [z] at kl
    have : al.length = 0 := kl.symm
    omega
  · obtain ⟨c, hc, e⟩ := sign_of (C.keys.mem_iff.mp (List.mem_map.mpr ⟨q, hq, rfl⟩))
    exact ⟨c, (inS_mem _).mp (chars c hc).2, e⟩
/-- signs go to signs, each to its own -/
structure Xch (al : Str) (f : Nat → Nat) : Prop where
  inj : ∀ a ∈ al.cps.toList, ∀ b ∈ al.cps.toList, f a = f b → a = b
  into : ∀ a ∈ al.cps.toList, f a ∈ al.cps.toList

section
variable {f : Nat → Nat} {us : List Nat}
/-- f takes these signs to signs, each to its own -/
structure Xon (us : List Nat) (f : Nat → Nat) : Prop where
  inj : ∀ a ∈ us, ∀ b ∈ us, f a = f b → a = b
  into : ∀ a ∈ us, f a ∈ sSIGNS.cps.toList
theorem map_pre (X : Xon us f) : ∀ {a b : List Nat}, (∀ c ∈ a, c ∈ us) → (∀ c ∈ b, c ∈ us) → a.map f <+: b.map f → a <+: b
  | [], _, _, _, _ => List.nil_prefix
  | c :: r, [], _, _, h => by
    have := h.length_le
    simp at this
  | c :: r, d :: s, ha, hb, h => by
    rw [List.map_cons, List.map_cons, List.cons_prefix_cons] at h
    rw [List.cons_prefix_cons]
    exact ⟨X.inj c (ha c List.mem_cons_self) d (hb d List.mem_cons_self) h.1, map_pre X (fun x hx => ha x (List.mem_cons_of_mem _ hx)) (fun x hx => hb x (List.mem_cons_of_mem _ hx)) h.2⟩
theorem xs_inj (X : Xon us f) {a b : Str} (ha : ∀ c ∈ a.cps.toList, c ∈ us) (hb : ∀ c ∈ b.cps.toList, c ∈ us) (h : xS f a = xS f b) : a = b := by
  have e : a.cps.toList.map f = b.cps.toList.map f := by rw [← x_cps, h, x_cps]
  have p1 := map_pre X ha hb (by rw [e]; exact List.prefix_refl _)
  have p2 := map_pre X hb ha (by rw [e]; exact List.prefix_refl _)
  exact str_eq (p1.eq_of_length (Nat.le_antisymm p1.length_le p2.length_le))
/-- both of a pair exchanged -/
def xP (f : Nat → Nat) (q : Str × Str) : Str × Str := (xS f q.1, xS f q.2)
def InU (us : List Nat) (qs : List (Str × Str)) : Prop := ∀ q ∈ qs, (∀ c ∈ q.1.cps.toList, c ∈ us) ∧ ∀ c ∈ q.2.cps.toList, c ∈ us
theorem x_keys (X : Xon us f) {qs : List (Str × Str)} (U : InU us qs) (nd : (qs.map (·.1)).Nodup) : ((qs.map (xP f)).map (·.1)).Nodup := by
  rw [List.map_map]
  have e : ((fun q : Str × Str => q.1) ∘ xP f) = xS f ∘ fun q : Str × Str => q.1 := rfl
  rw [e, ← List.map_map]
  refine List.pairwise_map.mpr (nd.imp_of_mem fun {a b} ha hb ne h => ne ?_)
  obtain ⟨p, hp, rfl⟩ := List.mem_map.mp ha
  obtain ⟨q, hq, rfl⟩ := List.mem_map.mp hb
  exact xs_inj X (U p hp).1 (U q hq).1 h
theorem CodeG.x (X : Xon us f) {qs : List (Str × Str)} (G : CodeG qs) (U : InU us qs) : CodeG (qs.map (xP f)) := by
  refine ⟨fun z => G.ne (List.map_eq_nil_iff.mp z), by rw [List.length_map]; exact G.few, x_keys X U G.nd, fun q hq => ?_, fun q hq => ?_, fun q hq => ?_, fun p hp q hq ne => ?_⟩
  · obtain ⟨p, hp, rfl⟩ := List.mem_map.mp hq
    obtain ⟨c, hc, e⟩ := G.key p hp
    refine ⟨f c, X.into c ((U p hp).1 c (by rw [e]; simp)), ?_⟩
    show xS f p.1 = _
    rw [e]
    rfl
  · obtain ⟨p, hp, rfl⟩ := List.mem_map.mp hq
    intro d hd
    have hd : d ∈ (p.2.cps.toList.map f) := hd
    obtain ⟨c, hc, rfl⟩ := List.mem_map.mp hd
    exact X.into c ((U p hp).2 c hc)
  · obtain ⟨p, hp, rfl⟩ := List.mem_map.mp hq
    show 1 ≤ (xS f p.2).length ∧ (xS f p.2).length ≤ 3
    rw [x_len]
    exact G.len p hp
  · obtain ⟨p', hp', rfl⟩ := List.mem_map.mp hp
    obtain ⟨q', hq', rfl⟩ := List.mem_map.mp hq
    intro pre
    have pre : p'.2.cps.toList.map f <+: q'.2.cps.toList.map f := pre
    exact G.pf p' hp' q' hq' (fun z => ne (by show xS f p'.1 = xS f q'.1; rw [z])) (map_pre X (U p' hp').2 (U q' hq').2 pre)
end
/-! ### tables -/
/-- a table of single signs, each to its own -/
structure TabG (T : List (Nat × Nat)) : Prop where
  few : T.length ≤ 40
  kn : (T.map (·.1)).Nodup
  vn : (T.map (·.2)).Nodup
  ks : ∀ p ∈ T, p.1 ∈ sSIGNS.cps.toList
  vs : ∀ p ∈ T, p.2 ∈ sSIGNS.cps.toList
def tabS (T : List (Nat × Nat)) : List (Str × Str) := T.map fun p => (⟨#[p.1]⟩, ⟨#[p.2]⟩)
theorem tabS_kv (T : List (Nat × Nat)) : kvS (tabS T) = kvC T := by
  unfold kvS tabS kvC
  rw [List.map_map]
  rfl
theorem fch_mem {ps : List (Nat × Nat)} {c : Nat} (h : c ∈ ps.map (·.1)) : (c, fch ps c) ∈ ps := by
  unfold fch
  cases e : ps.find? fun p => p.1 == c with
  | none =>
    obtain ⟨p, hp, rfl⟩ := List.mem_map.mp h
    have := List.find?_eq_none.mp e p hp
    simp at this
  | some p =>
    have h1 := List.find?_some e
    have h2 := List.mem_of_find?_eq_some e
    have : p.1 = c := by simpa using h1
    show (c, p.2) ∈ ps
    rw [← this]
    exact h2
theorem two_vals : ∀ {ps : List (Nat × Nat)} {a b v : Nat}, (ps.map (·.2)).Nodup → (a, v) ∈ ps → (b, v) ∈ ps → a = b
  | [], _, _, _, _, h, _ => by cases h
  | p :: r, a, b, v, nd, ha, hb => by
    rw [List.map_cons, List.nodup_cons] at nd
    rcases List.mem_cons.mp ha with e1 | h1
    · rcases List.mem_cons.mp hb with e2 | h2
      · rw [← e2] at e1
        exact (Prod.mk.inj e1).1
      · exact absurd (List.mem_map.mpr ⟨_, h2, by rw [← e1]⟩) nd.1
    · rcases List.mem_cons.mp hb with e2 | h2
      · exact absurd (List.mem_map.mpr ⟨_, h1, by rw [← e2]⟩) nd.1
      · exact two_vals nd.2 h1 h2
theorem fch_of {ps : List (Nat × Nat)} {a b : Nat} (nd : (ps.map (·.1)).Nodup) (h : (a, b) ∈ ps) : fch ps a = b := by
  have m := fch_mem (ps := ps) (c := a) (List.mem_map.mpr ⟨_, h, rfl⟩)
  have sw : ∀ {ps : List (Nat × Nat)} {a x y : Nat}, (ps.map (·.1)).Nodup → (a, x) ∈ ps → (a, y) ∈ ps → x = y := fun {ps a x y} nd h1 h2 => by
    have nd' : ((ps.map fun p => (p.2, p.1)).map (·.2)).Nodup := by
      rw [List.map_map]
      exact nd
    exact two_vals nd' (List.mem_map.mpr ⟨_, h1, rfl⟩) (List.mem_map.mpr ⟨_, h2, rfl⟩)
  exact sw nd m h
theorem one_inj {a b : Nat} (h : (⟨#[a]⟩ : Str) = ⟨#[b]⟩) : a = b := by
  have := congrArg (fun t : Str => t.cps.toList) h
  simpa using this

theorem TabG.xon {T : List (Nat × Nat)} (G : TabG T) : Xon (T.map (·.1)) (fch T) := ⟨fun a ha b hb e => by
  have h1 := fch_mem ha
  have h2 := fch_mem hb
  rw [e] at h1
  exact two_vals G.vn h1 h2, fun a ha => G.vs _ (fch_mem ha)⟩
theorem uniq_nodup {l : List Str} (h : l.Nodup) : (uniq l).Perm l := (List.perm_ext_iff_of_nodup (nodup_uniq l) h).mpr fun x => mem_uniq l x
theorem TabG.swap {T : List (Nat × Nat)} (G : TabG T) : swapB (kvC T) sSIGNS = true := by
  have lk : (kvC T).length = T.length := List.length_map _
  have one : ∀ {c : Nat}, c ∈ sSIGNS.cps.toList → isSgnV (.str ⟨#[c]⟩) sSIGNS = true := fun h => by
    unfold isSgnV
    simp only [Bool.and_eq_true, decide_eq_true_eq]
    exact ⟨rfl, (inS_mem _).mpr h⟩
  unfold swapB signsB
  rw [Bool.and_eq_true, List.all_eq_true, decide_eq_true_eq, lk]
  refine ⟨fun q hq => ?_, ?_⟩
  · obtain ⟨p, hp, rfl⟩ := List.mem_map.mp hq
    rw [Bool.and_eq_true]
    exact ⟨one (G.ks p hp), one (G.vs p hp)⟩
  · have nd : (valsG (kvC T)).Nodup := by
      have e : valsG (kvC T) = (T.map (·.2)).map fun c => (⟨#[c]⟩ : Str) := by
        unfold valsG kvC
        rw [List.map_map, List.map_map]
        rfl
      rw [e]
      exact List.pairwise_map.mpr (G.vn.imp fun ne e => ne (one_inj e))
    rw [(uniq_nodup nd).length_eq]
    unfold valsG
    rw [List.length_map, lk]
theorem kvC_fineS {K : PySem.W.Frag} {H : Hp} {T : List (Nat × Nat)} : ∀ q ∈ kvC T, q.1.length ≤ 1000 ∧ SV K H q.2 := fun q hq => by
  obtain ⟨p, _, rfl⟩ := List.mem_map.mp hq
  exact ⟨by show 1 ≤ 1000; decide, .str _ (by show 1 ≤ 1000; decide)⟩
end K02

set_option Elab.async false
set_option linter.all false
set_option maxRecDepth 100000
set_option maxHeartbeats 4000000
/-! moves.py: is_of, changed, plain -/
namespace K02
open PySem PySem.Spec PyProof.Rows L2 Evl KU
def strV : V → Str
  | .str t => t
  | _ => ""
theorem alpha_str {v : V} (h : isAlphaV v = true) : ∃ t, v = .str t := by
  cases v with
  | str t => exact ⟨t, rfl⟩
  | _ => cases h
def spPIsOf (K : PySem.W.Frag) (C : Addr) : Sp := fun vs H Q _ => ∃ (a : Addr) (s : Str) (v : V), vs = [.ref a, v] ∧ PutAt C H a s ∧ SV K H v ∧ RetV (.bl (isAlphaV v && inS s (strV v))) H Q
def spPChg (C : Addr) : Sp := fun vs H Q _ => ∃ (a p : Addr) (c : Nat) (T : List (Nat × Nat)), vs = [.ref a, .ref p] ∧ PutAt C H a ⟨#[c]⟩ ∧ H p = some (.dK (kvG (kvC T))) ∧ TabG T ∧ c ∈ T.map (·.1) ∧ ∀ v H', Ex H H' → IsP C ⟨#[fch T c]⟩ v H' → Q v H'
/-- no table for a sign: no swap, or the sign is not there -/
def spPChgX (K : PySem.W.Frag) (C CO : Addr) : Sp := fun vs H _ E => ∃ (a : Addr) (c : Nat) (v : V) (b : Bool), vs = [.ref a, v] ∧ PutAt C H a ⟨#[c]⟩ ∧ Tabl K H sSIGNS v b ∧ (b = false ∨ ∃ (p : Addr) (ks : List (Str × V)), v = .ref p ∧ H p = some (.dK (kvG ks)) ∧ valV (kvG ks) (Sum.inr ⟨#[c]⟩) = none) ∧ RaiseV CO "part" (.str "table") H E
theorem ev_notIn {σ : L2.St} {H : Hp} {ta tb : TE} {p : Addr} {kvs : List (Key × V)} {k : Key} (ha : Ev ta σ H (kV k)) (hb : Ev tb σ H (.ref p)) (hp : H p = some (.dK kvs)) : Ev (tDNotIn ta tb) σ H (.bl (!(valV kvs k).isSome)) := fun H1 x1 Q q =>
  ha H1 x1 _ fun H2 x2 => hb H2 (x1.trans x2) _ fun H3 x3 => ⟨p, _, rfl, DGet.k (k := k) ((x1.trans (x2.trans x3)) _ _ hp), q H3 (x2.trans x3)⟩
theorem ev_dIn {σ : L2.St} {H : Hp} {ta tb : TE} {p : Addr} {kvs : List (Key × V)} {k : Key} (ha : Ev ta σ H (kV k)) (hb : Ev tb σ H (.ref p)) (hp : H p = some (.dK kvs)) : Ev (tDIn ta tb) σ H (.bl (valV kvs k).isSome) := fun H1 x1 Q q =>
  ha H1 x1 _ fun H2 x2 => hb H2 (x1.trans x2) _ fun H3 x3 => ⟨p, _, rfl, DGet.k (k := k) ((x1.trans (x2.trans x3)) _ _ hp), q H3 (x2.trans x3)⟩
/-- a new instance, with one value -/
theorem evp_make {C : Addr} {sp : Sp} {E : XK} {t : TE} {σ : L2.St} {H : Hp} {v : V} {R : V → Hp → Prop} (ht : Ev t σ H v) (mk : ∀ (x dx : Addr) (H1 : Hp), Ex H H1 → H1 x = some (.ins C dx []) → ∀ Q : VK, (∀ H2, ExB x H1 H2 → R (.ref x) H2 → Q .non H2) → sp [.ref x, v] H1 Q E) : EvP (tMake C sp [] E (tCons t tNil)) σ H R := fun H1 x1 Q q => by
  refine ht H1 x1 _ fun H2 x2 => ?_
  intro x dx hx hdx ne
  refine mk x dx _ ((x1.trans x2).trans ?_) upd_same _ fun H3 b3 r => ⟨rfl, q _ H3 (x2.trans ?_) r⟩
  · intro b o hb
    rw [upd_ne (ne_of_none hb hx), upd_ne (ne_of_none hb hdx)]
    exact hb
  · intro b o hb
    refine b3 _ _ (ne_of_none hb hx) ?_
    rw [upd_ne (ne_of_none hb hx), upd_ne (ne_of_none hb hdx)]
    exact hb
section
variable {P : Program} {w : World} {K : PySem.W.Frag} {mg : Str → Option Value} {base : Heap} {C CO : Addr}
end
end K02

set_option Elab.async false
set_option linter.all false
set_option maxRecDepth 100000
set_option maxHeartbeats 4000000
/-! moves.py: Code.is_of, Code.changed, Code.plain -/
namespace K02
open PySem PySem.Spec PyProof.Rows L2 Evl KU
section
variable {K : PySem.W.Frag} {σ : L2.St} {H : Hp} {te tl tz : TE} {i j k : Nat} {vs vs1 : List Nat}
/-- over a tuple of pairs, over the signs of a text of each -/
theorem el_lc2 {W : Addr} {ts : List Addr} {ws : List (Str × Str)} (z : Str × Str → Str) (φ : Str → V) (hx : Ev tl σ H (.ref W)) (hs : H W = some (.tup (ts.map V.ref))) (hp : Paired (fun (t : Addr) (q : Str × Str) => H t = some (.tup [V.str q.1, V.str q.2])) ts ws)
    (few : ws.length ≤ 100) (short : ∀ q ∈ ws, (z q).length ≤ 100) (hw : ∀ x y : V, wipe (((wipe σ vs).set i (some x)).set j (some y)) vs = wipe σ vs)
    (hw1 : ∀ (q : Str × Str) (x : V), wipe ((wipe (((wipe σ vs).set i (some (.str q.1))).set j (some (.str q.2))) vs1).set k (some x)) vs1 = wipe (((wipe σ vs).set i (some (.str q.1))).set j (some (.str q.2))) vs1)
    (hz : ∀ q ∈ ws, ∀ H1, Ex H H1 → Ev tz (((wipe σ vs).set i (some (.str q.1))).set j (some (.str q.2))) H1 (.str (z q)))
    (he : ∀ q ∈ ws, ∀ s ∈ signsL (z q), ∀ H1, Ex H H1 → Ev te ((wipe (((wipe σ vs).set i (some (.str q.1))).set j (some (.str q.2))) vs1).set k (some (.str s))) H1 (φ s)) :
    EvL (tLc2 (iTup K tl) (gTup K 2 (gCons (gName i) (gCons (gName j) gNil))) tYes (iStr tz) (gName k) tYes te vs vs1) σ H (ws.flatMap fun q => (signsL (z q)).map φ) := fun H1 x1 Q q =>
  hx H1 x1 _ fun H2 x2 => ⟨W, rfl, ⟨_, st_of ((x1.trans x2) _ _ hs)⟩, fun D hD => by
    have x12 := x1.trans x2
    have ll := Paired.length hp
    have lm : (ts.map V.ref).length = ws.length := by rw [List.length_map, ll]
    have w := walk_tup (K := K) (a := W) (xs := ts.map V.ref)
    have small : ∀ us : List (Str × Str), (∀ q ∈ us, (z q).length ≤ 100) → (us.flatMap fun q => (signsL (z q)).map φ).length ≤ 100 * us.length := by
      intro us
      induction us with
      | nil => intro _; exact Nat.le_refl _
      | cons q r ih =>
        intro h
        have := ih fun p hp => h p (List.mem_cons_of_mem _ hp)
        have l := h q List.mem_cons_self
        rw [List.flatMap_cons, List.length_append, List.length_map, signsL_len, List.length_cons]
        omega
    refine ⟨fun n m H' => m = ws.length - n ∧ n ≤ ws.length ∧ Ex H2 H' ∧ H' D = some (.lst ((ws.take n).flatMap fun q => (signsL (z q)).map φ)), ⟨ws.length, by simp, Nat.zero_le _, Ex.new hD, upd_same⟩, ?_⟩
    rintro n m H3 ⟨rfl, hn, x3, e3⟩
    have hW3 := st_of (K := K) (x3 _ _ (x12 _ _ hs))
    by_cases lt : n < ws.length
    · refine .inr ⟨w.goes n H3 (by rw [lm]; exact lt) hW3, fun H' => Ex H2 H' ∧ H' D = some (.lst ((ws.take (n + 1)).flatMap fun q => (signsL (z q)).map φ)), fun H' p => ⟨ws.length - (n + 1), by omega, rfl, lt, p⟩, fun x H4 y => ?_⟩
      obtain ⟨rfl, hx'⟩ := w.yields n H3 x H4 (by rw [lm]; exact lt) hW3 y
      rw [List.getElem?_map] at hx'
      obtain ⟨t, ht, rfl⟩ := Option.map_eq_some_iff.mp hx'
      obtain ⟨q0, hq0, hT⟩ := paired_get hp ht
      have mq := List.mem_of_getElem? hq0
      have xx := x12.trans x3
      refine ⟨t, _, rfl, st_of (xx _ _ hT), rfl, _, _, rfl, _, _, rfl, rfl, hw _ _, ?_⟩
      unfold tYes
      dsimp only
      rw [if_pos rfl]
      refine hz q0 mq H4 xx H4 (Ex.refl _) _ fun H5 x5 => ⟨z q0, rfl, ?_⟩
      have w1 := walk_signsG (z := z q0)
      rw [List.length_map] at w1
      have lz := signsL_len (z q0)
      have sh := short q0 mq
      have s0 := small (ws.take n) fun p hp => short p (List.mem_of_mem_take hp)
      rw [List.length_take] at s0
      refine ⟨fun u m1 H' => m1 = (signsL (z q0)).length - u ∧ u ≤ (signsL (z q0)).length ∧ Ex H2 H' ∧ H' D = some (.lst (((ws.take n).flatMap fun q => (signsL (z q)).map φ) ++ ((signsL (z q0)).take u).map φ)), ⟨(signsL (z q0)).length, by simp, Nat.zero_le _, x3.trans x5, by
        rw [List.take_zero, List.map_nil, List.append_nil]
        exact x5 _ _ e3⟩, ?_⟩
      rintro u m1 H6 ⟨rfl, hu, x6, e6⟩
      by_cases lt1 : u < (signsL (z q0)).length
      · refine .inr ⟨w1.goes u H6 lt1 trivial, fun H' => Ex H2 H' ∧ H' D = some (.lst (((ws.take n).flatMap fun q => (signsL (z q)).map φ) ++ ((signsL (z q0)).take (u + 1)).map φ)), fun H' p => ⟨(signsL (z q0)).length - (u + 1), by omega, rfl, lt1, p⟩, fun x H7 y => ?_⟩
        obtain ⟨rfl, hy⟩ := w1.yields u H6 x H7 lt1 trivial y
        rw [List.getElem?_map] at hy
        obtain ⟨s, hs', rfl⟩ := Option.map_eq_some_iff.mp hy
        refine ⟨hw1 q0 _, ?_⟩
        refine he q0 mq s (List.mem_of_getElem? hs') H7 (x12.trans x6) H7 (Ex.refl _) _ fun H8 x8 => ?_
        refine ⟨_, x8 _ _ e6, ?_, ?_, ?_⟩
        · rw [List.length_append, List.length_map, List.length_take, sizeLine_eq]
          omega
        · intro b o hb
          rw [upd_ne (ne_of_none hb hD)]
          exact x8 _ _ (x6 _ _ hb)
        · rw [upd_same, List.take_succ, hs', List.map_append, List.append_assoc]
          rfl
      · have e : u = (signsL (z q0)).length := by omega
        subst e
        refine .inl ⟨w1.stops H6 trivial, x6, ?_⟩
        rw [List.take_length] at e6
        rw [e6, List.take_succ, hq0, List.flatMap_append]
        congr 3
        exact (List.append_nil _).symm
    · have e : n = ws.length := by omega
      subst e
      rw [List.take_length] at e3
      refine .inl ⟨?_, q D H3 (fresh_back x2 hD) (x2.trans x3) e3⟩
      have := w.stops H3 hW3
      rw [lm] at this
      exact this⟩
end
def isOfB (ws : List (Str × Str)) (v : V) : Bool := isAlphaV v && (decide (ws.map (·.1) = signsL (strV v)) && ws.all fun q => isTextB q.2 (strV v))
/-- a Code that has single signs and short words -/
structure Short (ws : List (Str × Str)) : Prop where
  few : ws.length ≤ 40
  key : ∀ q ∈ ws, ∃ c, q.1 = (⟨#[c]⟩ : Str)
  len : ∀ q ∈ ws, q.2.length ≤ 3
theorem CodeG.short {qs : List (Str × Str)} (G : CodeG qs) : Short qs := ⟨G.few, fun q hq => by
  obtain ⟨c, _, e⟩ := G.key q hq
  exact ⟨c, e⟩, fun q hq => (G.len q hq).2⟩
theorem Short.chars {ws : List (Str × Str)} (S : Short ws) : ∃ l : List Nat, ws.map (·.1) = l.map fun c => (⟨#[c]⟩ : Str) := by
  refine ⟨ws.map fun q => q.1.cps.toList.headD 0, ?_⟩
  rw [List.map_map]
  refine List.map_congr_left fun q hq => ?_
  obtain ⟨c, e⟩ := S.key q hq
  show q.1 = (⟨#[q.1.cps.toList.headD 0]⟩ : Str)
  rw [e]
  rfl
def spCIsOf (K : PySem.W.Frag) (C : Addr) : Sp := fun vs H Q _ => ∃ (a : Addr) (ws : List (Str × Str)) (v : V), vs = [.ref a, v] ∧ CodeAt C H a ws ∧ Short ws ∧ SV K H v ∧ RetV (.bl (isOfB ws v)) H Q
abbrev nCIsOf : List Str := ["self", "signs", "sign", "_", "word"]
abbrev nCChg : List Str := ["self", "table", "sign", "word", "one"]
section
variable {P : Program} {w : World} {K : PySem.W.Frag} {mg : Str → Option Value} {base : Heap} {C CO : Addr}
end
end K02

set_option Elab.async false
set_option linter.all false
set_option maxRecDepth 100000
set_option maxHeartbeats 4000000
/-! moves.py: Code.changed, Code.plain -/
namespace K02
open PySem PySem.Spec PyProof.Rows L2 Evl KU
/-- a new instance, with one value of which a predicate is known -/
theorem evp_makeP {C : Addr} {sp : Sp} {E : XK} {t : TE} {σ : L2.St} {H : Hp} {P R : V → Hp → Prop} (up : Up P) (ht : EvP t σ H P) (mk : ∀ (v : V) (x dx : Addr) (H1 : Hp), P v H1 → H1 x = some (.ins C dx []) → ∀ Q : VK, (∀ H2, ExB x H1 H2 → R (.ref x) H2 → Q .non H2) → sp [.ref x, v] H1 Q E) : EvP (tMake C sp [] E (tCons t tNil)) σ H R := fun H1 x1 Q q => by
  refine ht H1 x1 _ fun v H2 x2 hv => ?_
  intro x dx hx hdx ne
  have xN : Ex H2 (upd (upd H2 dx (.xd [])) x (.ins C dx [])) ∨ True := .inr trivial
  refine mk v x dx _ (up _ _ _ ?_ hv) upd_same _ fun H3 b3 r => ⟨rfl, q _ H3 (x2.trans ?_) r⟩
  · intro b o hb
    rw [upd_ne (ne_of_none hb hx), upd_ne (ne_of_none hb hdx)]
    exact hb
  · intro b o hb
    refine b3 _ _ (ne_of_none hb hx) ?_
    rw [upd_ne (ne_of_none hb hx), upd_ne (ne_of_none hb hdx)]
    exact hb
/-- {key: value for a in a text} -/
theorem evp_dcS {te tk tv : TE} {σ : L2.St} {H : Hp} {j : Nat} {vs : List Nat} {z : Str} (k v : Str → Str) (hx : Ev te σ H (.str z)) (nd : ((signsL z).map k).Nodup) (few : z.length ≤ 1000) (hw : ∀ x : V, wipe ((wipe σ vs).set j (some x)) vs = wipe σ vs)
    (h1 : ∀ s ∈ signsL z, ∀ H1, Ex H H1 → Ev tk ((wipe σ vs).set j (some (.str s))) H1 (.str (k s))) (h2 : ∀ s ∈ signsL z, ∀ H1, Ex H H1 → Ev tv ((wipe σ vs).set j (some (.str s))) H1 (.str (v s))) :
    EvP (tDc (iStr te) (gName j) tYes tk tv vs) σ H (IsW ((signsL z).map fun s => (k s, v s))) := fun H1 x1 Q q =>
  hx H1 x1 _ fun H2 x2 => ⟨z, rfl, fun D hD => by
    have x12 := x1.trans x2
    have w := walk_signsG (z := z)
    have lz := signsL_len z
    refine dc_it w (Pv := fun n H' => Ex H2 H' ∧ H' D = some (.dK (kvG (kvS (((signsL z).take n).map fun s => (k s, v s)))))) ⟨Ex.new hD, upd_same⟩ (fun n H' _ c => trivial) (fun n x H3 H4 hn c y => ?_) fun H3 c => ?_
    · obtain ⟨rfl, hx'⟩ := y
      rw [List.getElem?_map] at hx'
      obtain ⟨s, hs, rfl⟩ := Option.map_eq_some_iff.mp hx'
      have ms := List.mem_of_getElem? hs
      have x3 := x12.trans c.1
      refine ⟨hw _, ?_⟩
      unfold tYes
      dsimp only
      rw [if_pos rfl]
      refine h1 s ms H4 x3 H4 (Ex.refl _) _ fun H5 x5 => ?_
      refine h2 s ms H4 x3 H5 x5 _ fun H6 x6 => ?_
      have x46 := x5.trans x6
      refine ⟨_, Sum.inr (k s), rfl, x46 _ _ c.2, ?_, ?_, ?_⟩
      · rw [kvS_len, List.length_map, List.length_take, sizeLine_eq]
        omega
      · intro b o hb
        rw [upd_ne (ne_of_none hb hD)]
        exact x46 _ _ (c.1 _ _ hb)
      · have nin : k s ∉ (((signsL z).take n).map fun s => (k s, v s)).map (·.1) := by
          rw [List.map_map]
          intro y
          obtain ⟨s1, m1, e1⟩ := List.mem_map.mp y
          have e1 : k s1 = k s := e1
          obtain ⟨m, hm, rfl⟩ := List.getElem_of_mem m1
          rw [List.length_take] at hm
          rw [List.getElem_take] at e1
          have g1 : ((signsL z).map k)[m]? = some (k s) := by rw [List.getElem?_map, List.getElem?_eq_getElem (by omega), ← e1]; rfl
          have g2 : ((signsL z).map k)[n]? = some (k s) := by rw [List.getElem?_map, hs]; rfl
          have := nd_idx nd g1 g2
          omega
        rw [upd_same, put_newS nin, List.take_succ, hs, List.map_append]
        rfl
    · rw [List.length_map, List.take_length] at c
      exact q _ H3 (x2.trans c.1) ⟨D, rfl, c.2⟩⟩
def spCChg (C : Addr) : Sp := fun vs H Q _ => ∃ (a p : Addr) (ws : List (Str × Str)) (T : List (Nat × Nat)), vs = [.ref a, .ref p] ∧ CodeAt C H a ws ∧ CodeG ws ∧ H p = some (.dK (kvG (kvC T))) ∧ TabG T ∧ InU (T.map (·.1)) ws ∧
  ∀ v H', Ex H H' → IsC C (codeOf (ws.map (xP (fch T)))) v H' → Q v H'
/-- no table for a code: no swap, or a sign is not there -/
def spCChgX (K : PySem.W.Frag) (C CO : Addr) : Sp := fun vs H _ E => ∃ (a : Addr) (ws : List (Str × Str)) (v : V) (b : Bool), vs = [.ref a, v] ∧ CodeAt C H a ws ∧ Short ws ∧ Tabl K H sSIGNS v b ∧
  (b = false ∨ ∃ (p : Addr) (ks : List (Str × V)), v = .ref p ∧ H p = some (.dK (kvG ks)) ∧ ∃ q ∈ ws, ∃ s ∈ signsL (q.1 ++ q.2), valV (kvG ks) (Sum.inr s) = none) ∧ RaiseV CO "part" (.str "table") H E
section
variable {P : Program} {w : World} {K : PySem.W.Frag} {mg : Str → Option Value} {base : Heap} {C CO : Addr}
theorem ev_allIn {σ : L2.St} {H : Hp} {a p W dx : Addr} {fs : List (Str × V)} {ts : List Addr} {ws : List (Str × Str)} {kvs : List (Key × V)} (S : Short ws) (CC : ClsCd K mg C) (hσ : σ = [some (.ref a), some (.ref p), none, none, none]) (h1 : H a = some (.ins C dx fs)) (lk : fs.lookup ("words" : Str) = some (.ref W)) (h2 : H W = some (.tup (ts.map V.ref)))
    (h3 : Paired (fun (t : Addr) (q : Str × Str) => H t = some (.tup [V.str q.1, V.str q.2])) ts ws) (hp : H p = some (.dK kvs)) :
    Ev (tCB (rAll K) (tCons (tLc2 (iTup K (tFld K (tVar 0) "words")) (gTup K 2 (gCons (gName 2) (gCons (gName 3) gNil))) tYes (iStr (tOp rAddS (tVar 2) (tVar 3))) (gName 4) tYes (tDIn (tVar 4) (tVar 1)) [2, 3, 4] [4]) tNil)) σ H (.bl ((ws.flatMap fun q => signsL (q.1 ++ q.2)).all fun s => (valV kvs (Sum.inr s)).isSome)) := by
  subst hσ
  have z := el_lc2 (K := K) (σ := [some (.ref a), some (.ref p), none, none, none]) (H := H) (i := 2) (j := 3) (k := 4) (vs := [2, 3, 4]) (vs1 := [4]) (tl := tFld K (tVar 0) "words") (tz := tOp rAddS (tVar 2) (tVar 3)) (te := tDIn (tVar 4) (tVar 1)) (ws := ws) (fun q => q.1 ++ q.2) (fun s => .bl (valV kvs (Sum.inr s)).isSome)
    (ev_fld (K := K) (te := tVar 0) (ev_var rfl) h1 CC.toCls CC.nWords lk) h2 h3 (by have := S.few; omega) (fun q hq => by
      obtain ⟨c, e⟩ := S.key q hq
      have := S.len q hq
      rw [cat_len, e]
      show 1 + _ ≤ 100
      omega) (fun _ _ => rfl) (fun _ _ => rfl) (fun q hq H1 x1 => ev_cat (ev_var rfl) (ev_var rfl) (by
      obtain ⟨c, e⟩ := S.key q hq
      have := S.len q hq
      rw [e]
      show 1 + _ ≤ 1000
      omega)) (fun q hq s hs H1 x1 => ev_dIn (k := Sum.inr s) (ev_var (i := 4) (v := .str s) rfl) (ev_var rfl) (x1 _ _ hp))
  have e : (ws.flatMap fun q => (signsL (q.1 ++ q.2)).map fun s => V.bl (valV kvs (Sum.inr s)).isSome) = (ws.flatMap fun q => signsL (q.1 ++ q.2)).map fun s => V.bl (valV kvs (Sum.inr s)).isSome := (List.map_flatMap).symm
  rw [e] at z
  exact ev_allB z
end
end K02

set_option Elab.async false
set_option linter.all false
set_option maxRecDepth 100000
set_option maxHeartbeats 4000000
/-! A class method called by keywords, that may refuse -/
namespace KU
open PySem PySem.Spec PyProof.Rows L2 Evl
section
variable {X : Cx} {C p g : Addr} {mc : Value} {k : Nat} {fd : FuncData} {ps ks : List Str} {sp : Sp} {o : Expr} {m : Str} {pos apos : Pos} {ta : TE} {tk : TA} {kws : List Keyword} {pl : Sem Bool}
def tCMethKX (C : Addr) (n : Nat) (sp : Sp) (E : XK) (gv : List V → List V) (ta : TE) (tk : TA) : TE := fun σ H Q => ta σ H fun x H1 => x = .ref C ∧ tk σ H1 fun zs H2 => zs.length = n ∧ sp (.ref C :: gv zs) H2 Q E
theorem pe_cmethKX {CX : CXT} {E : XK} {gv : List V → List V} {gu : List Value → List Value} (he : PE X o ta) (r : ClX.CRead X.K C mc) (c : ClX.CMet X.K C mc m p g) (F : FnOk X.prog X.w X.K X.mg X.base CX k g fd ps sp) (hr : Room k X.A) (hx : Passes CX X E) (hk : PK X kws tk)
    (hb : ∀ (s' : Shared) (ws : List Value), X.K.In s'.heap → ws.length = ks.length → BindsTo s' fd ⟨[.ref C], ks.zip ws⟩ (ps.zip (.ref C :: gu ws)))
    (rel : ∀ {zs : List V} {ws : List Value}, Vals zs ws → zs.length = ks.length → Vals (gv zs) (gu ws))
    (hall : (backToKw pos (keywordEach kws X.env)).all (·.1.isSome) = true := by rfl) (hks : (backToKw pos (keywordEach kws X.env)).filterMap (·.1) = ks := by rfl)
    (hpl : ((backTo pos (starEach [] X.env)).any (·.1) || (backToKw pos (keywordEach kws X.env)).any (·.1.isNone)) = false := by rfl)
    (ht : eval (.Call (.Attribute o m apos) [] kws pos) X.env = (do
      let ov ← eval o X.env
      standAt apos.atName
      let __x ← holding [ov] (getMethod ov m pl)
      match __x with
        | (f, first) => callWith pos f first (backTo pos (starEach [] X.env)) (backToKw pos (keywordEach kws X.env))) := by rfl) :
    PE X (.Call (.Attribute o m apos) [] kws pos) (tCMethKX C ks.length sp E gv ta tk) := by
  refine ⟨fun pins s σ H Q I h => ?_⟩
  refine PySem.W.methodCall_KW (pl := pl) (thn (he.run pins s σ H _ I h) fun u s1 ⟨x, H1, I1, rx, ex, q⟩ => ?_) ht
  subst ex
  obtain rfl : u = Value.ref C := rx
  refine ClX.getmethcm_ok I1 r c fun s2 I2 => ?_
  refine callwith_met (a := C) hpl c.fi (evalArgs_kw2_nil hall (thn (hk.run pos _ s2 σ H1 _ I2 q) fun ws s3 ⟨zs, H2, I3, rv, hn, q2⟩ => ?_))
  refine ⟨⟨ClX.pin_at I3, I3.kIn⟩, ?_⟩
  rw [hks]
  have z : wpAny (model X.prog X.w) X.A (call (.ref s1.heap.objs.size) [] (ks.zip ws)) (EP X ((s1.heap.objs.size, PySem.W.methodObj (.ref g) (.ref C)) :: pins) σ Q) X.xe s3 := by
    refine wpAny_call (PySem.W.method_call (ClX.pin_at I3) (codeAny_mono (F.run X.A X.stack s3 H2 ⟨[.ref C], ks.zip ws⟩ (.ref C :: gu ws) (.ref C :: gv zs) Q E hr I3.env0 (hb s3 ws I3.kIn (by rw [← rv.length]; exact hn)) (.cons rfl (rel rv hn)) q2) fun res s' back => ?_))
    cases res with
    | error er => exact hx _ σ H2 s3 er s' I3 back
    | ok fl =>
      cases fl with
      | ret u => exact I3.after back
      | next => exact back.elim
      | brk => exact back.elim
      | cont => exact back.elim
  exact thn z fun x s' y => ClX.unpinE y
end
end KU

set_option Elab.async false
set_option linter.all false
set_option maxRecDepth 100000
set_option maxHeartbeats 4000000
/-! cursor.py: Cursor -/
namespace K02
open PySem PySem.Spec PyProof.Rows L2 Evl KU
def Raise2V (C : Addr) (f g : Str) (v w : V) (H : Hp) (E : XK) : Prop := ∀ d H', Ex H H' → H' d = some (.xd [(g, w), (f, v)]) → E (.ref C) (some d) H'
abbrev curM (i : Nat) : Stmt := inClass (topR 13) i
/-- the class Cursor -/
structure ClsC (K : PySem.W.Frag) (mg : Str → Option Value) (D : Addr) : Prop extends Cls K D where
  nWords : NoAttr K D "words"
  nAt : NoAttr K D "at"
  gC : mg "Cursor" = some (.ref D)
/-- a cursor at c, ahead of the i-th of these words -/
def CurAt (D : Addr) (H : Hp) (c : Addr) (ws : List Str) (i : Nat) : Prop := ∃ dx L, H c = some (.ins D dx [("words", .ref L), ("at", .int (i : Int))]) ∧ H L = some (.lst (ws.map V.str)) ∧ ws.length ≤ 10000
theorem CurAt.mono {D : Addr} {H H' : Hp} {c : Addr} {ws : List Str} {i : Nat} (x : Ex H H') (h : CurAt D H c ws i) : CurAt D H' c ws i := by
  obtain ⟨dx, L, h1, h2, h3⟩ := h
  exact ⟨dx, L, x _ _ h1, x _ _ h2, h3⟩
/-- the word that stands there -/
def wordAt (ws : List Str) (i : Nat) : V := match ws[i]? with
  | some w => .str w
  | none => .non
def spCurInit (D : Addr) : Sp := fun vs H Q _ => ∃ (c dx : Addr) (t : Str), vs = [.ref c, .str t] ∧ H c = some (.ins D dx []) ∧ t.length ≤ 5000 ∧ ∀ H', ExB c H H' → CurAt D H' c (Txt.split t " ") 0 → Q .non H'
theorem scCurInit : FnScope ["self", "text"] ["self", "text"] (defScope (curM 0)) := ⟨rfl, rfl, rfl, by decide +kernel, rfl, by decide +kernel, by decide +kernel⟩
section
variable {P : Program} {w : World} {K : PySem.W.Frag} {mg : Str → Option Value} {base : Heap} {D CT : Addr}
theorem ok_curInit {f : Addr} {fd : FuncData} (F : Fun K "__init__" "Cursor.__init__" (curM 0) f fd) (T : Free mg) (CC : ClsC K mg D) : FnOk P w K mg base CX0 2 f fd ["self", "text"] (spCurInit D) := by
  refine F.ok scCurInit (fun vs H Q E h => ?_) (fun cdv A outer s H vs Q E hr h => ?_)
  · obtain ⟨_, _, _, rfl, _⟩ := h
    rfl
  · obtain ⟨c, dx, t, rfl, hc, tl, k⟩ := h
    refine ⟨_, pss_cons (ps_if (pt_not (pt_val (pe_callB call_isi (by rfl) T.isinstance (by decide +kernel) (pa_cons (pv 1) (pa_cons (pe_bltn (v := .ty "str") (by rfl) T.str (by decide +kernel) rfl) pa_nil))))) (pss_one ps_never) pss_nil)
      (pss_cons (ps_fld (pv 0) (pe_bm PySem.F.plainAttrs_str PySem.F.slot_str_split PySem.F.type_str_split mt_split (pv 1) (pa_cons pe_str pa_nil)) rfl)
      (pss_one (ps_fld (pv 0) pe_int rfl))), ?_⟩
    refine q_when (b := false) (et_not (et_B (ev_isStr (v := .str t) (ev_var rfl) (.str t)))) (fun z => by cases z) fun _ H1 x1 => ?_
    have hc1 := x1 _ _ hc
    refine ⟨_, rfl, rfl, t, " ", rfl, rfl, rfl, (by rw [sizeLine_eq]; omega), fun L hL => ?_⟩
    have x2 : Ex H1 (upd H1 L (.lst ((Txt.split t " ").map V.str))) := Ex.new hL
    have nL : L ≠ c := (ne_of_none hc1 hL).symm
    have e2 : upd H1 L (.lst ((Txt.split t " ").map V.str)) L = some (.lst ((Txt.split t " ").map V.str)) := upd_same
    have c2 := x2 _ _ hc1
    generalize upd H1 L (.lst ((Txt.split t " ").map V.str)) = H2 at x2 e2 c2
    refine ⟨_, rfl, c, D, dx, [], rfl, c2, CC.toCls, CC.nWords, by simp, ?_⟩
    have e3 : upd H2 c (.ins D dx (putF "words" (.ref L) [])) c = some (.ins D dx [("words", .ref L)]) := upd_same
    have b3 : ∀ b o, b ≠ c → H2 b = some o → upd H2 c (.ins D dx (putF "words" (.ref L) [])) b = some o := fun b o nb hb => by
      rw [upd_ne nb]
      exact hb
    generalize upd H2 c (.ins D dx (putF "words" (.ref L) [])) = H3 at e3 b3 ⊢
    refine ⟨_, rfl, c, D, dx, [("words", .ref L)], rfl, e3, CC.toCls, CC.nAt, by simp, ?_⟩
    refine k _ (fun b o nb hb => ?_) ⟨dx, L, upd_same, ?_, ?_⟩
    · rw [upd_ne nb]
      exact b3 b o nb (x2 _ _ (x1 _ _ hb))
    · rw [upd_ne nL]
      exact b3 _ _ nL e2
    · have := PyProof.Rows.split_le t " "
      omega
def spPeek (D : Addr) : Sp := fun vs H Q _ => ∃ (c : Addr) (ws : List Str) (i : Nat), vs = [.ref c] ∧ CurAt D H c ws i ∧ RetV (wordAt ws i) H Q
theorem scPeek : FnScope ["self"] ["self"] (defScope (curM 1)) := ⟨rfl, rfl, rfl, by decide +kernel, rfl, by decide +kernel, by decide +kernel⟩
theorem ok_peek {f : Addr} {fd : FuncData} (F : Fun K "peek" "Cursor.peek" (curM 1) f fd) (T : Free mg) (CC : ClsC K mg D) : FnOk P w K mg base CX0 1 f fd ["self"] (spPeek D) := by
  refine F.ok scPeek (fun vs H Q E h => ?_) (fun cdv A outer s H vs Q E hr h => ?_)
  · obtain ⟨_, _, _, rfl, _⟩ := h
    rfl
  · obtain ⟨c, ws, i, rfl, hc, k⟩ := h
    obtain ⟨dx, L, h1, h2, h3⟩ := hc
    refine ⟨_, pss_cons (ps_if (pt_cmpR op_lt (pe_fld (pv 0) rfl) (pe_callB call_len_seq (by rfl) T.len PySem.boot_len (pa_cons (pe_fld (pv 0) rfl) pa_nil)) (nomark _)) (pss_one (ps_ret (pe_ix (r := rIxL K) (by exact ix_list) (pe_fld (pv 0) rfl) (pe_fld (pv 0) rfl) (fun _ _ => rfl)))) pss_nil)
      (pss_one (ps_ret pe_non)), ?_⟩
    have at_ : ∀ {G : Hp}, Ex H G → Ev (tFld K (tVar 0) "at") (start ["self"] [.ref c]) G (.int (i : Int)) := fun x => ev_fld (K := K) (ev_var rfl) (x _ _ h1) CC.toCls CC.nAt rfl
    have words_ : ∀ {G : Hp}, Ex H G → Ev (tFld K (tVar 0) "words") (start ["self"] [.ref c]) G (.ref L) := fun x => ev_fld (K := K) (ev_var rfl) (x _ _ h1) CC.toCls CC.nWords rfl
    have len_ : Ev (tCB (rLenS K) (tCons (tFld K (tVar 0) "words") tNil)) (start ["self"] [.ref c]) H (.int (ws.length : Int)) := ev_cb (ea_cons (words_ (Ex.refl _)) ea_nil) fun H1 x1 Q1 q1 => ⟨L, _, rfl, .inl (sq_of (x1 _ _ h2)), by
      rw [List.length_map]
      exact q1 H1 (Ex.refl _)⟩
    refine q_when (b := decide (i < ws.length)) (et_is (et_test (ev_op (at_ (Ex.refl _)) len_ rv_I0)) (by rw [Bool.eq_iff_iff, decide_eq_true_eq, decide_eq_true_eq]; omega)) (fun z G x => ?_) fun z G x => ?_
    · have lt := of_decide_eq_true z
      have e : ws[i]? = some ws[i] := List.getElem?_eq_getElem lt
      refine s_ret (v := wordAt ws i) (ev_op (words_ x) (at_ x) (rv_ixL (sq_of (x _ _ h2)) ?_)) fun G2 x2 => k G2 (x.trans x2)
      unfold wordAt
      rw [e]
      exact atI_nat (by rw [List.getElem?_map, e]; rfl)
    · have ge : ¬ i < ws.length := of_decide_eq_false z
      refine s_ret (v := wordAt ws i) (ev_is ev_c ?_) fun G2 x2 => k G2 (x.trans x2)
      unfold wordAt
      rw [List.getElem?_eq_none (by omega)]
def spTake (D CT : Addr) : Sp := fun vs H Q E => ∃ (c : Addr) (ws : List Str) (i : Nat) (b : Bool), vs = [.ref c, .bl b] ∧ CurAt D H c ws i ∧
  ((b = true ∧ i < ws.length ∧ ∀ H', ExB c H H' → CurAt D H' c ws (i + 1) → Q (wordAt ws i) H') ∨ (b = false ∧ Raise2V CT "line" "word" (.int 0) (.int (i : Int)) H E))
theorem scTake : FnScope ["self", "stands"] ["self", "stands"] (defScope (curM 2)) := ⟨rfl, rfl, rfl, by decide +kernel, rfl, by decide +kernel, by decide +kernel⟩
theorem ok_take {f : Addr} {fd : FuncData} (F : Fun K "take" "Cursor.take" (curM 2) f fd) (CC : ClsC K mg D) (ZT : Cl P w K mg base "BadText" CT ["line", "word"] (spI2 K "line" "word")) : FnOk P w K mg base (L2.CX P w) 3 f fd ["self", "stands"] (spTake D CT) := by
  refine F.okX scTake (fun vs H Q E h => ?_) (fun cdv A outer s H vs Q E hr h => ?_)
  · obtain ⟨_, _, _, _, rfl, _⟩ := h
    rfl
  · obtain ⟨c, ws, i, b, rfl, hc, alt⟩ := h
    obtain ⟨dx, L, h1, h2, h3⟩ := hc
    refine ⟨_, pss_cons (ps_if (pt_not (pt_val (pv 1))) (pss_one (ps_raise2 rfl (takes_of rfl rfl rfl rfl) ZT hr (pa_cons pe_int (pa_cons (pe_fld (pv 0) rfl) pa_nil)))) pss_nil)
      (pss_cons (ps_fld (pv 0) (pe_op op_add (pe_fld (pv 0) rfl) pe_int) rfl)
      (pss_one (ps_ret (pe_ix (r := rIxL K) (by exact ix_list) (pe_fld (pv 0) rfl) (pe_op op_sub (pe_fld (pv 0) rfl) pe_int) (fun _ _ => rfl))))), ?_⟩
    have at_ : ∀ {G : Hp} {σ : L2.St}, σ[0]? = some (some (.ref c)) → Ex H G → Ev (tFld K (tVar 0) "at") σ G (.int (i : Int)) := fun e x => ev_fld (K := K) (ev_var e) (x _ _ h1) CC.toCls CC.nAt rfl
    refine q_when (b := !b) (et_not (et_B (ev_var rfl))) (fun z G x => ?_) fun z G x => ?_
    · rcases alt with ⟨e, _⟩ | ⟨_, r⟩
      · rw [e] at z
        cases z
      · exact s_raise2 ZT.oex (ZT.no _ List.mem_cons_self) (ZT.no _ (List.mem_cons_of_mem _ List.mem_cons_self)) (ea_cons ev_c (ea_cons (at_ rfl x) ea_nil)) fun d H2 x2 e2 => r d H2 (x.trans x2) e2
    · rcases alt with ⟨_, lt, k⟩ | ⟨e, _⟩
      · have nL : L ≠ c := fun z => by
          rw [z, h1] at h2
          cases h2
        have plus : Ev (tOp (rI0 fun i j => .int (i + j)) (tFld K (tVar 0) "at") (tC (.int 1))) (start ["self", "stands"] [.ref c, .bl b]) G (.int ((i + 1 : Nat) : Int)) := ev_is (ev_op (at_ rfl x) ev_c rv_I0) (by simp)
        refine plus G (Ex.refl _) _ fun G1 x1 => ⟨_, rfl, c, D, dx, _, rfl, x1 _ _ (x _ _ h1), CC.toCls, CC.nAt, by simp, ?_⟩
        have xx := x.trans x1
        have e3 : upd G1 c (.ins D dx (putF "at" (.int ((i + 1 : Nat) : Int)) [("words", .ref L), ("at", .int (i : Int))])) c = some (.ins D dx [("words", .ref L), ("at", .int ((i + 1 : Nat) : Int))]) := upd_same
        have b3 : ExB c H (upd G1 c (.ins D dx (putF "at" (.int ((i + 1 : Nat) : Int)) [("words", .ref L), ("at", .int (i : Int))]))) := fun b o nb hb => by
          rw [upd_ne nb]
          exact xx _ _ hb
        generalize upd G1 c (.ins D dx (putF "at" (.int ((i + 1 : Nat) : Int)) [("words", .ref L), ("at", .int (i : Int))])) = G2 at e3 b3 ⊢
        have e : ws[i]? = some ws[i] := List.getElem?_eq_getElem lt
        have eL := b3 _ _ nL h2
        have less : Ev (tOp (rI0 fun i j => .int (i - j)) (tFld K (tVar 0) "at") (tC (.int 1))) (start ["self", "stands"] [.ref c, .bl b]) G2 (.int (i : Int)) := ev_is (ev_op (ev_fld (K := K) (te := tVar 0) (ev_var rfl) e3 CC.toCls CC.nAt rfl) ev_c rv_I0) (by simp)
        refine s_ret (v := wordAt ws i) (ev_op (ev_fld (K := K) (te := tVar 0) (ev_var rfl) e3 CC.toCls CC.nWords rfl) less (rv_ixL (sq_of eL) ?_)) fun G3 x3 => k G3 (fun b o nb hb => x3 _ _ (b3 b o nb hb)) ⟨dx, L, x3 _ _ e3, x3 _ _ eL, h3⟩
        unfold wordAt
        rw [e]
        exact atI_nat (by rw [List.getElem?_map, e]; rfl)
      · rw [e] at z
        cases z
def spExpect (D CT : Addr) : Sp := fun vs H Q E => ∃ (c : Addr) (ws : List Str) (i : Nat) (u : Str), vs = [.ref c, .str u] ∧ CurAt D H c ws i ∧
  ((wordAt ws i = .str u ∧ ∀ H', ExB c H H' → CurAt D H' c ws (i + 1) → Q .non H') ∨ (wordAt ws i ≠ .str u ∧ Raise2V CT "line" "word" (.int 0) (.int (i : Int)) H E))
theorem scExpect : FnScope ["self", "word"] ["self", "word"] (defScope (curM 3)) := ⟨rfl, rfl, rfl, by decide +kernel, rfl, by decide +kernel, by decide +kernel⟩
theorem word_lt {ws : List Str} {i : Nat} {u : Str} (h : wordAt ws i = .str u) : i < ws.length := by
  unfold wordAt at h
  rcases Nat.lt_or_ge i ws.length with lt | ge
  · exact lt
  · rw [List.getElem?_eq_none ge] at h
    cases h
theorem word_scal (ws : List Str) (i : Nat) (u : Str) : scal (wordAt ws i) (.str u) = true := by
  unfold wordAt
  split <;> rfl
theorem ok_expect {f fT fP : Addr} {fd fdT fdP : FuncData} (F : Fun K "expect" "Cursor.expect" (curM 3) f fd) (CC : ClsC K mg D) (GT : FnOk P w K mg base (L2.CX P w) 3 fT fdT ["self", "stands"] (spTake D CT)) (bT : Binds K fdT ["self", "stands"] []) (mT : Meth K D "take" fT)
    (GP : FnOk P w K mg base CX0 1 fP fdP ["self"] (spPeek D)) (bP : Binds K fdP ["self"] []) (mP : Meth K D "peek" fP) : FnOk P w K mg base (L2.CX P w) 4 f fd ["self", "word"] (spExpect D CT) := by
  refine F.okX scExpect (fun vs H Q E h => ?_) (fun cdv A outer s H vs Q E hr h => ?_)
  · obtain ⟨_, _, _, _, rfl, _⟩ := h
    rfl
  · obtain ⟨c, ws, i, u, rfl, hc, alt⟩ := h
    refine ⟨_, pss_one (ps_expr (pe_meth (CX := L2.CX P w) (E := E) (pv 0) CC.toCls mT GT hr bT .nil (passes_call (takes_of rfl rfl rfl rfl) fun _ _ _ _ h => h) (pa_cons (pe_cmpR op_eq (pe_meth0 (pv 0) CC.toCls mP GP (hr.mono (by decide)) bP .nil pass0) (pv 1) (nomark _)) pa_nil))), ?_⟩
    have hc' := hc
    obtain ⟨dx, L, h1, h2, h3⟩ := hc'
    refine ⟨_, rfl, c, dx, _, rfl, h1, rfl, ?_⟩
    have eq : Ev (tOp rEq (tMeth D "peek" (spPeek D) [] E0 (tVar 0) tNil) (tVar 1)) (start ["self", "word"] [.ref c, .str u]) H (.bl (decide (wordAt ws i = .str u))) :=
      ev_op (fun H1 x1 Q1 q1 => ⟨_, rfl, c, dx, _, rfl, x1 _ _ h1, rfl, c, ws, i, rfl, hc.mono x1, q1⟩) (ev_var rfl) (rv_eq (word_scal ws i u))
    refine (?_ : tCons _ _ _ H _)
    refine eq H (Ex.refl _) _ fun H1 x1 => ?_
    refine ⟨c, ws, i, _, rfl, hc.mono x1, ?_⟩
    rcases alt with ⟨e, k⟩ | ⟨ne, r⟩
    · exact .inl ⟨decide_eq_true e, word_lt e, fun H' x' hc2 => k H' (fun b o nb hb => x' b o nb (x1 _ _ hb)) hc2⟩
    · exact .inr ⟨decide_eq_false ne, fun d H' x' e' => r d H' (x1.trans x') e'⟩
def spFinish (D CT : Addr) : Sp := fun vs H Q E => ∃ (c : Addr) (ws : List Str) (i : Nat), vs = [.ref c] ∧ CurAt D H c ws i ∧ ((ws.length ≤ i ∧ RetV .non H Q) ∨ (i < ws.length ∧ Raise2V CT "line" "word" (.int 0) (.int (i : Int)) H E))
theorem scFinish : FnScope ["self"] ["self"] (defScope (curM 4)) := ⟨rfl, rfl, rfl, by decide +kernel, rfl, by decide +kernel, by decide +kernel⟩
theorem ok_finish {f : Addr} {fd : FuncData} (F : Fun K "finish" "Cursor.finish" (curM 4) f fd) (T : Free mg) (CC : ClsC K mg D) (ZT : Cl P w K mg base "BadText" CT ["line", "word"] (spI2 K "line" "word")) : FnOk P w K mg base (L2.CX P w) 3 f fd ["self"] (spFinish D CT) := by
  refine F.okX scFinish (fun vs H Q E h => ?_) (fun cdv A outer s H vs Q E hr h => ?_)
  · obtain ⟨_, _, _, rfl, _⟩ := h
    rfl
  · obtain ⟨c, ws, i, rfl, hc, alt⟩ := h
    obtain ⟨dx, L, h1, h2, h3⟩ := hc
    refine ⟨_, pss_one (ps_if (pt_cmpR op_lt (pe_fld (pv 0) rfl) (pe_callB call_len_seq (by rfl) T.len PySem.boot_len (pa_cons (pe_fld (pv 0) rfl) pa_nil)) (nomark _)) (pss_one (ps_raise2 rfl (takes_of rfl rfl rfl rfl) ZT hr (pa_cons pe_int (pa_cons (pe_fld (pv 0) rfl) pa_nil)))) pss_nil), ?_⟩
    have at_ : ∀ {G : Hp}, Ex H G → Ev (tFld K (tVar 0) "at") (start ["self"] [.ref c]) G (.int (i : Int)) := fun x => ev_fld (K := K) (ev_var rfl) (x _ _ h1) CC.toCls CC.nAt rfl
    have len_ : Ev (tCB (rLenS K) (tCons (tFld K (tVar 0) "words") tNil)) (start ["self"] [.ref c]) H (.int (ws.length : Int)) := ev_cb (ea_cons (ev_fld (K := K) (ev_var rfl) h1 CC.toCls CC.nWords rfl) ea_nil) fun H1 x1 Q1 q1 => ⟨L, _, rfl, .inl (sq_of (x1 _ _ h2)), by
      rw [List.length_map]
      exact q1 H1 (Ex.refl _)⟩
    refine s_when (b := decide (i < ws.length)) (et_is (et_test (ev_op (at_ (Ex.refl _)) len_ rv_I0)) (by rw [Bool.eq_iff_iff, decide_eq_true_eq, decide_eq_true_eq]; omega)) (fun z G x => ?_) fun z G x => ?_
    · rcases alt with ⟨ge, _⟩ | ⟨_, r⟩
      · have := of_decide_eq_true z
        omega
      · exact s_raise2 ZT.oex (ZT.no _ List.mem_cons_self) (ZT.no _ (List.mem_cons_of_mem _ List.mem_cons_self)) (ea_cons ev_c (ea_cons (at_ x) ea_nil)) fun d H2 x2 e2 => r d H2 (x.trans x2) e2
    · rcases alt with ⟨_, k⟩ | ⟨lt, _⟩
      · exact k G x
      · exact absurd lt (of_decide_eq_false z)
/-- a text that is none -/
def spCurInitX (K : PySem.W.Frag) (D CT : Addr) : Sp := fun vs H _ E => ∃ (c dx : Addr) (v : V), vs = [.ref c, v] ∧ H c = some (.ins D dx []) ∧ (∀ H', Ex H H' → ∃ t, TyX K H' v t ∧ PySem.W.kitOne K t (.type "str") = some false) ∧ Raise2V CT "line" "word" (.int 0) (.int 0) H E
theorem ok_curInitX {f : Addr} {fd : FuncData} (F : Fun K "__init__" "Cursor.__init__" (curM 0) f fd) (T : Free mg) (ZT : Cl P w K mg base "BadText" CT ["line", "word"] (spI2 K "line" "word")) : FnOk P w K mg base (L2.CX P w) 3 f fd ["self", "text"] (spCurInitX K D CT) := by
  refine F.okX scCurInit (fun vs H Q E h => ?_) (fun cdv A outer s H vs Q E hr h => ?_)
  · obtain ⟨_, _, _, rfl, _⟩ := h
    rfl
  · obtain ⟨c, dx, v, rfl, hc, no, r⟩ := h
    refine ⟨_, pss_cons (ps_if (pt_not (pt_val (pe_callB call_isi (by rfl) T.isinstance (by decide +kernel) (pa_cons (pv 1) (pa_cons (pe_bltn (v := .ty "str") (by rfl) T.str (by decide +kernel) rfl) pa_nil))))) (pss_one (ps_raise2 rfl (takes_of rfl rfl rfl rfl) ZT hr (pa_cons pe_int (pa_cons pe_int pa_nil)))) pss_nil) pss_never, ?_⟩
    refine q_when (b := true) (et_is (et_not (et_B (ev_cb (ea_cons (ev_var rfl) (ea_cons ev_c ea_nil)) fun H1 x1 Q1 q1 => by
      obtain ⟨t, ty, e⟩ := no H1 x1
      exact ⟨v, _, t, _, false, rfl, .ty "str", ty, e, q1 H1 (Ex.refl _)⟩))) rfl) (fun _ H1 x1 => s_raise2 ZT.oex (ZT.no _ List.mem_cons_self) (ZT.no _ (List.mem_cons_of_mem _ List.mem_cons_self)) (ea_cons ev_c (ea_cons ev_c ea_nil)) fun d H2 x2 e2 => r d H2 (x1.trans x2) e2) fun z => by cases z
end
end K02

set_option Elab.async false
set_option linter.all false
set_option maxRecDepth 100000
set_option maxHeartbeats 4000000
/-! moves.py: take_code_word -/
namespace K02
open PySem PySem.Spec PyProof.Rows L2 Evl KU
theorem CurAt.len {D : Addr} {H : Hp} {c : Addr} {ws : List Str} {i : Nat} (h : CurAt D H c ws i) : ∃ dx fs, H c = some (.ins D dx fs) ∧ fs.lookup ("take" : Str) = none ∧ fs.lookup ("peek" : Str) = none ∧ fs.lookup ("expect" : Str) = none ∧ fs.lookup ("finish" : Str) = none := by
  obtain ⟨dx, L, h1, h2, h3⟩ := h
  exact ⟨dx, _, h1, rfl, rfl, rfl, rfl⟩
theorem word_val (ws : List Str) (i : Nat) : (∃ t ∈ ws, wordAt ws i = .str t) ∨ wordAt ws i = .non := by
  unfold wordAt
  rcases Nat.lt_or_ge i ws.length with lt | ge
  · rw [List.getElem?_eq_getElem lt]
    exact .inl ⟨_, List.getElem_mem _, rfl⟩
  · rw [List.getElem?_eq_none ge]
    exact .inr rfl
abbrev sTcw : Stmt := topR 18
theorem scTcw : FnScope ["cursor", "words", "signs", "word"] ["cursor", "words", "signs"] (defScope sTcw) := ⟨rfl, rfl, rfl, by decide +kernel, rfl, by decide +kernel, by decide +kernel⟩
/-- the word of a code stands behind those so far -/
def standsW (v : V) (al : Str) (qs : List (Str × Str)) : Bool := isWrdM v al 3 && (match v with
  | .str t => !(qs.map (·.2)).any (alikeB t)
  | _ => false)
def spTcw (D CT : Addr) : Sp := fun vs H Q E => ∃ (c p : Addr) (ws : List Str) (i : Nat) (al : Str) (qs : List (Str × Str)), vs = [.ref c, .ref p, .str al] ∧ CurAt D H c ws i ∧ (∀ t ∈ ws, t.length ≤ 1000) ∧ H p = some (.dK (kvG (kvS qs))) ∧ qs.length ≤ 1000 ∧
  ((standsW (wordAt ws i) al qs = true ∧ i < ws.length ∧ ∀ H', ExB c H H' → CurAt D H' c ws (i + 1) → Q (wordAt ws i) H') ∨ (standsW (wordAt ws i) al qs = false ∧ Raise2V CT "line" "word" (.int 0) (.int (i : Int)) H E))
section
variable {P : Program} {w : World} {K : PySem.W.Frag} {mg : Str → Option Value} {base : Heap} {D CT : Addr}
theorem evp_vals {σ : L2.St} {H : Hp} {i : Nat} {p : Addr} {qs : List (Str × Str)} (h0 : σ[i]? = some (some (.ref p))) (hp : H p = some (.dK (kvG (kvS qs)))) : EvP (tListVals (tVar i)) σ H (IsSL (qs.map (·.2))) := fun G1 y Q1 q1 => ⟨_, h0, p, _, rfl, .inl (y _ _ hp), fun l hl => q1 _ _ (Ex.new hl) ⟨l, rfl, by
  rw [upd_same]
  unfold kvG kvS
  rw [List.map_map, List.map_map, List.map_map]
  rfl⟩⟩
theorem ok_tcw {f fT fP fW fB : Addr} {fd fdT fdP fdW fdB : FuncData} (F : Fun K "take_code_word" "take_code_word" sTcw f fd) (T : Free mg) (CC : ClsC K mg D) (gM : ∃ t, mg "MOST_SIGNS" = some (.int 3 t))
    (GT : FnOk P w K mg base (L2.CX P w) 3 fT fdT ["self", "stands"] (spTake D CT)) (bT : Binds K fdT ["self", "stands"] []) (mT : Meth K D "take" fT) (GP : FnOk P w K mg base CX0 1 fP fdP ["self"] (spPeek D)) (bP : Binds K fdP ["self"] []) (mP : Meth K D "peek" fP)
    (GW : FnOk P w K mg base CX0 2 fW fdW ["value", "signs", "most"] (spIsWord K)) (bW : Binds K fdW ["value", "signs", "most"] []) (gW : mg "is_word" = some (.ref fW)) (kW : PySem.W.keepIn K (.ref fW) = true)
    (GB : FnOk P w K mg base CX0 1 fB fdB ["word", "others"] (spBegins K)) (bB : Binds K fdB ["word", "others"] []) (gB : mg "begins_alike" = some (.ref fB)) (kB : PySem.W.keepIn K (.ref fB) = true) :
    FnOk P w K mg base (L2.CX P w) 5 f fd ["cursor", "words", "signs"] (spTcw D CT) := by
  obtain ⟨tm, gM⟩ := gM
  refine F.okX scTcw (fun vs H Q E h => ?_) (fun cdv A outer s H vs Q E hr h => ?_)
  · obtain ⟨_, _, _, _, _, _, rfl, _⟩ := h
    rfl
  · obtain ⟨c, p, ws, i, al, qs, rfl, hc, small, hp, few, alt⟩ := h
    have nd := scTcw.nd
    refine ⟨_, pss_cons (ps_set (i := 3) nd rfl (.inl rfl) (pe_meth0 (pv 0) CC.toCls mP GP (hr.mono (by decide)) bP .nil pass0))
      (pss_one (ps_ret (pe_meth (CX := L2.CX P w) (E := E) (pv 0) CC.toCls mT GT (hr.mono (by decide)) bT .nil (passes_call (takes_of rfl rfl rfl rfl) fun _ _ _ _ h => h) (pa_cons (pe_and (pe_call GW (hr.mono (by decide)) (by rfl) gW kW bW .nil pass0 (pa_cons (pv 3) (pa_cons (pv 2) (pa_cons (pe_glob (v := .int 3) rfl gM ⟨_, rfl⟩) pa_nil)))) (pe_one (pe_not (pe_call GB (hr.mono (by decide)) (by rfl) gB kB bB .nil pass0 (pa_cons (pv 3) (pa_cons (pe_listVals rfl (pv 1) (by rfl) T.list (by decide +kernel)) pa_nil)))))) pa_nil)))), ?_⟩
    obtain ⟨dx, fs, h1, l1, l2, l3, l4⟩ := hc.len
    refine q_asg (v := wordAt ws i) (fun H1 x1 Q1 q1 => ⟨_, rfl, c, dx, fs, rfl, x1 _ _ h1, l2, c, ws, i, rfl, hc.mono x1, q1⟩) fun H1 x1 => ?_
    have sv : SV K H1 (wordAt ws i) := by
      rcases word_val ws i with ⟨t, mt, e⟩ | e
      · rw [e]
        exact .str t (small t mt)
      · rw [e]
        exact sv_bty .non (by decide)
    have st : Ev (tAndV (tCall (spIsWord K) [] E0 (tCons (tVar 3) (tCons (tVar 2) (tCons (tC (.int 3)) tNil)))) (tNotV (tCall (spBegins K) [] E0 (tCons (tVar 3) (tCons (tListVals (tVar 1)) tNil))))) [some (.ref c), some (.ref p), some (.str al), some (wordAt ws i)] H1 (.bl (standsW (wordAt ws i) al qs)) := by
      refine ev_andV (ev_call (ea_cons (ev_var rfl) (ea_cons (ev_var rfl) (ea_cons ev_c ea_nil))) fun H2 x2 Q2 q2 _ => ⟨wordAt ws i, al, 3, rfl, sv.mono x2, q2⟩) fun hb => ?_
      rcases word_val ws i with ⟨t, mt, e⟩ | e
      · rw [e]
        refine ev_notV (fun H2 x2 Q2 q2 => ?_)
        refine ⟨_, rfl, ?_⟩
        refine (?_ : tCons _ _ _ H2 _)
        refine evp_vals rfl (x1 _ _ hp) H2 x2 _ fun u H3 x3 ⟨l, eu, hl⟩ => ?_
        subst eu
        exact ⟨t, l, qs.map (·.2), rfl, sq_of hl, by rw [List.length_map]; exact few, fun H4 x4 => q2 H4 (x3.trans x4)⟩
      · rw [e] at hb
        cases hb
    refine (?_ : tMeth _ _ _ _ _ _ _ _ H1 _)
    refine ⟨_, rfl, c, dx, fs, rfl, x1 _ _ h1, l1, st H1 (Ex.refl _) _ fun H2 x2 => ?_⟩
    have hc2 := hc.mono (x1.trans x2)
    rcases alt with ⟨e, il, k⟩ | ⟨e, k⟩
    · exact ⟨c, ws, i, true, by rw [e]; rfl, hc2, .inl ⟨rfl, il, fun H3 x3 h3 => k H3 (fun b o nb hb => x3 b o nb ((x1.trans x2) _ _ hb)) h3⟩⟩
    · exact ⟨c, ws, i, false, by rw [e]; rfl, hc2, .inr ⟨rfl, fun d H3 x3 h3 => k d H3 ((x1.trans x2).trans x3) h3⟩⟩
end
end K02

set_option Elab.async false
set_option linter.all false
set_option maxRecDepth 100000
set_option maxHeartbeats 4000000
/-! Moves read: maths -/
namespace K02
open PySem PySem.Spec PyProof.Rows L2 Evl KU
theorem tw_mem {p : Nat → Bool} : ∀ {l : List Nat} {c : Nat}, c ∈ l.takeWhile p → p c = true
  | [], c, h => by cases h
  | a :: r, c, h => by
    rw [List.takeWhile_cons] at h
    split at h
    · rename_i pa
      rcases List.mem_cons.mp h with rfl | h
      · exact pa
      · exact tw_mem h
    · cases h
theorem all_tw {p : Nat → Bool} : ∀ {l : List Nat}, (l.takeWhile p).length = l.length → ∀ c ∈ l, p c = true
  | [], _, c, h => by cases h
  | a :: r, e, c, h => by
    rw [List.takeWhile_cons] at e
    split at e
    · rename_i pa
      rcases List.mem_cons.mp h with rfl | h
      · exact pa
      · exact all_tw (by simpa using e) c h
    · simp at e
theorem text_over {al t : Str} (h : isTextB t al = true) : Over al t := by
  unfold isTextB at h
  rw [decide_eq_true_eq] at h
  injection h with h
  have h : Txt.stripBy al.cps.contains true true t = "" := h
  rw [stripBy_eq] at h
  have hl := congrArg Str.length h
  have hl : (t.cps.extract (stripLo al.cps.contains true t) (stripHi al.cps.contains true t (stripLo al.cps.contains true t))).size = 0 := hl
  rw [Array.size_extract] at hl
  have lt := len_cps t
  have tp := List.takeWhile_prefix (l := t.cps.toList) al.cps.contains
  have tpl := tp.length_le
  have tle : (((t.cps.toList.drop (stripLo al.cps.contains true t)).reverse.takeWhile al.cps.contains).length ≤ (t.cps.toList.drop (stripLo al.cps.contains true t)).reverse.length) := (List.takeWhile_prefix (l := (t.cps.toList.drop (stripLo al.cps.contains true t)).reverse) al.cps.contains).length_le
  have elo : stripLo al.cps.contains true t = (t.cps.toList.takeWhile al.cps.contains).length := by
    unfold stripLo
    rw [if_pos rfl]
  have ehi : stripHi al.cps.contains true t (stripLo al.cps.contains true t) = t.length - ((t.cps.toList.drop (stripLo al.cps.contains true t)).reverse.takeWhile al.cps.contains).length := by
    unfold stripHi
    rw [if_pos rfl]
  rw [List.length_reverse, List.length_drop] at tle
  have sz : t.cps.size = t.length := rfl
  rw [ehi, sz] at hl
  have full : ((t.cps.toList.drop (stripLo al.cps.contains true t)).reverse.takeWhile al.cps.contains).length = (t.cps.toList.drop (stripLo al.cps.contains true t)).reverse.length := by
    rw [List.length_reverse, List.length_drop]
    rw [elo] at hl tle ⊢
    omega
  intro c hc
  have pc : al.cps.contains c = true := by
    rw [← List.take_append_drop (stripLo al.cps.contains true t) t.cps.toList] at hc
    rcases List.mem_append.mp hc with h | h
    · have e : t.cps.toList.take (stripLo al.cps.contains true t) = t.cps.toList.takeWhile al.cps.contains := by
        rw [elo]
        exact (List.prefix_iff_eq_take.mp tp).symm
      rw [e] at h
      exact tw_mem h
    · exact all_tw full c (List.mem_reverse.mpr h)
  rw [Array.contains_eq_mem, decide_eq_true_eq] at pc
  exact Array.mem_toList_iff.mpr pc
theorem text_iff {al t : Str} : isTextB t al = true ↔ Over al t := ⟨text_over, fun h => by
  unfold isTextB
  rw [strip_over h]
  rfl⟩
theorem over_iff {al t : Str} : isTextB t al = true ↔ Over al t := text_iff
abbrev sgB (t : Str) : Bool := isSgnV (.str t) sSIGNS
theorem sgB_one {t : Str} (h : sgB t = true) : ∃ c ∈ sSIGNS.cps.toList, t = (⟨#[c]⟩ : Str) := by
  have l := key_len h
  have m : inS t sSIGNS = true := by
    unfold sgB isSgnV at h
    rw [Bool.and_eq_true] at h
    exact h.2
  obtain ⟨c, hc⟩ : ∃ c, t.cps.toList = [c] := by
    have : t.cps.toList.length = 1 := by rw [len_cps]; exact l
    exact List.length_eq_one_iff.mp this
  have e : t = (⟨#[c]⟩ : Str) := str_eq (by rw [hc])
  rw [e] at m
  exact ⟨c, (inS_mem _).mp m, e⟩
theorem one_sgB {c : Nat} (h : c ∈ sSIGNS.cps.toList) : sgB ⟨#[c]⟩ = true := by
  unfold sgB isSgnV
  simp only [Bool.and_eq_true, decide_eq_true_eq]
  exact ⟨rfl, (inS_mem _).mpr h⟩
theorem alike_comm (a b : Str) : alikeB a b = alikeB b a := Bool.or_comm _ _
theorem pre_start {x y : Str} (h : y.cps.toList <+: x.cps.toList) : Txt.startswith x y = true := by
  unfold Txt.startswith
  rw [Bool.and_eq_true, StrLaws.subAt_eq, beq_iff_eq, List.drop_zero]
  refine ⟨?_, ?_⟩
  · have := h.length_le
    rw [len_cps, len_cps] at this
    simp
    try omega
  · rw [← len_cps]
    exact (List.prefix_iff_eq_take.mp h).symm
theorem alike_iff {a b : Str} : alikeB a b = true ↔ b.cps.toList <+: a.cps.toList ∨ a.cps.toList <+: b.cps.toList := by
  unfold alikeB
  rw [Bool.or_eq_true]
  exact ⟨fun h => h.imp start_pre start_pre, fun h => h.imp pre_start pre_start⟩
/-- the words of a code from the j-th word on: what they are, and where they end, or which one cannot stand -/
def moreC : List Str → Nat → Str → List (Str × Str) → Except Nat (List (Str × Str) × Nat)
  | [], j, _, qs => .ok (qs, j)
  | [s], j, last, qs => if sgB s && ltS last s then .error (j + 1) else .ok (qs, j)
  | s :: w :: r, j, last, qs => if sgB s && ltS last s then (if standsW (.str w) sSIGNS qs then moreC r (j + 2) s (qs ++ [(s, w)]) else .error (j + 1)) else .ok (qs, j)
inductive MoveR where
  | put (s : Str)
  | code (qs : List (Str × Str))
/-- what the words of a text tell: the place of the first that is wrong, or a move -/
def readM (ws : List Str) : Except Nat MoveR :=
  if wordAt ws 0 = .str "code" then
    match moreC (ws.drop 1) 1 "" [] with
    | .error n => .error n
    | .ok (qs, j) => if qs = [] then .error 1 else if j < ws.length then .error j else .ok (.code qs)
  else if wordAt ws 0 = .str "put" then
    match wordAt ws 1 with
    | .str s => if sgB s then (if 2 < ws.length then .error 2 else .ok (.put s)) else .error 1
    | _ => .error 1
  else .error 0
/-- the words so far -/
structure Asc (last : Str) (qs : List (Str × Str)) : Prop where
  up : (qs.map (·.1)).Pairwise fun a b => a.cps.toList < b.cps.toList
  last : ∀ q ∈ qs, q.1 = last ∨ q.1.cps.toList < last.cps.toList
  key : ∀ q ∈ qs, sgB q.1 = true
  word : ∀ q ∈ qs, isWordB q.2 sSIGNS 3 = true
  pf : (qs.map (·.2)).Pairwise fun a b => alikeB b a = false
theorem Asc.nil : Asc "" [] := ⟨.nil, fun _ h => absurd h List.not_mem_nil, fun _ h => absurd h List.not_mem_nil, fun _ h => absurd h List.not_mem_nil, .nil⟩
theorem all_snoc {α : Type} {P : α → Prop} {l : List α} {x : α} (h : ∀ q ∈ l, P q) (hx : P x) : ∀ q ∈ l ++ [x], P q := fun q hq => by
  rcases List.mem_append.mp hq with m | m
  · exact h q m
  · rw [List.mem_singleton.mp m]
    exact hx
theorem pw_snoc {α : Type} {R : α → α → Prop} {l : List α} {x : α} (h : l.Pairwise R) (hx : ∀ q ∈ l, R q x) : (l ++ [x]).Pairwise R := List.pairwise_append.mpr ⟨h, List.pairwise_singleton _ _, fun a ha b hb => by rw [List.mem_singleton.mp hb]; exact hx a ha⟩
theorem stands_parts {w : Str} {qs : List (Str × Str)} : standsW (.str w) sSIGNS qs = true ↔ isWordB w sSIGNS 3 = true ∧ ∀ q ∈ qs, alikeB w q.2 = false := by
  show (isWordB w sSIGNS 3 && !(qs.map (·.2)).any (alikeB w)) = true ↔ _
  rw [Bool.and_eq_true, Bool.not_eq_true', List.any_eq_false]
  refine and_congr_right fun _ => ⟨fun h q hq => ?_, fun h x hx => ?_⟩
  · simpa using h q.2 (List.mem_map.mpr ⟨q, hq, rfl⟩)
  · obtain ⟨q, hq, rfl⟩ := List.mem_map.mp hx
    simpa using h q hq
theorem Asc.snoc {last s w : Str} {qs : List (Str × Str)} (A : Asc last qs) (hs : sgB s = true) (lt : ltS last s = true) (st : standsW (.str w) sSIGNS qs = true) : Asc s (qs ++ [(s, w)]) := by
  obtain ⟨hw, hn⟩ := stands_parts.mp st
  have lt : last.cps.toList < s.cps.toList := of_decide_eq_true lt
  have below : ∀ q ∈ qs, q.1.cps.toList < s.cps.toList := fun q hq => by
    rcases A.last q hq with e | h
    · rw [e]; exact lt
    · exact List.lt_trans h lt
  refine ⟨?_, all_snoc (fun q hq => .inr (below q hq)) (.inl rfl), all_snoc A.key hs, all_snoc A.word hw, ?_⟩
  · rw [List.map_append]
    refine pw_snoc A.up fun k hk => ?_
    obtain ⟨q, hq, rfl⟩ := List.mem_map.mp hk
    exact below q hq
  · rw [List.map_append]
    refine pw_snoc A.pf fun k hk => ?_
    obtain ⟨q, hq, rfl⟩ := List.mem_map.mp hk
    exact hn q hq
theorem lt_ne {a b : Str} (h : a.cps.toList < b.cps.toList) : a ≠ b := fun e => by
  rw [e] at h
  exact List.lt_irrefl _ h
theorem Asc.nd {last : Str} {qs : List (Str × Str)} (A : Asc last qs) : (qs.map (·.1)).Nodup := A.up.imp lt_ne
theorem Asc.new {last s : Str} {qs : List (Str × Str)} (A : Asc last qs) (lt : ltS last s = true) : s ∉ qs.map (·.1) := fun h => by
  obtain ⟨q, hq, rfl⟩ := List.mem_map.mp h
  have lt : last.cps.toList < q.1.cps.toList := of_decide_eq_true lt
  rcases A.last q hq with e | h
  · rw [e] at lt
    exact List.lt_irrefl _ lt
  · exact List.lt_irrefl _ (List.lt_trans lt h)
theorem Asc.few {last : Str} {qs : List (Str × Str)} (A : Asc last qs) : qs.length ≤ 36 := by
  have h := A.nd.length_le_of_subset (l₂ := sSIGNS.cps.toList.map fun c => (⟨#[c]⟩ : Str)) fun k hk => by
    obtain ⟨q, hq, rfl⟩ := List.mem_map.mp hk
    obtain ⟨c, hc, e⟩ := sgB_one (A.key q hq)
    exact List.mem_map.mpr ⟨c, hc, e.symm⟩
  rw [List.length_map, List.length_map] at h
  exact h
theorem word_parts {w : Str} (h : isWordB w sSIGNS 3 = true) : Over sSIGNS w ∧ 1 ≤ w.length ∧ w.length ≤ 3 := by
  unfold isWordB at h
  rw [Bool.and_eq_true, Bool.and_eq_true, decide_eq_true_eq, decide_eq_true_eq] at h
  exact ⟨text_over h.1, by have := h.2.1; omega, by have := h.2.2; omega⟩
theorem pf_get {l : List Str} (h : l.Pairwise fun a b => alikeB b a = false) {i j : Nat} (hi : i < l.length) (hj : j < l.length) (ne : i ≠ j) : alikeB l[i] l[j] = false := by
  rcases Nat.lt_or_gt_of_ne ne with lt | gt
  · rw [alike_comm]
    exact List.pairwise_iff_getElem.mp h i j hi hj lt
  · exact List.pairwise_iff_getElem.mp h j i hj hi gt
theorem Asc.code {last : Str} {qs : List (Str × Str)} (A : Asc last qs) (ne : qs ≠ []) : CodeG qs := by
  refine ⟨ne, by have := A.few; omega, A.nd, fun q hq => sgB_one (A.key q hq), fun q hq => (word_parts (A.word q hq)).1, fun q hq => (word_parts (A.word q hq)).2, fun p hp q hq ne pre => ?_⟩
  obtain ⟨i, hi, rfl⟩ := List.getElem_of_mem hp
  obtain ⟨j, hj, rfl⟩ := List.getElem_of_mem hq
  have ij : i ≠ j := fun e => ne (by subst e; rfl)
  have := pf_get A.pf (i := i) (j := j) (by rw [List.length_map]; exact hi) (by rw [List.length_map]; exact hj) ij
  rw [List.getElem_map, List.getElem_map] at this
  rw [alike_iff.mpr (.inr pre)] at this
  cases this
theorem Asc.same {last : Str} {qs : List (Str × Str)} (A : Asc last qs) : codeOf qs = qs := by
  have e : srt (qs.map (·.1)) = qs.map (·.1) := (srt_is (sorted_of (A.up.imp fun h => List.le_of_lt h)) A.nd fun k => Iff.rfl).symm
  unfold codeOf
  rw [e, List.map_map]
  conv => rhs; rw [← List.map_id qs]
  refine List.map_congr_left fun q hq => ?_
  show (q.1, wOf qs q.1) = q
  rw [wOf_of A.nd (show (q.1, q.2) ∈ qs from hq)]
/-- the words of a code in a row -/
def flat (qs : List (Str × Str)) : List Str := qs.flatMap fun q => [q.1, q.2]
theorem flat_snoc (qs : List (Str × Str)) (s w : Str) : flat (qs ++ [(s, w)]) = flat qs ++ [s, w] := by
  unfold flat
  rw [List.flatMap_append]
  rfl
theorem flat_len (qs : List (Str × Str)) : (flat qs).length = 2 * qs.length := by
  induction qs with
  | nil => rfl
  | cons q r ih =>
    show (q.1 :: q.2 :: flat r).length = _
    rw [List.length_cons, List.length_cons, ih, List.length_cons]
    omega
/-- what is read so -/
theorem moreC_ok : ∀ {r : List Str} {j : Nat} {last : Str} {qs qs' : List (Str × Str)} {n : Nat}, Asc last qs → moreC r j last qs = .ok (qs', n) → (∃ l', Asc l' qs') ∧ j ≤ n ∧ n ≤ j + r.length ∧ flat qs ++ r = flat qs' ++ r.drop (n - j)
  | [], j, last, qs, qs', n, A, h => by
    unfold moreC at h
    cases h
    exact ⟨⟨_, A⟩, Nat.le_refl _, Nat.le_add_right _ _, by simp⟩
  | [s], j, last, qs, qs', n, A, h => by
    unfold moreC at h
    split at h
    · cases h
    · cases h
      exact ⟨⟨_, A⟩, Nat.le_refl _, Nat.le_add_right _ _, by simp⟩
  | s :: w :: r, j, last, qs, qs', n, A, h => by
    unfold moreC at h
    split at h
    · rename_i c
      split at h
      · rename_i st
        rw [Bool.and_eq_true] at c
        obtain ⟨a1, a2, a3, a4⟩ := moreC_ok (A.snoc c.1 c.2 st) h
        refine ⟨a1, by omega, by simp only [List.length_cons]; omega, ?_⟩
        rw [flat_snoc] at a4
        have e : n - j = (n - (j + 2)) + 1 + 1 := by omega
        rw [e, List.drop_succ_cons, List.drop_succ_cons, ← a4, List.append_assoc]
        rfl
      · cases h
    · cases h
      exact ⟨⟨_, A⟩, Nat.le_refl _, Nat.le_add_right _ _, by simp⟩
theorem readM_code {ws : List Str} {qs : List (Str × Str)} (h : readM ws = .ok (.code qs)) : (∃ l, Asc l qs) ∧ qs ≠ [] ∧ ws = ("code" : Str) :: flat qs := by
  unfold readM at h
  split at h
  · rename_i h0
    cases e : moreC (ws.drop 1) 1 "" [] with
    | error n => rw [e] at h; cases h
    | ok p =>
      obtain ⟨qs', n⟩ := p
      rw [e] at h
      dsimp only at h
      split at h
      · cases h
      · rename_i ne
        split at h
        · cases h
        · rename_i ge
          cases h
          obtain ⟨a1, a2, a3, a4⟩ := moreC_ok Asc.nil e
          refine ⟨a1, ne, ?_⟩
          have l0 := word_lt h0
          obtain ⟨a, r, rfl⟩ : ∃ a r, ws = a :: r := by
            cases ws with
            | nil => cases l0
            | cons a r => exact ⟨a, r, rfl⟩
          have ea : a = "code" := by
            injection h0
          rw [ea]
          have d : (a :: r).drop 1 = r := rfl
          rw [d] at a4 a3
          have : r.drop (n - 1) = [] := List.drop_eq_nil_of_le (by
            have : (a :: r).length = r.length + 1 := rfl
            omega)
          rw [this, List.append_nil] at a4
          rw [← a4]
          rfl
  · split at h
    · split at h
      · split at h
        · split at h
          · cases h
          · cases h
        · cases h
      · cases h
    · cases h
theorem readM_put {ws : List Str} {s : Str} (h : readM ws = .ok (.put s)) : sgB s = true ∧ ws = [("put" : Str), s] := by
  unfold readM at h
  split at h
  · cases e : moreC (ws.drop 1) 1 "" [] with
    | error n => rw [e] at h; cases h
    | ok p =>
      obtain ⟨qs', n⟩ := p
      rw [e] at h
      dsimp only at h
      split at h
      · cases h
      · split at h
        · cases h
        · cases h
  · split at h
    · rename_i h0
      split at h
      · rename_i s' h1
        split at h
        · rename_i hs
          split at h
          · cases h
          · rename_i l2
            cases h
            refine ⟨hs, ?_⟩
            have l1 := word_lt h1
            match ws, l1, l2, h0, h1 with
            | [a, b], _, _, h0, h1 =>
              injection h0 with h0
              injection h1 with h1
              rw [h0, h1]
            | a :: b :: c :: r, _, l2, _, _ => exact absurd (show 2 < (a :: b :: c :: r).length by simp only [List.length_cons]; omega) l2
        · cases h
      · cases h
    · cases h
/-- a code's words are read so -/
theorem moreC_flat : ∀ {b a : List (Str × Str)} {last : Str} {j : Nat}, Asc last a → ((a ++ b).map (·.1)).Pairwise (fun x y => x.cps.toList < y.cps.toList) → (∀ q ∈ b, sgB q.1 = true) → (∀ q ∈ b, isWordB q.2 sSIGNS 3 = true) → ((a ++ b).map (·.2)).Pairwise (fun x y => alikeB y x = false) →
    ((a = [] ∧ last = "") ∨ last ∈ a.map (·.1)) → moreC (flat b) j last a = .ok (a ++ b, j + 2 * b.length)
  | [], a, last, j, A, up, key, wd, pf, hl => by
    show moreC [] j last a = _
    unfold moreC
    simp
  | (s, w) :: b, a, last, j, A, up, key, wd, pf, hl => by
    have e : flat ((s, w) :: b) = s :: w :: flat b := rfl
    rw [e]
    have hs := key (s, w) List.mem_cons_self
    have hw := wd (s, w) List.mem_cons_self
    have up' := up
    have pf' := pf
    rw [List.map_append, List.pairwise_append] at up' pf'
    have lt : ltS last s = true := by
      rcases hl with ⟨_, rfl⟩ | m
      · obtain ⟨c, _, e⟩ := sgB_one hs
        have e : s = (⟨#[c]⟩ : Str) := e
        rw [e]
        exact decide_eq_true (List.nil_lt_cons _ _)
      · exact decide_eq_true (up'.2.2 last m s (by simp))
    have st : standsW (.str w) sSIGNS a = true := stands_parts.mpr ⟨hw, fun q hq => pf'.2.2 q.2 (List.mem_map.mpr ⟨q, hq, rfl⟩) w (by simp)⟩
    have hs' : sgB s = true := hs
    unfold moreC
    rw [if_pos (by rw [hs', lt]; rfl), if_pos st]
    have ea : a ++ (s, w) :: b = (a ++ [(s, w)]) ++ b := by simp
    rw [ea] at up pf ⊢
    rw [moreC_flat (A.snoc hs lt st) up (fun q hq => key q (List.mem_cons_of_mem _ hq)) (fun q hq => wd q (List.mem_cons_of_mem _ hq)) pf (.inr (by simp))]
    simp only [List.length_cons]
    congr 2
    omega
theorem rising_pw : ∀ {x : Str} {l : List Str}, risingS x l = true → (x :: l).Pairwise fun a b => a.cps.toList ≤ b.cps.toList
  | x, [], _ => List.pairwise_singleton _ _
  | x, y :: r, h => by
    simp only [risingS, Bool.and_eq_true, Bool.not_eq_true'] at h
    have ih := rising_pw h.2
    have xy : x.cps.toList ≤ y.cps.toList := List.not_lt.mp fun z => by
      rw [(ltCps_iff _ _).mpr z] at h
      exact absurd h.1 (by decide)
    refine List.pairwise_cons.mpr ⟨fun b hb => ?_, ih⟩
    rcases List.mem_cons.mp hb with rfl | hb
    · exact xy
    · exact List.le_trans xy ((List.pairwise_cons.mp ih).1 b hb)
theorem sorted_pw {l : List Str} (h : sortedS l = true) : l.Pairwise fun a b => a.cps.toList ≤ b.cps.toList := by
  cases l with
  | nil => exact .nil
  | cons x r => exact rising_pw h
theorem strict_pw {l : List Str} (h : sortedS l = true) (nd : l.Nodup) : l.Pairwise fun a b => a.cps.toList < b.cps.toList := ((sorted_pw h).and nd).imp fun ⟨a, b⟩ => by
  rcases List.le_iff_lt_or_eq.mp a with z | z
  · exact z
  · exact absurd (str_eq z) b
/-- a code that is sorted -/
theorem CodeG.asc {qs : List (Str × Str)} (G : CodeG qs) : ∃ l, Asc l (codeOf qs) := by
  have G2 := G.of
  have up : ((codeOf qs).map (·.1)).Pairwise fun a b => a.cps.toList < b.cps.toList := by
    rw [codeOf_keys]
    exact strict_pw (srt_sorted _) (nodup_srt _)
  have key : ∀ q ∈ codeOf qs, sgB q.1 = true := fun q hq => by
    obtain ⟨c, hc, e⟩ := G2.key q hq
    rw [e]
    exact one_sgB hc
  have wd : ∀ q ∈ codeOf qs, isWordB q.2 sSIGNS 3 = true := fun q hq => word_over (G2.over q hq) (G2.len q hq).1 (by have := (G2.len q hq).2; omega)
  have pf : ((codeOf qs).map (·.2)).Pairwise fun a b => alikeB b a = false := List.pairwise_iff_getElem.mpr fun i j hi hj ij => by
    rw [List.length_map] at hi hj
    rw [List.getElem_map, List.getElem_map]
    have ne : ((codeOf qs)[i]).1 ≠ ((codeOf qs)[j]).1 := by
      have := List.pairwise_iff_getElem.mp G2.nd i j (by rw [List.length_map]; exact hi) (by rw [List.length_map]; exact hj) ij
      rw [List.getElem_map, List.getElem_map] at this
      exact this
    cases z : alikeB ((codeOf qs)[j]).2 ((codeOf qs)[i]).2 with
    | false => rfl
    | true =>
      rcases alike_iff.mp z with p | p
      · exact absurd p (G2.pf _ (List.getElem_mem hi) _ (List.getElem_mem hj) ne)
      · exact absurd p (G2.pf _ (List.getElem_mem hj) _ (List.getElem_mem hi) ne.symm)
  have z := moreC_flat (b := codeOf qs) (a := []) (j := 1) Asc.nil (by simpa using up) key wd (by simpa using pf) (.inl ⟨rfl, rfl⟩)
  exact (moreC_ok Asc.nil z).1
theorem code_reads {qs : List (Str × Str)} (G : CodeG qs) : readM (("code" : Str) :: flat (codeOf qs)) = .ok (.code (codeOf qs)) := by
  obtain ⟨l, A⟩ := G.asc
  have z := moreC_flat (b := codeOf qs) (a := []) (j := 1) Asc.nil (by simpa using A.up) A.key A.word (by simpa using A.pf) (.inl ⟨rfl, rfl⟩)
  unfold readM
  rw [if_pos (show wordAt (("code" : Str) :: flat (codeOf qs)) 0 = .str "code" from rfl)]
  have d : (("code" : Str) :: flat (codeOf qs)).drop 1 = flat (codeOf qs) := rfl
  rw [d, z]
  dsimp only [List.nil_append]
  rw [if_neg G.of.ne, if_neg]
  rw [List.length_cons, flat_len]
  omega
theorem put_reads {s : Str} (h : sgB s = true) : readM [("put" : Str), s] = .ok (.put s) := by
  unfold readM
  rw [if_neg (show ¬ wordAt [("put" : Str), s] 0 = .str "code" from fun z => absurd (V.str.inj z) (by decide +kernel)), if_pos (show wordAt [("put" : Str), s] 0 = .str "put" from rfl)]
  show (if sgB s = true then (if 2 < ([("put" : Str), s] : List Str).length then Except.error 2 else Except.ok (MoveR.put s)) else Except.error 1) = _
  rw [if_pos h, if_neg (show ¬ 2 < ([("put" : Str), s] : List Str).length from fun z => absurd (show (2 : Nat) < 2 from z) (by decide))]
/-! ### texts -/
/-- a sign and its word -/
def prT (q : Str × Str) : Str := q.1 ++ " " ++ q.2
def codeT (qs : List (Str × Str)) : Str := Txt.join " " (("code" : Str) :: flat qs)
theorem jn_pairs (c : Nat) (b : List Nat) : ∀ qs : List (List Nat × List Nat), SJ.jn c (b :: qs.map fun q => q.1 ++ c :: q.2) = SJ.jn c (b :: qs.flatMap fun q => [q.1, q.2]) := fun qs => by
  show b ++ _ = b ++ _
  congr 1
  induction qs with
  | nil => rfl
  | cons q r ih =>
    rw [List.map_cons, List.flatMap_cons, List.flatMap_cons, List.flatMap_append, ih]
    simp
/-- the parts joined by themselves -/
theorem join_pairs (qs : List (Str × Str)) : Txt.join " " (("code" : Str) :: qs.map prT) = codeT qs := by
  refine str_eq ?_
  unfold codeT
  have c1 := SJ.tjoin_cps 32 (("code" : Str) :: qs.map prT)
  have c2 := SJ.tjoin_cps 32 (("code" : Str) :: flat qs)
  show (Txt.join ⟨#[32]⟩ _).cps.toList = (Txt.join ⟨#[32]⟩ _).cps.toList
  rw [c1, c2]
  have z := jn_pairs 32 ("code" : Str).cps.toList (qs.map fun q => (q.1.cps.toList, q.2.cps.toList))
  unfold SJ.lists flat
  rw [List.map_cons, List.map_cons, List.map_map, List.map_flatMap]
  rw [List.map_map, List.flatMap_map] at z
  have e1 : qs.map ((fun w : Str => w.cps.toList) ∘ prT) = qs.map ((fun q : List Nat × List Nat => q.1 ++ 32 :: q.2) ∘ fun q : Str × Str => (q.1.cps.toList, q.2.cps.toList)) := List.map_congr_left fun q _ => by
    show (q.1 ++ " " ++ q.2).cps.toList = q.1.cps.toList ++ 32 :: q.2.cps.toList
    rw [cat_cps, cat_cps, List.append_assoc]
    rfl
  rw [e1, z]
  rfl
/-- the head by itself -/
theorem join_head (a : Str) (b : Str) (r : List Str) : a ++ " " ++ Txt.join " " (b :: r) = Txt.join " " (a :: b :: r) := by
  refine str_eq ?_
  have c1 := SJ.tjoin_cps 32 (b :: r)
  have c2 := SJ.tjoin_cps 32 (a :: b :: r)
  show (a ++ " " ++ Txt.join ⟨#[32]⟩ (b :: r)).cps.toList = (Txt.join ⟨#[32]⟩ (a :: b :: r)).cps.toList
  rw [cat_cps, cat_cps, c1, c2]
  unfold SJ.lists
  rw [List.map_cons, List.map_cons, List.map_cons, SJ.jn_two, List.append_assoc]
  rfl
theorem code_split {qs : List (Str × Str)} (G : CodeG qs) : Txt.split (codeT qs) " " = ("code" : Str) :: flat qs := by
  refine SJ.split_join (c := 32) (by simp) fun w hw => ?_
  rcases List.mem_cons.mp hw with rfl | hw
  · decide +kernel
  · unfold flat at hw
    obtain ⟨q, hq, hw⟩ := List.mem_flatMap.mp hw
    have no : ∀ {t : Str}, Over sSIGNS t → 32 ∉ t.cps.toList := fun o z => absurd (o 32 z) (by decide +kernel)
    rcases List.mem_cons.mp hw with rfl | hw
    · obtain ⟨c, hc, e⟩ := G.key q hq
      rw [e]
      refine no fun d hd => ?_
      rw [show d = c by simpa using hd]
      exact hc
    · rw [List.mem_singleton.mp hw]
      exact no (G.over q hq)
theorem put_split {s : Str} (h : sgB s = true) : Txt.split ("put " ++ s) " " = [("put" : Str), s] := by
  obtain ⟨c, hc, e⟩ := sgB_one h
  have : ("put " ++ s : Str) = Txt.join " " [("put" : Str), s] := by
    refine str_eq ?_
    have c2 := SJ.tjoin_cps 32 [("put" : Str), s]
    show ("put " ++ s : Str).cps.toList = (Txt.join ⟨#[32]⟩ [("put" : Str), s]).cps.toList
    rw [cat_cps, c2]
    unfold SJ.lists
    rw [List.map_cons, List.map_cons, List.map_nil, SJ.jn_two, SJ.jn_one]
    rfl
  rw [this]
  refine SJ.split_join (c := 32) (by simp) fun w hw => ?_
  rcases List.mem_cons.mp hw with rfl | hw
  · decide +kernel
  · rw [List.mem_singleton.mp hw, e]
    show 32 ∉ [c]
    exact fun z => absurd ((List.mem_singleton.mp z) ▸ hc) (by decide +kernel)
end K02

set_option Elab.async false
set_option linter.all false
set_option maxRecDepth 100000
set_option maxHeartbeats 4000000
/-! moves.py: take_code -/
namespace K02
open PySem PySem.Spec PyProof.Rows L2 Evl KU
def Raise2B (a C : Addr) (f g : Str) (v w : V) (H : Hp) (E : XK) : Prop := ∀ d H', ExB a H H' → H' d = some (.xd [(g, w), (f, v)]) → E (.ref C) (some d) H'
theorem evp_code {σ : L2.St} {H : Hp} {te : TE} {C : Addr} {E : XK} {qs : List (Str × Str)} (G : CodeG qs) (h : EvP te σ H (IsW qs)) : EvP (tMake C (spCInit C) [] E (tCons te tNil)) σ H (IsC C (codeOf qs)) :=
  evp_makeP (up_isW _) h fun v x dx2 H3 hv hx Q2 q2 => by
    obtain ⟨r, ev, hr'⟩ := hv
    subst ev
    exact ⟨x, r, dx2, _, rfl, hx, hr', G.good, fun H4 b4 A4 => q2 H4 b4 ⟨x, rfl, A4⟩⟩
/-- whether the next word is a sign behind the last one -/
def goB (ws : List Str) (j : Nat) (last : Str) : Bool := match wordAt ws j with
  | .str s => sgB s && ltS last s
  | _ => false
theorem word_at {ws : List Str} {j : Nat} (lt : j < ws.length) : wordAt ws j = .str ws[j] := by
  unfold wordAt
  rw [List.getElem?_eq_getElem lt]
theorem word_none {ws : List Str} {j : Nat} (ge : ws.length ≤ j) : wordAt ws j = .non := by
  unfold wordAt
  rw [List.getElem?_eq_none ge]
theorem stands_non (qs : List (Str × Str)) : standsW .non sSIGNS qs = false := rfl
theorem more_stop {ws : List Str} {j : Nat} {last : Str} {qs : List (Str × Str)} (h : goB ws j last = false) : moreC (ws.drop j) j last qs = .ok (qs, j) := by
  rcases Nat.lt_or_ge j ws.length with lt | ge
  · unfold goB at h
    rw [word_at lt] at h
    have h : (sgB ws[j] && ltS last ws[j]) = false := h
    rw [List.drop_eq_getElem_cons lt]
    cases ws.drop (j + 1) with
    | nil => unfold moreC; rw [h]; rfl
    | cons a r => unfold moreC; rw [h]; rfl
  · rw [List.drop_eq_nil_of_le ge]
    unfold moreC
    rfl
theorem go_parts {ws : List Str} {j : Nat} {last : Str} (h : goB ws j last = true) : ∃ lt : j < ws.length, (sgB ws[j] && ltS last ws[j]) = true := by
  rcases Nat.lt_or_ge j ws.length with lt | ge
  · unfold goB at h
    rw [word_at lt] at h
    exact ⟨lt, h⟩
  · unfold goB at h
    rw [word_none ge] at h
    cases h
theorem more_bad {ws : List Str} {j : Nat} {last : Str} {qs : List (Str × Str)} (h : goB ws j last = true) (st : standsW (wordAt ws (j + 1)) sSIGNS qs = false) : moreC (ws.drop j) j last qs = .error (j + 1) := by
  obtain ⟨lt, c⟩ := go_parts h
  rw [List.drop_eq_getElem_cons lt]
  rcases Nat.lt_or_ge (j + 1) ws.length with lt2 | ge
  · rw [word_at lt2] at st
    rw [List.drop_eq_getElem_cons lt2]
    unfold moreC
    rw [if_pos c, st]
    rfl
  · rw [List.drop_eq_nil_of_le ge]
    unfold moreC
    rw [if_pos c]
theorem stands_lt {ws : List Str} {j : Nat} {qs : List (Str × Str)} (st : standsW (wordAt ws j) sSIGNS qs = true) : j < ws.length := by
  rcases Nat.lt_or_ge j ws.length with lt | ge
  · exact lt
  · rw [word_none ge] at st
    cases st
theorem more_go {ws : List Str} {j : Nat} {last : Str} {qs : List (Str × Str)} (h : goB ws j last = true) (st : standsW (wordAt ws (j + 1)) sSIGNS qs = true) : ∃ (lt : j < ws.length) (lt2 : j + 1 < ws.length), moreC (ws.drop j) j last qs = moreC (ws.drop (j + 2)) (j + 2) ws[j] (qs ++ [(ws[j], ws[j + 1])]) := by
  obtain ⟨lt, c⟩ := go_parts h
  have lt2 := stands_lt st
  refine ⟨lt, lt2, ?_⟩
  rw [word_at lt2] at st
  rw [List.drop_eq_getElem_cons lt, List.drop_eq_getElem_cons lt2]
  rw [moreC, if_pos c, if_pos st]
theorem sg_lt {s : Str} (h : sgB s = true) : ltS "" s = true := by
  obtain ⟨c, _, e⟩ := sgB_one h
  rw [e]
  exact decide_eq_true (show ([] : List Nat) < [c] from List.nil_lt_cons _ _)
theorem sg_go {ws : List Str} {j : Nat} (h : isSgnV (wordAt ws j) sSIGNS = true) : goB ws j "" = true := by
  rcases word_val ws j with ⟨t, _, e⟩ | e
  · unfold goB
    rw [e] at h ⊢
    show (sgB t && ltS "" t) = true
    rw [show sgB t = true from h, sg_lt h]
    rfl
  · rw [e] at h
    cases h
theorem sg_stop {ws : List Str} {j : Nat} {last : Str} (h : isSgnV (wordAt ws j) sSIGNS = false) : goB ws j last = false := by
  unfold goB
  rcases word_val ws j with ⟨t, _, e⟩ | e
  · rw [e] at h ⊢
    show (sgB t && ltS last t) = false
    rw [show sgB t = false from h]
    rfl
  · rw [e]
theorem q_dnew {tz : TS} {D : L2.Ends} {σ : L2.St} {H : Hp} {i : Nat} (k : ∀ p, H p = none → tz D (σ.set i (some (.ref p))) (upd H p (.dK []))) : tSeq (tAsg tDNewK (gName i)) tz D σ H := fun p hp => k p hp
abbrev sTc : Stmt := topR 19
abbrev nTc : List Str := ["cursor", "sign", "words"]
theorem scTc : FnScope nTc ["cursor"] (defScope sTc) := ⟨rfl, rfl, rfl, by decide +kernel, rfl, by decide +kernel, by decide +kernel⟩
def spTc (D CT C : Addr) : Sp := fun vs H Q E => ∃ (c : Addr) (ws : List Str), vs = [.ref c] ∧ CurAt D H c ws 0 ∧ (∀ t ∈ ws, t.length ≤ 1000) ∧ wordAt ws 0 = .str "code" ∧
  (isSgnV (wordAt ws 1) sSIGNS = false → Raise2B c CT "line" "word" (.int 0) (.int ((1 : Nat) : Int)) H E) ∧
  (∀ n : Nat, moreC (ws.drop 1) 1 "" [] = .error n → Raise2B c CT "line" "word" (.int 0) (.int (n : Int)) H E) ∧
  (∀ qs j, moreC (ws.drop 1) 1 "" [] = .ok (qs, j) → qs ≠ [] → ∀ H' a, ExB c H H' → CurAt D H' c ws j → CodeAt C H' a qs → Q (.ref a) H')
section
variable {P : Program} {w : World} {K : PySem.W.Frag} {mg : Str → Option Value} {base : Heap} {D CT C : Addr}
abbrev rGtS : R2 := fun x y H Q => ∃ i j : Str, x = .str i ∧ y = .str j ∧ Q (.bl (decide (j.cps.toList < i.cps.toList))) H
theorem ok_tc {f fX fT fP fS fW fI : Addr} {fd fdX fdT fdP fdS fdW fdI : FuncData} (F : Fun K "take_code" "take_code" sTc f fd) (CC : ClsC K mg D) (CK : ClsCd K mg C) (gSG : ∃ t, mg "SIGNS" = some (.str "0123456789abcdefghijklmnopqrstuvwxyz" t))
    (GX : FnOk P w K mg base (L2.CX P w) 4 fX fdX ["self", "word"] (spExpect D CT)) (bX : Binds K fdX ["self", "word"] []) (mX : Meth K D "expect" fX)
    (GT : FnOk P w K mg base (L2.CX P w) 3 fT fdT ["self", "stands"] (spTake D CT)) (bT : Binds K fdT ["self", "stands"] []) (mT : Meth K D "take" fT) (GP : FnOk P w K mg base CX0 1 fP fdP ["self"] (spPeek D)) (bP : Binds K fdP ["self"] []) (mP : Meth K D "peek" fP)
    (GS : FnOk P w K mg base CX0 1 fS fdS ["value", "signs"] (spIsSgn K)) (bS : Binds K fdS ["value", "signs"] []) (gS : mg "is_sign" = some (.ref fS)) (kS : PySem.W.keepIn K (.ref fS) = true)
    (GW : FnOk P w K mg base (L2.CX P w) 5 fW fdW ["cursor", "words", "signs"] (spTcw D CT)) (bW : Binds K fdW ["cursor", "words", "signs"] []) (gW : mg "take_code_word" = some (.ref fW)) (kW : PySem.W.keepIn K (.ref fW) = true)
    (M : Mk K C fI) (FI : FnOk P w K mg base CX0 4 fI fdI ["self", "words"] (spCInit C)) (bI : Binds K fdI ["self", "words"] []) : FnOk P w K mg base (L2.CX P w) 6 f fd ["cursor"] (spTc D CT C) := by
  obtain ⟨tg, gSG⟩ := gSG
  refine F.okX scTc (fun vs H Q E h => ?_) (fun cdv A outer s H vs Q E hr h => ?_)
  · obtain ⟨_, _, rfl, _⟩ := h
    rfl
  · obtain ⟨c, ws, rfl, hc, small, h0, k1, kn, ko⟩ := h
    have nd := scTc.nd
    refine ⟨_, pss_cons (ps_expr (pe_meth (CX := L2.CX P w) (E := E) (pv 0) CC.toCls mX GX (hr.mono (by decide)) bX .nil (passes_call (takes_of rfl rfl rfl rfl) fun _ _ _ _ h => h) (pa_cons pe_str pa_nil)))
      (pss_cons (ps_set (i := 1) nd rfl (.inl rfl) (pe_meth (CX := L2.CX P w) (E := E) (pv 0) CC.toCls mT GT (hr.mono (by decide)) bT .nil (passes_call (takes_of rfl rfl rfl rfl) fun _ _ _ _ h => h) (pa_cons (pe_call GS (hr.mono (by decide)) (by rfl) gS kS bS .nil pass0 (pa_cons (pe_meth0 (pv 0) CC.toCls mP GP (hr.mono (by decide)) bP .nil pass0) (pa_cons (pe_glob (v := .str sSIGNS) rfl gSG ⟨_, rfl⟩) pa_nil))) pa_nil)))
      (pss_cons (ps_set (i := 2) nd rfl (.inl rfl) pe_dnewK)
      (pss_cons (ps_dput (hu_of hr) (pv 2) (pv 1) (pe_call (CX := L2.CX P w) (E := E) GW hr (by rfl) gW kW bW .nil (passes_call (takes_of rfl rfl rfl rfl) fun _ _ _ _ h => h) (pa_cons (pv 0) (pa_cons (pv 2) (pa_cons (pe_glob (v := .str sSIGNS) rfl gSG ⟨_, rfl⟩) pa_nil)))) rfl)
      (pss_cons (ps_while (passes_of rfl) (PW.pt (pw_and (pt_val (pe_call GS (hr.mono (by decide)) (by rfl) gS kS bS .nil pass0 (pa_cons (pe_meth0 (pv 0) CC.toCls mP GP (hr.mono (by decide)) bP .nil pass0) (pa_cons (pe_glob (v := .str sSIGNS) rfl gSG ⟨_, rfl⟩) pa_nil)))) (pw_and1 (pt_cmpR (r := rGtS) (by exact op_gt_str) (pe_meth0 (pv 0) CC.toCls mP GP (hr.mono (by decide)) bP .nil pass0) (pv 1) (nomark _)))))
        (pss_cons (ps_set (i := 1) nd rfl (.inl rfl) (pe_meth (CX := L2.CX P w) (E := E) (pv 0) CC.toCls mT GT (hr.mono (by decide)) bT .nil (passes_call (takes_of rfl rfl rfl rfl) fun _ _ _ _ h => h) (pa_cons pe_bl pa_nil)))
        (pss_one (ps_dput (hu_of hr) (pv 2) (pv 1) (pe_call (CX := L2.CX P w) (E := E) GW hr (by rfl) gW kW bW .nil (passes_call (takes_of rfl rfl rfl rfl) fun _ _ _ _ h => h) (pa_cons (pv 0) (pa_cons (pv 2) (pa_cons (pe_glob (v := .str sSIGNS) rfl gSG ⟨_, rfl⟩) pa_nil)))) rfl))))
      (pss_one (ps_ret (pe_make M FI (hr.mono (by decide)) (by rfl) CK.gC bI .nil pass0 (pa_cons (pv 2) pa_nil)))))))), ?_⟩
    have peek : ∀ {σ : L2.St} {G : Hp} {j : Nat}, σ[0]? = some (some (.ref c)) → CurAt D G c ws j → Ev (tMeth D "peek" (spPeek D) [] E0 (tVar 0) tNil) σ G (wordAt ws j) := fun {σ G j} es h H1 x1 Q1 q1 => by
      obtain ⟨dx, fs, h1, _, l2, _⟩ := h.len
      exact ⟨_, es, c, dx, fs, rfl, x1 _ _ h1, l2, c, ws, j, rfl, h.mono x1, q1⟩
    have svW : ∀ (j : Nat) (G : Hp), SV K G (wordAt ws j) := fun j G => by
      rcases word_val ws j with ⟨t, mt, e⟩ | e
      · rw [e]
        exact .str t (small t mt)
      · rw [e]
        exact sv_bty .non (by decide)
    have isSg : ∀ {σ : L2.St} {G : Hp} {j : Nat}, σ[0]? = some (some (.ref c)) → CurAt D G c ws j → Ev (tCall (spIsSgn K) [] E0 (tCons (tMeth D "peek" (spPeek D) [] E0 (tVar 0) tNil) (tCons (tC (.str sSIGNS)) tNil))) σ G (.bl (isSgnV (wordAt ws j) sSIGNS)) := fun {σ G j} es h =>
      ev_call (ea_cons (peek es h) (ea_cons ev_c ea_nil)) fun H1 x1 Q1 q1 E1 => ⟨wordAt ws j, sSIGNS, rfl, svW j H1, q1⟩
    obtain ⟨dx0, fs0, g0, _, _, l3, _⟩ := hc.len
    refine ⟨_, rfl, c, dx0, fs0, rfl, g0, l3, c, ws, 0, "code", rfl, hc, .inl ⟨h0, fun H1 b1 hc1 => ?_⟩⟩
    -- the first sign
    obtain ⟨dx1, fs1, g1, m1, _⟩ := hc1.len
    refine ⟨_, rfl, c, dx1, fs1, rfl, g1, m1, ?_⟩
    refine (?_ : tCons _ _ _ H1 _)
    refine (isSg (j := 1) rfl hc1) H1 (Ex.refl _) _ fun H2 x2 => ?_
    refine ⟨c, ws, 1, _, rfl, hc1.mono x2, ?_⟩
    cases hs : isSgnV (wordAt ws 1) sSIGNS with
    | false => exact .inr ⟨rfl, fun d H' x' e' => k1 hs d H' (fun b o nb hb => x' _ _ (x2 _ _ (b1 b o nb hb))) e'⟩
    | true =>
    have go1 := sg_go hs
    obtain ⟨lt1, _⟩ := go_parts go1
    refine .inl ⟨rfl, lt1, fun H3 b3 hc3 => ?_⟩
    have bb3 : ExB c H H3 := fun b o nb hb => b3 b o nb (x2 _ _ (b1 b o nb hb))
    rw [word_at lt1] at hs ⊢
    -- the dict
    refine (?_ : tSeq (tAsg tDNewK (gName 2)) _ _ [some (.ref c), some (.str ws[1]), none] H3)
    refine q_dnew fun p hp => ?_
    dsimp only [List.set_cons_succ, List.set_cons_zero]
    have x4 : Ex H3 (upd H3 p (.dK [])) := Ex.new hp
    have e4 : upd H3 p (.dK []) p = some (.dK (kvG (kvS []))) := upd_same
    have pc : p ≠ c := by
      obtain ⟨_, _, g, _⟩ := hc3.len
      exact (ne_of_none g hp).symm
    have pn : ∀ b o, b ≠ c → H b = some o → b ≠ p := fun b o nb hb => ne_of_none (bb3 b o nb hb) hp
    have hc4 := hc3.mono x4
    have bb4 : ExB c H (upd H3 p (.dK [])) := fun b o nb hb => x4 _ _ (bb3 b o nb hb)
    generalize upd H3 p (.dK []) = H4 at x4 e4 hc4 bb4 ⊢
    -- the first word
    refine (?_ : tCall (spTcw D CT) _ _ _ _ H4 _)
    refine ⟨_, rfl, _, rfl, c, p, ws, 2, sSIGNS, [], rfl, hc4, small, e4, Nat.zero_le _, ?_⟩
    cases st : standsW (wordAt ws 2) sSIGNS [] with
    | false => exact .inr ⟨rfl, fun d H' x' e' => kn 2 (more_bad go1 st) d H' (fun b o nb hb => x' _ _ (bb4 b o nb hb)) e'⟩
    | true =>
    have lt2 := stands_lt st
    refine .inl ⟨rfl, lt2, fun H5 b5 hc5 => ?_⟩
    have e5 := b5 _ _ pc e4
    refine ⟨_, rfl, _, rfl, p, _, rfl, DPut.k (k := Sum.inr ws[1]) e5 (by rw [kvS_len, sizeLine_eq, List.length_nil]; decide), ?_⟩
    have nin0 : ws[1] ∉ ([] : List (Str × Str)).map (·.1) := List.not_mem_nil
    rw [word_at lt2, put_newS nin0]
    obtain ⟨_, _, ego⟩ := more_go go1 st
    have A1 : Asc ws[1] ([] ++ [(ws[1], ws[2])]) := by
      rw [word_at lt2] at st
      exact Asc.nil.snoc hs (sg_lt hs) st
    have hc6 : ∀ {G : Hp} {o : HO} {j : Nat}, CurAt D G c ws j → (∃ kvs, G p = some (.dK kvs)) → CurAt D (upd G p o) c ws j := fun {G o j} h ⟨kvs, hp⟩ => by
      obtain ⟨dx, L, i1, i2, i3⟩ := h
      have nL : L ≠ p := fun z => by
        rw [z, hp] at i2
        cases i2
      exact ⟨dx, L, by rw [upd_ne pc.symm]; exact i1, by rw [upd_ne nL]; exact i2, i3⟩
    refine q_while (fun m σ' H' => ∃ (last : Str) (qs : List (Str × Str)) (j : Nat), σ' = [some (.ref c), some (.str last), some (.ref p)] ∧ m = ws.length - j ∧ qs ≠ [] ∧ Asc last qs ∧ CurAt D H' c ws j ∧ H' p = some (.dK (kvG (kvS qs))) ∧ ExB c H H' ∧ moreC (ws.drop j) j last qs = moreC (ws.drop 1) 1 "" [])
      (ws.length - 3) ⟨_, _, 3, rfl, rfl, by simp, A1, hc6 hc5 ⟨_, e5⟩, upd_same, fun b o nb hb => by rw [upd_ne (pn b o nb hb)]; exact b5 b o nb (bb4 b o nb hb), ego.symm⟩ fun m σ' H' hW => ?_
    obtain ⟨last, qs, j, rfl, rfl, ne, A, hcj, ep, bj, ej⟩ := hW
    have few := A.few
    refine ⟨goB ws j last, ?_, fun y H6 x6 => ⟨_, fun σ2 H2 h => h, ?_⟩, fun y H6 x6 => ?_⟩
    · have z := et_and (b := goB ws j last) (et_B (isSg (σ := [some (.ref c), some (.str last), some (.ref p)]) rfl hcj)) (fun hs => et_test (ev_op (r := rGtS) (peek rfl hcj) (ev_var (i := 1) rfl) fun H1 x1 Q q => by
        obtain ⟨t, mt, e⟩ : ∃ t ∈ ws, wordAt ws j = .str t := by
          rcases word_val ws j with h | e
          · exact h
          · rw [e] at hs
            cases hs
        refine ⟨t, last, e, rfl, ?_⟩
        have eg : goB ws j last = decide (last.cps.toList < t.cps.toList) := by
          unfold goB
          rw [e] at hs ⊢
          show (sgB t && ltS last t) = _
          rw [show sgB t = true from hs]
          rfl
        rw [← eg]
        exact q H1 (Ex.refl _)))
      refine et_is z ?_
      cases hs : isSgnV (wordAt ws j) sSIGNS with
      | false => rw [sg_stop hs]; rfl
      | true => rfl
    · obtain ⟨lt, cc⟩ := go_parts y
      rw [Bool.and_eq_true] at cc
      have hc6' := hcj.mono x6
      have ep6 := x6 _ _ ep
      obtain ⟨dx, fs, i1, i2, _⟩ := hc6'.len
      refine ⟨_, rfl, c, dx, fs, rfl, i1, i2, c, ws, j, true, rfl, hc6', .inl ⟨rfl, lt, fun H7 b7 hc7 => ?_⟩⟩
      have ep7 := b7 _ _ pc ep6
      rw [word_at lt]
      dsimp only [gName, List.set_cons_succ, List.set_cons_zero]
      refine ⟨_, rfl, _, rfl, c, p, ws, j + 1, sSIGNS, qs, rfl, hc7, small, ep7, by omega, ?_⟩
      have bb7 : ExB c H H7 := fun b o nb hb => b7 b o nb (x6 _ _ (bj b o nb hb))
      cases st : standsW (wordAt ws (j + 1)) sSIGNS qs with
      | false => exact .inr ⟨rfl, fun d H' x' e' => kn (j + 1) (by rw [← ej]; exact more_bad y st) d H' (fun b o nb hb => x' _ _ (bb7 b o nb hb)) e'⟩
      | true =>
      obtain ⟨_, lt2, ego⟩ := more_go y st
      refine .inl ⟨rfl, lt2, fun H8 b8 hc8 => ?_⟩
      have ep8 := b8 _ _ pc ep7
      refine ⟨_, rfl, _, rfl, p, _, rfl, DPut.k (k := Sum.inr ws[j]) ep8 (by rw [kvS_len, sizeLine_eq]; omega), ?_⟩
      rw [word_at lt2] at st ⊢
      rw [put_newS (A.new cc.2)]
      exact ⟨ws.length - (j + 2), by omega, _, _, j + 2, rfl, rfl, by simp, A.snoc cc.1 cc.2 st, hc6 hc8 ⟨_, ep8⟩, upd_same, fun b o nb hb => by rw [upd_ne (pn b o nb hb)]; exact b8 b o nb (bb7 b o nb hb), by rw [← ego]; exact ej⟩
    · have st := more_stop (qs := qs) y
      rw [ej] at st
      refine (?_ : tMake _ _ _ _ _ _ H6 _)
      refine (evp_code (A.code ne) (fun G1 y1 Q1 q1 => ⟨_, rfl, q1 _ G1 (Ex.refl _) ⟨p, rfl, y1 _ _ (x6 _ _ ep)⟩⟩)) H6 (Ex.refl _) _ fun v H7 x7 ⟨a, ea, B⟩ => ?_
      subst ea
      rw [A.same] at B
      exact ko qs j st ne H7 a (fun b o nb hb => x7 _ _ (x6 _ _ (bj b o nb hb))) ((hcj.mono x6).mono x7) B
end
end K02

set_option Elab.async false
set_option linter.all false
set_option maxRecDepth 100000
set_option maxHeartbeats 4000000
/-! moves.py: take_move, Move.read -/
namespace K02
open PySem PySem.Spec PyProof.Rows L2 Evl KU
/-- what take_move tells: the move, and where it ends -/
def tmM (ws : List Str) : Except Nat (MoveR × Nat) :=
  if wordAt ws 0 = .str "code" then
    match moreC (ws.drop 1) 1 "" [] with
    | .error n => .error n
    | .ok (qs, j) => if qs = [] then .error 1 else .ok (.code qs, j)
  else if wordAt ws 0 = .str "put" then
    match wordAt ws 1 with
    | .str s => if sgB s then .ok (.put s, 2) else .error 1
    | _ => .error 1
  else .error 0
theorem read_err {ws : List Str} {n : Nat} (h : tmM ws = .error n) : readM ws = .error n := by
  unfold tmM at h
  unfold readM
  split at h
  · rename_i h0
    rw [if_pos h0]
    cases e : moreC (ws.drop 1) 1 "" [] with
    | error m => rw [e] at h; exact (by cases h; rfl)
    | ok p =>
      obtain ⟨qs, j⟩ := p
      rw [e] at h
      dsimp only at h ⊢
      split at h
      · rename_i z
        cases h
        rw [if_pos z]
      · cases h
  · rename_i h0
    rw [if_neg h0]
    split at h
    · rename_i h1
      rw [if_pos h1]
      split at h
      · rename_i s e
        try rw [e]
        try dsimp only
        split at h
        · cases h
        · rename_i z
          cases h
          rw [if_neg z]
      · rename_i ne
        rcases word_val ws 1 with ⟨t, _, e⟩ | e
        · exact absurd e (ne t)
        · try rw [e]
          cases h
          rfl
    · rename_i h1
      cases h
      rw [if_neg h1]
theorem read_ok {ws : List Str} {m : MoveR} {j : Nat} (h : tmM ws = .ok (m, j)) : readM ws = if j < ws.length then .error j else .ok m := by
  unfold tmM at h
  unfold readM
  split at h
  · rename_i h0
    rw [if_pos h0]
    cases e : moreC (ws.drop 1) 1 "" [] with
    | error m => rw [e] at h; cases h
    | ok p =>
      obtain ⟨qs, j⟩ := p
      rw [e] at h
      dsimp only at h ⊢
      split at h
      · cases h
      · rename_i z
        cases h
        rw [if_neg z]
  · rename_i h0
    rw [if_neg h0]
    split at h
    · rename_i h1
      rw [if_pos h1]
      split at h
      · rename_i s e
        try rw [e]
        try dsimp only
        split at h
        · rename_i z
          cases h
          rw [if_pos z]
        · cases h
      · cases h
    · cases h
def MoveAt (C CP : Addr) (H : Hp) (a : Addr) : MoveR → Prop
  | .put s => PutAt CP H a s
  | .code qs => CodeAt C H a qs
theorem MoveAt.mono {C CP : Addr} {H H' : Hp} {a : Addr} {m : MoveR} (x : Ex H H') (h : MoveAt C CP H a m) : MoveAt C CP H' a m := by
  cases m with
  | put s =>
    obtain ⟨dx, h⟩ := h
    exact ⟨dx, x _ _ h⟩
  | code qs => exact CodeAt.mono x h
abbrev sTm : Stmt := topR 20
abbrev sMv : Stmt := topR 21
abbrev moveM (i : Nat) : Stmt := inClass sMv i
theorem scTm : FnScope ["cursor"] ["cursor"] (defScope sTm) := ⟨rfl, rfl, rfl, by decide +kernel, rfl, by decide +kernel, by decide +kernel⟩
def spTm (D CT C CP : Addr) : Sp := fun vs H Q E => ∃ (c : Addr) (ws : List Str), vs = [.ref c] ∧ CurAt D H c ws 0 ∧ (∀ t ∈ ws, t.length ≤ 1000) ∧
  (∀ n : Nat, tmM ws = .error n → Raise2B c CT "line" "word" (.int 0) (.int (n : Int)) H E) ∧ (∀ m j, tmM ws = .ok (m, j) → ∀ H' a, ExB c H H' → CurAt D H' c ws j → MoveAt C CP H' a m → Q (.ref a) H')
def spMRead (CM CT C CP : Addr) : Sp := fun vs H Q E => ∃ t : Str, vs = [.ref CM, .str t] ∧ t.length ≤ 1000 ∧ (∀ w ∈ Txt.split t " ", w.length ≤ 1000) ∧
  (∀ n : Nat, readM (Txt.split t " ") = .error n → Raise2V CT "line" "word" (.int 0) (.int (n : Int)) H E) ∧ (∀ m, readM (Txt.split t " ") = .ok m → ∀ H' a, Ex H H' → MoveAt C CP H' a m → Q (.ref a) H')
abbrev nMRead : List Str := ["cls", "text", "cursor", "move"]
theorem scMRead : FnScope nMRead ["cls", "text"] (defScope (moveM 0)) := ⟨rfl, rfl, rfl, by decide +kernel, rfl, by decide +kernel, by decide +kernel⟩
section
variable {P : Program} {w : World} {K : PySem.W.Frag} {mg : Str → Option Value} {base : Heap} {D CT C CP CM : Addr}
theorem ok_tm {f fX fT fP fS fC fI : Addr} {fd fdX fdT fdP fdS fdC fdI : FuncData} (F : Fun K "take_move" "take_move" sTm f fd) (CC : ClsC K mg D) (CU : ClsPu K mg CP) (gSG : ∃ t, mg "SIGNS" = some (.str "0123456789abcdefghijklmnopqrstuvwxyz" t))
    (GX : FnOk P w K mg base (L2.CX P w) 4 fX fdX ["self", "word"] (spExpect D CT)) (bX : Binds K fdX ["self", "word"] []) (mX : Meth K D "expect" fX)
    (GT : FnOk P w K mg base (L2.CX P w) 3 fT fdT ["self", "stands"] (spTake D CT)) (bT : Binds K fdT ["self", "stands"] []) (mT : Meth K D "take" fT) (GP : FnOk P w K mg base CX0 1 fP fdP ["self"] (spPeek D)) (bP : Binds K fdP ["self"] []) (mP : Meth K D "peek" fP)
    (GS : FnOk P w K mg base CX0 1 fS fdS ["value", "signs"] (spIsSgn K)) (bS : Binds K fdS ["value", "signs"] []) (gS : mg "is_sign" = some (.ref fS)) (kS : PySem.W.keepIn K (.ref fS) = true)
    (GC : FnOk P w K mg base (L2.CX P w) 6 fC fdC ["cursor"] (spTc D CT C)) (bC : Binds K fdC ["cursor"] []) (gC : mg "take_code" = some (.ref fC)) (kC : PySem.W.keepIn K (.ref fC) = true)
    (M : Mk K CP fI) (FI : FnOk P w K mg base CX0 2 fI fdI ["self", "sign"] (spPInit CP)) (bI : Binds K fdI ["self", "sign"] []) : FnOk P w K mg base (L2.CX P w) 7 f fd ["cursor"] (spTm D CT C CP) := by
  obtain ⟨tg, gSG⟩ := gSG
  refine F.okX scTm (fun vs H Q E h => ?_) (fun cdv A outer s H vs Q E hr h => ?_)
  · obtain ⟨_, _, rfl, _⟩ := h
    rfl
  · obtain ⟨c, ws, rfl, hc, small, kn, ko⟩ := h
    have nd := scTm.nd
    refine ⟨_, pss_cons (ps_if (pt_cmpR op_eq (pe_meth0 (pv 0) CC.toCls mP GP (hr.mono (by decide)) bP .nil pass0) pe_str (nomark _)) (pss_one (ps_ret (pe_call (CX := L2.CX P w) (E := E) GC hr (by rfl) gC kC bC .nil (passes_call (takes_of rfl rfl rfl rfl) fun _ _ _ _ h => h) (pa_cons (pv 0) pa_nil)))) pss_nil)
      (pss_cons (ps_expr (pe_meth (CX := L2.CX P w) (E := E) (pv 0) CC.toCls mX GX (hr.mono (by decide)) bX .nil (passes_call (takes_of rfl rfl rfl rfl) fun _ _ _ _ h => h) (pa_cons pe_str pa_nil)))
      (pss_one (ps_ret (pe_make M FI (hr.mono (by decide)) (by rfl) CU.gP bI .nil pass0 (pa_cons (pe_meth (CX := L2.CX P w) (E := E) (pv 0) CC.toCls mT GT (hr.mono (by decide)) bT .nil (passes_call (takes_of rfl rfl rfl rfl) fun _ _ _ _ h => h) (pa_cons (pe_call GS (hr.mono (by decide)) (by rfl) gS kS bS .nil pass0 (pa_cons (pe_meth0 (pv 0) CC.toCls mP GP (hr.mono (by decide)) bP .nil pass0) (pa_cons (pe_glob (v := .str sSIGNS) rfl gSG ⟨_, rfl⟩) pa_nil))) pa_nil)) pa_nil))))), ?_⟩
    have peek : ∀ {σ : L2.St} {G : Hp} {j : Nat}, σ[0]? = some (some (.ref c)) → CurAt D G c ws j → Ev (tMeth D "peek" (spPeek D) [] E0 (tVar 0) tNil) σ G (wordAt ws j) := fun {σ G j} es h H1 x1 Q1 q1 => by
      obtain ⟨dx, fs, h1, _, l2, _⟩ := h.len
      exact ⟨_, es, c, dx, fs, rfl, x1 _ _ h1, l2, c, ws, j, rfl, h.mono x1, q1⟩
    have svW : ∀ (j : Nat) (G : Hp), SV K G (wordAt ws j) := fun j G => by
      rcases word_val ws j with ⟨t, mt, e⟩ | e
      · rw [e]
        exact .str t (small t mt)
      · rw [e]
        exact sv_bty .non (by decide)
    have isSg : ∀ {σ : L2.St} {G : Hp} {j : Nat}, σ[0]? = some (some (.ref c)) → CurAt D G c ws j → Ev (tCall (spIsSgn K) [] E0 (tCons (tMeth D "peek" (spPeek D) [] E0 (tVar 0) tNil) (tCons (tC (.str sSIGNS)) tNil))) σ G (.bl (isSgnV (wordAt ws j) sSIGNS)) := fun {σ G j} es h =>
      ev_call (ea_cons (peek es h) (ea_cons ev_c ea_nil)) fun H1 x1 Q1 q1 E1 => ⟨wordAt ws j, sSIGNS, rfl, svW j H1, q1⟩
    refine q_when (b := decide (wordAt ws 0 = .str "code")) (et_test (ev_op (peek rfl hc) ev_c (rv_eq (word_scal ws 0 "code")))) (fun z H1 x1 => ?_) fun z H1 x1 => ?_
    · have h0 : wordAt ws 0 = .str "code" := of_decide_eq_true z
      refine (?_ : tCall (spTc D CT C) _ _ _ _ H1 _)
      refine ⟨_, rfl, c, ws, rfl, hc.mono x1, small, h0, fun hs d H' x' e' => ?_, fun n hn d H' x' e' => ?_, fun qs j hj ne H' a b' hc' A' => ?_⟩
      · refine kn 1 ?_ d H' (fun b o nb hb => x' b o nb (x1 _ _ hb)) e'
        unfold tmM
        rw [if_pos h0, more_stop (sg_stop hs)]
        rfl
      · refine kn n ?_ d H' (fun b o nb hb => x' b o nb (x1 _ _ hb)) e'
        unfold tmM
        rw [if_pos h0, hn]
      · refine ko (.code qs) j ?_ H' a (fun b o nb hb => b' b o nb (x1 _ _ hb)) hc' A'
        unfold tmM
        rw [if_pos h0, hj]
        dsimp only
        rw [if_neg ne]
    · have h0 : wordAt ws 0 ≠ .str "code" := of_decide_eq_false z
      have hc1 := hc.mono x1
      obtain ⟨dx, fs, g1, _, _, l3, _⟩ := hc1.len
      refine ⟨_, rfl, c, dx, fs, rfl, g1, l3, c, ws, 0, "put", rfl, hc1, ?_⟩
      by_cases h1 : wordAt ws 0 = .str "put"
      · refine .inl ⟨h1, fun H2 b2 hc2 => ?_⟩
        have bb2 : ExB c H H2 := fun b o nb hb => b2 b o nb (x1 _ _ hb)
        obtain ⟨dx, fs, g2, l1, _⟩ := hc2.len
        dsimp only
        refine (?_ : tMake _ _ _ _ _ _ H2 _)
        refine (?_ : tCons _ _ _ H2 _)
        refine ⟨_, rfl, c, dx, fs, rfl, g2, l1, ?_⟩
        refine (?_ : tCons _ _ _ H2 _)
        refine (isSg (j := 1) rfl hc2) H2 (Ex.refl _) _ fun H3 x3 => ?_
        refine ⟨c, ws, 1, _, rfl, hc2.mono x3, ?_⟩
        cases hs : isSgnV (wordAt ws 1) sSIGNS with
        | false =>
          refine .inr ⟨rfl, fun d H' x' e' => kn 1 ?_ d H' (fun b o nb hb => x' _ _ (x3 _ _ (bb2 b o nb hb))) e'⟩
          unfold tmM
          rw [if_neg h0, if_pos h1]
          rcases word_val ws 1 with ⟨t, _, e⟩ | e
          · rw [e] at hs ⊢
            dsimp only
            rw [if_neg (by rw [show sgB t = false from hs]; decide)]
          · rw [e]
        | true =>
          obtain ⟨t, _, e⟩ : ∃ t ∈ ws, wordAt ws 1 = .str t := by
            rcases word_val ws 1 with h | e
            · exact h
            · rw [e] at hs
              cases hs
          refine .inl ⟨rfl, word_lt e, fun H4 b4 hc4 => ?_⟩
          rw [e] at hs ⊢
          have bb4 : ExB c H H4 := fun b o nb hb => b4 b o nb (x3 _ _ (bb2 b o nb hb))
          refine (fun x dx2 hx hdx ne => ?_)
          have e5 : ∀ b o, H4 b = some o → b ≠ x ∧ b ≠ dx2 := fun b o hb => ⟨ne_of_none hb hx, ne_of_none hb hdx⟩
          have x5 : Ex H4 (upd (upd H4 dx2 (.own x)) x (.ins CP dx2 [])) := fun b o hb => by rw [upd_ne (e5 b o hb).1, upd_ne (e5 b o hb).2]; exact hb
          refine ⟨x, dx2, t, rfl, upd_same, hs, fun H6 b6 A6 => ⟨rfl, ?_⟩⟩
          have x46 : Ex H4 H6 := fun b o hb => b6 b o (e5 b o hb).1 (x5 _ _ hb)
          refine ko (.put t) 2 ?_ H6 x (fun b o nb hb => x46 _ _ (bb4 b o nb hb)) (hc4.mono x46) A6
          unfold tmM
          rw [if_neg h0, if_pos h1, e]
          dsimp only
          rw [if_pos (show sgB t = true from hs)]
      · refine .inr ⟨h1, fun d H' x' e' => kn 0 ?_ d H' (fun b o nb hb => x' _ _ (x1 _ _ hb)) e'⟩
        unfold tmM
        rw [if_neg h0, if_neg h1]
theorem ok_mread {f fB fF fI : Addr} {fd fdB fdF fdI : FuncData} (F : Fun K "read" "Move.read" (moveM 0) f fd) (CC : ClsC K mg D)
    (MD : Mk K D fI) (GI : FnOk P w K mg base CX0 2 fI fdI ["self", "text"] (spCurInit D)) (bI : Binds K fdI ["self", "text"] [])
    (GT : FnOk P w K mg base (L2.CX P w) 7 fB fdB ["cursor"] (spTm D CT C CP)) (bT : Binds K fdB ["cursor"] []) (gT : mg "take_move" = some (.ref fB)) (kT : PySem.W.keepIn K (.ref fB) = true)
    (GF : FnOk P w K mg base (L2.CX P w) 3 fF fdF ["self"] (spFinish D CT)) (bF : Binds K fdF ["self"] []) (mF : Meth K D "finish" fF) : FnOk P w K mg base (L2.CX P w) 8 f fd ["cls", "text"] (spMRead CM CT C CP) := by
  refine F.okX scMRead (fun vs H Q E h => ?_) (fun cdv A outer s H vs Q E hr h => ?_)
  · obtain ⟨_, rfl, _⟩ := h
    rfl
  · obtain ⟨t, rfl, tl, small, kn, ko⟩ := h
    have nd := scMRead.nd
    refine ⟨_, pss_cons (ps_set (i := 2) nd rfl (.inl rfl) (pe_make MD GI (hr.mono (by decide)) (by rfl) CC.gC bI .nil pass0 (pa_cons (pv 1) pa_nil)))
      (pss_cons (ps_set (i := 3) nd rfl (.inl rfl) (pe_call (CX := L2.CX P w) (E := E) GT hr (by rfl) gT kT bT .nil (passes_call (takes_of rfl rfl rfl rfl) fun _ _ _ _ h => h) (pa_cons (pv 2) pa_nil)))
      (pss_cons (ps_expr (pe_meth0 (CX := L2.CX P w) (E := E) (pv 2) CC.toCls mF GF (hr.mono (by decide)) bF .nil (passes_call (takes_of rfl rfl rfl rfl) fun _ _ _ _ h => h)))
      (pss_one (ps_ret (pv 3))))), ?_⟩
    refine ⟨_, rfl, fun c dc hc hdc ne => ⟨c, dc, t, rfl, upd_same, by omega, fun H1 b1 hc1 => ⟨rfl, ?_⟩⟩⟩
    have fr : Ex H H1 := fun b o hb => b1 b o (ne_of_none hb hc) (by rw [upd_ne (ne_of_none hb hc), upd_ne (ne_of_none hb hdc)]; exact hb)
    have up : ∀ {H' : Hp}, ExB c H1 H' → Ex H H' := fun y b o hb => y b o (ne_of_none hb hc) (fr _ _ hb)
    generalize Txt.split t " " = ws at small kn ko hc1 b1
    dsimp only [gName, List.set_cons_succ, List.set_cons_zero]
    refine (?_ : tCall (spTm D CT C CP) _ _ _ _ H1 _)
    refine ⟨_, rfl, c, ws, rfl, hc1, small, fun n hn d H' x' e' => kn n (read_err hn) d H' (up x') e', fun m j hm H2 a b2 hc2 A2 => ?_⟩
    obtain ⟨dx, fs, h1, _, _, _, l4⟩ := hc2.len
    refine ⟨_, rfl, c, dx, fs, rfl, h1, l4, c, ws, j, rfl, hc2, ?_⟩
    have er := read_ok hm
    rcases Nat.lt_or_ge j ws.length with lt | ge
    · rw [if_pos lt] at er
      exact .inr ⟨lt, fun d H' x' e' => kn j er d H' ((up b2).trans x') e'⟩
    · rw [if_neg (by omega)] at er
      exact .inl ⟨ge, fun H3 x3 => ⟨_, rfl, ko m er H3 a ((up b2).trans x3) (A2.mono x3)⟩⟩
/-- no text -/
def spMReadX (K : PySem.W.Frag) (CM CT : Addr) : Sp := fun vs H _ E => ∃ v : V, vs = [.ref CM, v] ∧ (∀ H', Ex H H' → ∃ t, TyX K H' v t ∧ PySem.W.kitOne K t (.type "str") = some false) ∧ Raise2V CT "line" "word" (.int 0) (.int 0) H E
theorem ok_mreadX {f fI : Addr} {fd fdI : FuncData} (F : Fun K "read" "Move.read" (moveM 0) f fd) (CC : ClsC K mg D) (MD : Mk K D fI) (GI : FnOk P w K mg base (L2.CX P w) 3 fI fdI ["self", "text"] (spCurInitX K D CT)) (bI : Binds K fdI ["self", "text"] []) :
    FnOk P w K mg base (L2.CX P w) 8 f fd ["cls", "text"] (spMReadX K CM CT) := by
  refine F.okX scMRead (fun vs H Q E h => ?_) (fun cdv A outer s H vs Q E hr h => ?_)
  · obtain ⟨_, rfl, _⟩ := h
    rfl
  · obtain ⟨v, rfl, no, r⟩ := h
    have nd := scMRead.nd
    refine ⟨_, pss_cons (ps_set (i := 2) nd rfl (.inl rfl) (pe_make (CX := L2.CX P w) (E := E) MD GI (hr.mono (by decide)) (by rfl) CC.gC bI .nil (passes_call (takes_of rfl rfl rfl rfl) fun _ _ _ _ h => h) (pa_cons (pv 1) pa_nil))) pss_never, ?_⟩
    refine ⟨_, rfl, fun c dc hc hdc ne => ?_⟩
    have fr : Ex H (upd (upd H dc (.own c)) c (.ins D dc [])) := fun b o hb => by
      rw [upd_ne (ne_of_none hb hc), upd_ne (ne_of_none hb hdc)]
      exact hb
    exact ⟨c, dc, v, rfl, upd_same, fun H' x' => no H' (fr.trans x'), fun d H' x' e' => r d H' (fr.trans x') e'⟩
end
end K02

set_option Elab.async false
set_option linter.all false
set_option maxRecDepth 100000
set_option maxHeartbeats 4000000
/-! text[::-1], ~ of an own instance, op= without an own in-place def -/
namespace KU
open PySem PySem.Spec PyProof.Rows L2 Evl
/-- a text turned -/
def revS (t : Str) : Str := ⟨t.cps.toList.reverse.toArray⟩
theorem rev_cps (t : Str) : (revS t).cps.toList = t.cps.toList.reverse := by simp [revS]
theorem rev_len (t : Str) : (revS t).length = t.length := by
  show (revS t).cps.size = t.cps.size
  rw [← Array.length_toList, rev_cps, List.length_reverse, Array.length_toList]
theorem rev_made (x : Str) (t u : Tok) : sliceMade x t none none (some (-1, u)) = .str (revS x) := by
  have h1 : ¬ (((((some ((-1 : Int), u)).map (·.1)).getD 1 == 1) && ((slicePicked x none none (some (-1, u))).length == x.length)) = true) := by
    have : ((((some ((-1 : Int), u)).map (·.1)).getD 1 == 1)) = false := rfl
    rw [this]
    simp
  unfold sliceMade
  rw [if_neg h1]
  show Made.str ⟨((Builtin.Str.strSliceIndices none none (-1) x.length).filterMap (x.cps[·]?)).toArray⟩ = _
  rw [picked_rev, PySem.W.krv_range, List.filterMap_reverse]
  have e := PySem.W.krv_all x.cps
  show Made.str ⟨((List.range x.cps.size).filterMap (x.cps[·]?)).reverse.toArray⟩ = _
  rw [e]
  rfl
section
variable {X : Cx}
def tRevT (te : TE) : TE := fun σ H Q => te σ H fun x H1 => ∃ t : Str, x = .str t ∧ t.length ≤ sizeLine ∧ Q (.str (revS t)) H1
theorem pe_revT {e : Expr} {te : TE} {k : Nat} {p1 p2 p3 pos : Pos} (he : PE X e te) : PE X (.Subscript e (.Slice none none (some (.UnaryOp .USub (.Constant (.int 1) k p1) p2)) p3) pos) (tRevT te) := by
  refine ⟨fun pins s σ H Q I h => ?_⟩
  refine Subscript_ (thn (he.run pins s σ H _ I h) fun v s1 ⟨x, H1, I1, r1, q1⟩ => ?_)
  obtain ⟨t, ex, hz, q⟩ := q1
  subst ex
  obtain ⟨tk, rfl⟩ := r1
  have hst : PO X (some (.UnaryOp .USub (.Constant (.int 1) k p1) p2)) (tPart (tUn (rU fun i => .int (-i)) (tC (.int 1)))) := po_some (pe_un un_neg pe_int)
  refine wpAny_Slice (thn (po_none.run pins s1 σ H1 (fun o H2 => o = none ∧ H2 = H1) I1 ⟨rfl, rfl⟩) fun vl s2 ⟨l, H2, I2, pl, el, e2⟩ => ?_)
  subst el e2
  refine thn (po_none.run pins s2 σ H2 (fun o H3 => o = none ∧ H3 = H2) I2 ⟨rfl, rfl⟩) fun vu s3 ⟨u, H3, I3, pu, eu, e3⟩ => ?_
  subst eu e3
  refine thn (hst.run pins s3 σ H3 (fun o H4 => o = some (-1) ∧ H4 = H3) I3 ⟨1, rfl, -1, rfl, rfl, rfl⟩) fun vs s4 ⟨o, H4, I4, ps, eo, e4⟩ => ?_
  subst eo e4
  have I5 : Inv X pins σ H4 { s4 with heap := s4.heap.push { cls := .type "slice", data := .fields #[vl, vu, vs] } } := I4.kept (t' := s4.toks) fun b ob q => Heap.get?_push_of_some _ q
  obtain ⟨l', el, e1⟩ := IsPart.raw pl
  obtain ⟨u', eu, e2⟩ := IsPart.raw pu
  obtain ⟨st', es, e3⟩ := IsPart.raw ps
  have l0 : l' = none := by
    cases l' with
    | none => rfl
    | some z => cases e1
  have u0 : u' = none := by
    cases u' with
    | none => rfl
    | some z => cases e2
  obtain ⟨tk2, s0⟩ : ∃ tk2, st' = some (-1, tk2) := by
    cases st' with
    | none => cases e3
    | some z =>
      obtain ⟨i, t2⟩ := z
      cases e3
      exact ⟨t2, rfl⟩
  subst l0 u0 s0
  refine tail_any (ops := [.str t tk, .ref s4.heap.objs.size]) (typeIs_str _ _ _) F.slot_str_getitem.lookup ?_ (by with_unfolding_all rfl)
  refine wpAny_getItem_str_slice (l := none) (u := none) (st := some (-1, tk2)) ⟨_, Heap.get?_push_size _ rfl, rfl, by rw [el, eu, es]⟩ rfl ?_
  rw [rev_made]
  exact ⟨by rw [rev_len]; exact hz, .str _, H4, I5.tok _, ⟨_, rfl⟩, q⟩
end
section
variable {X : Cx} {CX : CXT} {pins : List (Addr × Obj)} {C g : Addr} {n : Nat} {sp : Sp} {E : XK}
/-- an operator with one instance, by the own def -/
def rUnI (C : Addr) (sp : Sp) (E : XK) : V → Hp → VK → Prop := fun x H Q => ∃ (a dx : Addr) (fs : List (Str × V)), x = .ref a ∧ H a = some (.ins C dx fs) ∧ sp [x] H Q E
theorem un_invI (hs : PySem.W.findIn X.K (.ref C) "__invert__" = some (some (.ref g))) (hf : PySem.W.isFn X.K (.ref g) = true)
    (F : FnR X.prog X.w X.K X.mg X.base CX n g sp) (hr : Room n X.A) (hx : Passes CX X E) : UnR X (unaryOp .Invert) (rUnI C sp E) := by
  intro pins s σ H x u Q I rx h
  obtain ⟨a, dx, fs, rfl, ha, q⟩ := h
  obtain rfl : u = Value.ref a := rx
  obtain ⟨od, Ja⟩ := ins_at I ha
  obtain ⟨m, fr⟩ := I.fr
  refine PySem.W.ksp_inv fr I.ok.mod.kin Ja hs hf ?_
  exact own_call F hr I.env0 hx I (vs := [.ref a]) (.cons rfl .nil) q
end
/-- no class of C's order has an own in-place def -/
def noInB (K : PySem.W.Frag) (C : Addr) (nm : String) : Bool := match PySem.W.clsIn K C with
  | some cd => cd.mro.all fun c => PySem.W.findIn K c (dunderI nm) == some none
  | none => false
section
variable {M : Model} {h : Heap}
theorem looks_any {f : Value → Sem Bool} : ∀ l : List Value, (∀ c ∈ l, PySem.W.Looks M h (f c) false) → PySem.W.Looks M h (l.anyM f) false
  | [], _ => PySem.W.Looks.of_pure rfl
  | c :: r, hf => by
    intro A Q E s k q
    rw [List.anyM_cons]
    refine wpAny_bind ((hf c List.mem_cons_self) A _ E s k ?_)
    exact looks_any r (fun d hd => hf d (List.mem_cons_of_mem _ hd)) A Q E s k q
end
theorem no_inplace {M : Model} {K : PySem.W.Frag} {h : Heap} {C : Addr} {nm : String} {add : Bool} (X : K.In h) (hn : noInB K C nm = true) : PySem.W.Looks M h (fillsInplaceSlot (.ref C) nm add) false := by
  unfold noInB at hn
  cases hc : PySem.W.clsIn K C with
  | none =>
    rw [hc] at hn
    cases hn
  | some cd =>
    rw [hc] at hn
    intro A Q E s k q
    have Lm : PySem.W.Looks M h (mroOf (.ref C)) cd.mro := (PySem.W.looks_clsIn X hc).andThen (f := fun cd => pure cd.mro) .now
    unfold fillsInplaceSlot
    refine wpAny_bind (Lm A _ E s k ?_)
    refine looks_any cd.mro (fun c hc2 => ?_) A Q E s k q
    intro A Q E s k q
    have z := beq_iff_eq.mp (List.all_eq_true.mp hn c hc2)
    refine wpAny_bind (PySem.W.looks_findIn X z A _ E s k ?_)
    exact wpAny_pure q
section
variable {K : PySem.W.Frag} {A : Around} {E : Value → Shared → Prop} {s : Shared} {h₀ : Heap} {L x C f : Addr} {m : Str → Option Value} {ox : Obj} {od : Option Obj}
theorem inplace_K {prog : Program} {w : World} {op : Operator} {b : Value} {Q : Value → Shared → Prop} (F : Fr h₀ L s.heap m) (X₀ : K.In h₀) (I : PySem.W.InstAt s.heap x ox C od) (hb : PySem.W.Looks (model prog w) s.heap (typeOf b) (.ref C)) (hc : PySem.W.selfFirst K C = true)
    (hn : noInB K C op.info.2 = true) (hs : PySem.W.findIn K (.ref C) (PySem.dunder op.info.2) = some (some (.ref f))) (hf : PySem.W.isFn K (.ref f) = true)
    (h : wpAny (model prog w) A (call (.ref f) [.ref x, b]) (PySem.W.CmpBack Q) E s) : wpAny (model prog w) A (inplaceOp op (.ref x) b) Q E s := by
  have X := X₀.keeps F.keep
  obtain ⟨cd, rest, hcd, hm⟩ := PySem.W.ksp_first hc
  unfold inplaceOp
  refine wpAny_holding (wpAny_bind (I.type.here (wpAny_bind ((no_inplace X hn).here ?_))))
  simp only [Bool.false_eq_true, if_false]
  refine wpAny_bind (m := binaryOp1 op.info.2 (.ref x) b) ?_
  unfold binaryOp1
  refine wpAny_bind (I.type.here (wpAny_bind (hb.here (wpAny_bind ((PySem.W.fills_K X hcd hm hs).here ?_)))))
  simp only [beq_self_eq_true, if_true]
  refine wpAny_bind (wpAny_pure ?_)
  simp only [Bool.and_false, Bool.false_eq_true, if_false, Bool.false_and]
  refine wpAny_bind (wpAny_pure ?_)
  simp only [Bool.false_eq_true, if_false]
  refine wpAny_bind (m := tryMethod (.ref x) _ b) ?_
  unfold tryMethod
  refine wpAny_bind (PySem.W.special_fn X I hs (beq_iff_eq.mp hf) (wpAny_mono h (fun v s' hv => ?_) fun _ _ e => e))
  cases v <;> first | exact hv.elim | exact wpAny_pure (wpAny_pure (wpAny_pure hv))
end
section
variable {X : Cx} {CX : CXT} {C g : Addr} {n : Nat} {sp : Sp} {E : XK}
theorem ip_binI {op : Operator} (sf : PySem.W.selfFirst X.K C = true) (hn : noInB X.K C op.info.2 = true) (hs : PySem.W.findIn X.K (.ref C) (dunder op.info.2) = some (some (.ref g))) (hf : PySem.W.isFn X.K (.ref g) = true)
    (F : FnR X.prog X.w X.K X.mg X.base CX n g sp) (hr : Room n X.A) (hx : Passes CX X E) : PIp X op (rBinI C sp E) := by
  intro pins s σ H x y u v Q I rx ry h
  obtain ⟨a, dx, fs, b, dy, gs, rfl, rfl, ha, hb, q⟩ := h
  obtain rfl : u = Value.ref a := rx
  obtain rfl : v = Value.ref b := ry
  obtain ⟨od, Ja⟩ := ins_at I ha
  obtain ⟨oe, Jb⟩ := ins_at I hb
  obtain ⟨m, fr⟩ := I.fr
  refine inplace_K fr I.ok.mod.kin Ja Jb.type sf hn hs hf ?_
  exact wpAny_mono (own_call F hr I.env0 hx I (vs := [.ref a, .ref b]) (.cons rfl (.cons rfl .nil)) q) (fun u s' ⟨z, H', I', rz, qz⟩ => SlX.cmpback rz ⟨z, H', I', rz, qz⟩) fun e s' z => z
end
end KU

set_option Elab.async false
set_option linter.all false
set_option maxRecDepth 100000
set_option maxHeartbeats 4000000
/-! Values; the texts of moves; the law's own small functions -/
namespace K02
open PySem PySem.Spec PyProof.Rows L2 Evl KU
theorem fold_len (g : Array Nat) (r : List Str) (a : Array Nat) : (r.foldl (fun (acc : Array Nat) (p : Str) => acc ++ g ++ p.cps) a).size = a.size + (r.map (·.length)).sum + r.length * g.size := by
  induction r generalizing a with
  | nil => simp
  | cons b t ih =>
    rw [List.foldl_cons, ih, List.map_cons, List.sum_cons, List.length_cons, Array.size_append, Array.size_append, Nat.add_mul]
    have : b.length = b.cps.size := rfl
    omega
theorem join_len (sep : Str) (ys : List Str) : (Txt.join sep ys).length ≤ (ys.map (·.length)).sum + ys.length * sep.length := by
  show (List.foldl (fun (acc : Array Nat) (p : Str) => acc ++ sep.cps ++ p.cps) (ys.headD Str.empty).cps (List.drop 1 ys)).size ≤ _
  rw [fold_len]
  cases ys with
  | nil => simp [Str.empty]
  | cons b t =>
    rw [List.headD_cons, List.drop_succ_cons, List.drop_zero, List.map_cons, List.sum_cons, List.length_cons, Nat.add_mul]
    show b.cps.size + _ + t.length * sep.cps.size ≤ b.cps.size + _ + (t.length * sep.cps.size + 1 * sep.cps.size)
    omega
theorem cut_fromV {xs : List V} (i : Nat) : cutV xs (some (i : Int)) none = xs.drop i := by
  unfold cutV
  have e1 : HT.sIx xs.length 0 (some (i : Int)) = min i xs.length := by
    unfold HT.sIx
    show (if (i : Int) < 0 then _ else min ((i : Int).toNat) xs.length) = _
    rw [if_neg (by omega), Int.toNat_natCast]
  have e2 : HT.sIx xs.length xs.length none = xs.length := rfl
  rw [e1, e2, List.take_of_length_le (by rw [List.length_drop]; exact Nat.le_refl _)]
  rcases Nat.le_total i xs.length with h | h
  · rw [Nat.min_eq_left h]
  · rw [Nat.min_eq_right h, List.drop_length, List.drop_eq_nil_of_le h]
theorem cut_toG {xs : List V} (i : Nat) : cutV xs none (some (i : Int)) = xs.take i := by
  rcases Nat.le_total i xs.length with h | h
  · exact cut_toV h
  · have : cutV xs none (some (i : Int)) = cutV xs none (some (xs.length : Int)) := by
      unfold cutV
      have e2 : HT.sIx xs.length xs.length (some (i : Int)) = HT.sIx xs.length xs.length (some (xs.length : Int)) := by
        unfold HT.sIx
        show (if (i : Int) < 0 then _ else min ((i : Int).toNat) xs.length) = (if (xs.length : Int) < 0 then _ else min ((xs.length : Int).toNat) xs.length)
        rw [if_neg (by omega), if_neg (by omega), Int.toNat_natCast, Int.toNat_natCast, Nat.min_eq_right h, Nat.min_self]
      rw [e2]
    rw [this, cut_toV (Nat.le_refl _), List.take_length, List.take_of_length_le h]
section
variable {K : PySem.W.Frag} {σ : L2.St} {H : Hp} {te ta tb tc tl : TE} {ws us : List Str}
/-- a <= b <= c -/
theorem ev_chainI {a b c : Int} (ha : Ev ta σ H (.int a)) (hb : Ev tb σ H (.int b)) (hc : Ev tc σ H (.int c)) : Ev (tChain (rI0 fun i j => .bl (decide (i ≤ j))) (rI0 fun i j => .bl (decide (i ≤ j))) ta tb tc) σ H (.bl (decide (a ≤ b) && decide (b ≤ c))) := fun H1 x1 Q q =>
  ha H1 x1 _ fun H2 x2 => hb H2 (x1.trans x2) _ fun H3 x3 => ⟨a, b, rfl, rfl, _, rfl, by
    cases h : decide (a ≤ b) with
    | true =>
      rw [if_pos rfl]
      refine hc H3 (x1.trans (x2.trans x3)) _ fun H4 x4 => ⟨b, c, rfl, rfl, ?_⟩
      have z := q H4 (x2.trans (x3.trans x4))
      rw [h, Bool.true_and] at z
      exact z
    | false =>
      rw [if_neg (by decide)]
      have z := q H3 (x2.trans x3)
      rw [h, Bool.false_and] at z
      exact z⟩
/-- a list that is made != [] -/
theorem es_to {i : Nat} (ha : EvP ta σ H (IsSL ws)) (hb : Ev tb σ H (.int (i : Int))) : EvP (L2.tSl (rSlL K) ta tNoPart (tPart tb)) σ H (IsSL (ws.take i)) := fun H1 x1 Q q =>
  ha H1 x1 _ fun v H2 x2 a => hb H2 (x1.trans x2) _ fun H3 x3 => by
    obtain ⟨l, ev, hl⟩ := up_isSL ws v _ _ x3 a
    subst ev
    exact ⟨_, rfl, l, _, rfl, sq_of hl, fun p hp => q _ _ ((x2.trans x3).trans (Ex.new hp)) ⟨p, rfl, by rw [upd_same, cut_toG, List.map_take]⟩⟩
theorem es_from {i : Nat} (ha : EvP ta σ H (IsSL ws)) (hb : Ev tb σ H (.int (i : Int))) : EvP (L2.tSl (rSlL K) ta (tPart tb) tNoPart) σ H (IsSL (ws.drop i)) := fun H1 x1 Q q =>
  ha H1 x1 _ fun v H2 x2 a => hb H2 (x1.trans x2) _ fun H3 x3 => by
    obtain ⟨l, ev, hl⟩ := up_isSL ws v _ _ x3 a
    subst ev
    exact ⟨_, rfl, l, _, rfl, sq_of hl, fun p hp => q _ _ ((x2.trans x3).trans (Ex.new hp)) ⟨p, rfl, by rw [upd_same, cut_fromV, List.map_drop]⟩⟩
theorem el_sorted (h : EvL tl σ H (ws.map V.str)) (nd : ws.Nodup) (lt : ws.length < 64) : EvL (tCB (rSortedS K) (tCons tl tNil)) σ H ((srt ws).map V.str) := fun H1 x1 Q q =>
  h H1 x1 _ fun p H2 hp x2 e => ⟨p, ws, rfl, sq_of e, lt, fun ys r pe so hr => by
    have es : ys = srt ws := srt_is so (pe.nodup_iff.mpr nd) fun k => pe.mem_iff
    subst es
    exact q r _ (fresh_back x2 hr) (x2.trans (Ex.new hr)) upd_same⟩
theorem ea_starL {t : TA} {xs ys : List V} (h : EvL te σ H xs) (r : EvA t σ H ys) : EvA (StX.tStar K te t) σ H (xs ++ ys) := fun H1 x1 Q q =>
  h H1 x1 _ fun p H2 hp x2 e => ⟨p, xs, rfl, .inr (sq_of e), r H2 (x1.trans x2) _ fun H3 x3 => q H3 (x2.trans x3)⟩
theorem ev_cutTo {a : Str} {n : Int} (ha : Ev ta σ H (.str a)) (hn : Ev tb σ H (.int n)) (l : a.length ≤ 1000) : Ev (L2.tSl rSlS ta tNoPart (tPart tb)) σ H (.str (cutS a none (some n))) := fun H1 x1 Q q =>
  ha H1 x1 _ fun H2 x2 => hn H2 (x1.trans x2) _ fun H3 x3 => ⟨n, rfl, a, rfl, by rw [sizeLine_eq]; omega, q H3 (x2.trans x3)⟩
/-- the keys of a dict of texts, sorted -/
theorem el_keysSorted {p : Addr} {qs : List (Str × Str)} {i j : Nat} (hi : σ[i]? = some (some (.ref p))) (hp : H p = some (.dK (kvG (kvS qs)))) (nd : (qs.map (·.1)).Nodup) (few : qs.length ≤ 60) (hw : ∀ x : V, wipe ((wipe σ [j]).set j (some x)) [j] = wipe σ [j]) (hj : ∀ x : V, ((wipe σ [j]).set j (some x))[j]? = some (some x)) :
    EvL (tCB (rSortedS K) (tCons (tLockE (tLc (iKeys (tVar i)) (gName j) tYes (tCB (fun xs H Q => ∃ a : Str, xs = [V.str a] ∧ Q (V.str a) H) (tCons (tVar j) tNil)) [j])) tNil)) σ H ((srt (qs.map (·.1))).map V.str) := by
  refine el_sorted (el_lockE hp trivial fun od H2 x2 => ?_) nd (by rw [List.length_map]; omega)
  have z := el_fmK (σ := σ) (H := upd H2 p (.frz od (.dK (kvG (kvS qs))))) (te := tCB (fun xs H Q => ∃ a : Str, xs = [V.str a] ∧ Q (V.str a) H) (tCons (tVar j) tNil)) (tl := tVar i) (t := tYes) (j := j) (vs := [j]) (d := p) (fun _ => true) (fun x => x)
    (ev_var hi) upd_same (by rw [kvS_len]; omega) hw (fun _ _ _ _ => et_yes) (fun x H4 x4 m _ => by
      have e := congrArg (List.map kV) (kvS_keys qs)
      rw [List.map_map, List.map_map] at e
      have e : (kvG (kvS qs)).map (fun kv => kV kv.1) = (qs.map (·.1)).map V.str := e
      rw [e] at m
      obtain ⟨c, mc, rfl⟩ := mem_str m
      exact ev_cb (ea_cons (ev_var (hj _)) ea_nil) fun H7 x7 Q7 q7 => ⟨c, rfl, q7 H7 (Ex.refl _)⟩)
  have e := congrArg (List.map kV) (kvS_keys qs)
  rw [List.map_map, List.map_map] at e
  have e : (kvG (kvS qs)).map (fun kv => kV kv.1) = (qs.map (·.1)).map V.str := e
  rw [e, all_str, List.map_id'] at z
  exact z
end
theorem str_nil (a : Str) : Str.empty ++ a = a := str_eq (by rw [cat_cps]; rfl)
theorem cut_take {a : Str} (n : Nat) : (cutS a none (some (n : Int))).cps.toList = a.cps.toList.take n := by
  unfold cutS
  show List.take (HT.sIx a.length a.length (some (n : Int)) - 0) (List.drop 0 a.cps.toList) = _
  have e : HT.sIx a.length a.length (some (n : Int)) = min n a.length := by
    unfold HT.sIx
    show (if (n : Int) < 0 then ((n : Int) + (a.length : Int)).toNat else min ((n : Int).toNat) a.length) = _
    rw [if_neg (by omega), Int.toNat_natCast]
  rw [e, List.drop_zero, Nat.sub_zero]
  rcases Nat.le_total n a.length with h | h
  · rw [Nat.min_eq_left h]
  · rw [Nat.min_eq_right h, List.take_of_length_le (by rw [len_cps]; exact Nat.le_refl _), List.take_of_length_le (by rw [len_cps]; exact h)]
/-- one[:len(word)] == word -/
theorem cut_begins (a b : Str) : decide (V.str (cutS a none (some (b.length : Int))) = V.str b) = decide (b.cps.toList <+: a.cps.toList) := by
  rw [Bool.eq_iff_iff, decide_eq_true_eq, decide_eq_true_eq, List.prefix_iff_eq_take, len_cps, ← cut_take]
  constructor
  · intro h
    injection h with h
    rw [h]
  · intro h
    rw [str_eq h.symm]
/-! ### the texts of moves -/
def spPStr (CP : Addr) : Sp := fun vs H Q _ => ∃ (a : Addr) (s : Str), vs = [.ref a] ∧ PutAt CP H a s ∧ s.length ≤ 1000 ∧ RetV (.str ("put " ++ s)) H Q
theorem scPStr : FnScope ["self"] ["self"] (defScope (putM 2)) := ⟨rfl, rfl, rfl, by decide +kernel, rfl, by decide +kernel, by decide +kernel⟩
def spCStr (C : Addr) : Sp := fun vs H Q _ => ∃ (a : Addr) (ws : List (Str × Str)), vs = [.ref a] ∧ CodeAt C H a ws ∧ Short ws ∧ RetV (.str (codeT ws)) H Q
abbrev nCStr : List Str := ["self", "sign", "word"]
theorem scCStr : FnScope nCStr ["self"] (defScope (codeM 5)) := ⟨rfl, rfl, rfl, by decide +kernel, rfl, by decide +kernel, by decide +kernel⟩
def spCLen (C : Addr) : Sp := fun vs H Q _ => ∃ (a : Addr) (ws : List (Str × Str)), vs = [.ref a] ∧ CodeAt C H a ws ∧ RetV (.int (ws.length : Int)) H Q
theorem scCLen : FnScope ["self"] ["self"] (defScope (codeM 6)) := ⟨rfl, rfl, rfl, by decide +kernel, rfl, by decide +kernel, by decide +kernel⟩
theorem prT_len (q : Str × Str) : (prT q).length = q.1.length + q.2.length + 1 := by
  unfold prT
  rw [cat_len, cat_len]
  show _ + 1 + _ = _
  omega
theorem Short.klen {ws : List (Str × Str)} (S : Short ws) : ∀ q ∈ ws, q.1.length = 1 := fun q hq => by
  obtain ⟨c, e⟩ := S.key q hq
  rw [e]
  rfl
section
variable {P : Program} {w : World} {K : PySem.W.Frag} {mg : Str → Option Value} {base : Heap} {C CP : Addr}
theorem ok_pstr {f : Addr} {fd : FuncData} (F : Fun K "__str__" "Put.__str__" (putM 2) f fd) (CU : ClsPu K mg CP) : FnOk P w K mg base CX0 1 f fd ["self"] (spPStr CP) := by
  refine F.ok scPStr (fun vs H Q E h => ?_) (fun cdv A outer s H vs Q E hr h => ?_)
  · obtain ⟨_, _, rfl, _⟩ := h
    rfl
  · obtain ⟨a, x, rfl, ⟨dx, h1⟩, l, k⟩ := h
    refine ⟨_, pss_one (ps_ret (pe_joined (.cons pe_str (.cons (pe_fmt (pe_fld (pv 0) rfl)) .nil)))), ?_⟩
    refine ⟨("put " : Str), rfl, ?_, _, rfl, a, CP, dx, _, _, rfl, h1, CU.toCls, CU.nSign, rfl, .inl ⟨x, rfl, ?_, x, rfl, ?_, ?_⟩⟩
    · rw [sizeLine_eq, str_nil]
      decide
    · rw [sizeLine_eq]
      omega
    · rw [sizeLine_eq, str_nil, cat_len]
      show 4 + _ ≤ _
      omega
    · have z := k H (Ex.refl _)
      rw [str_nil]
      exact z
theorem ok_cstr {f : Addr} {fd : FuncData} (F : Fun K "__str__" "Code.__str__" (codeM 5) f fd) (CC : ClsCd K mg C) : FnOk P w K mg base CX0 1 f fd ["self"] (spCStr C) := by
  refine F.ok scCStr (fun vs H Q E h => ?_) (fun cdv A outer s H vs Q E hr h => ?_)
  · obtain ⟨_, _, rfl, _⟩ := h
    rfl
  · obtain ⟨a, ws, rfl, ⟨dx, W, O, ts, h1, h2, h3, h4⟩, S, k⟩ := h
    have nd := scCStr.nd
    have few := S.few
    have ll := Paired.length h3
    refine ⟨_, pss_one (ps_ret (pe_join pe_str (pe_lst (pa_cons pe_str (StX.pa_star (pe_lc (own := [("sign", 1), ("word", 2)]) (wi := iTup K (tFld K (tVar 0) "words")) (g := gTup K 2 (gCons (gName 1) (gCons (gName 2) gNil))) (tt := tYes) rfl nd (by exact pi_tup (pe_fld (pv 0) rfl)) (by refine blkOk_by (own := [("sign", 1), ("word", 2)]) (N := nCStr) (sc := defScope (codeM 5)) ?_; decide +kernel)
          (fun _ _ _ _ _ => (pg_tup (by rfl) (pgs_cons (pg_name (i := 1) nd rfl (Or.inl rfl)) (pgs_cons (pg_name (i := 2) nd rfl (Or.inl rfl)) pgs_nil)))) (fun _ _ _ _ _ => pts_nil) (fun _ _ _ _ _ => pe_joined (.cons (pe_fmt (pv 1)) (.cons pe_str (.cons (pe_fmt (pv 2)) .nil))))) pa_nil))))), ?_⟩
    have each : ∀ q ∈ ws, q.1.length = 1 ∧ q.2.length ≤ 3 := fun q hq => ⟨S.klen q hq, S.len q hq⟩
    have z := el_pairsT (K := K) (σ := start nCStr [.ref a]) (H := H) (i := 1) (j := 2) (vs := [1, 2]) (te := fun σ H Q => tJs [tFmt (tVar 1), tC (.str " "), tFmt (tVar 2)] Str.empty σ H fun out H1 => Q (.str out) H1) (tl := tFld K (tVar 0) "words") (ws := ws) (fun q => .str (prT q)) (ev_fld (K := K) (te := tVar 0) (ev_var rfl) h1 CC.toCls CC.nWords rfl) h2 h3 (by omega) (fun _ _ => rfl) (fun q hq H1 x1 H2 x2 Q q2 => by
      obtain ⟨l1, l2⟩ := each q hq
      refine ⟨_, rfl, .inl ⟨q.1, rfl, by rw [sizeLine_eq]; omega, q.1, rfl, by rw [str_nil, sizeLine_eq]; omega, (" " : Str), rfl, ?_, _, rfl, .inl ⟨q.2, rfl, by rw [sizeLine_eq]; omega, q.2, rfl, ?_, ?_⟩⟩⟩
      · rw [sizeLine_eq, str_nil, cat_len]
        show _ + 1 ≤ _
        omega
      · rw [sizeLine_eq, str_nil, cat_len, cat_len]
        show _ + 1 + _ ≤ _
        omega
      · rw [str_nil]
        exact q2 H2 (Ex.refl _))
    have e : ws.map (fun q => V.str (prT q)) = (ws.map prT).map V.str := by
      rw [List.map_map]
      rfl
    rw [e] at z
    have y := ea_starL (K := K) z ea_nil
    rw [List.append_nil] at y
    have sum : ((ws.map prT).map (·.length)).sum ≤ 5 * ws.length := by
      have := sum_bound (fun w : Str => w.length) 5 (ws.map prT) fun w hw => by
        obtain ⟨q, hq, rfl⟩ := List.mem_map.mp hw
        obtain ⟨l1, l2⟩ := each q hq
        rw [prT_len]
        omega
      rw [List.length_map] at this
      exact this
    refine s_ret (v := .str (codeT ws)) (ev_is (ev_join (K := K) (s := " ") (ws := ("code" : Str) :: ws.map prT) (es_lst (ws := ("code" : Str) :: ws.map prT) (ea_cons ev_c y) (by rw [List.length_cons, List.length_map]; omega)) ?_) (by rw [join_pairs])) fun H1 x1 => k H1 x1
    rw [List.map_cons, List.sum_cons, List.length_cons, List.length_map]
    have o1 : (" " : Str).length = 1 := rfl
    have o2 : ("code" : Str).length = 4 := rfl
    rw [o1, o2]
    omega
theorem ok_clen {f : Addr} {fd : FuncData} (F : Fun K "__len__" "Code.__len__" (codeM 6) f fd) (T : Free mg) (CC : ClsCd K mg C) : FnOk P w K mg base CX0 1 f fd ["self"] (spCLen C) := by
  refine F.ok scCLen (fun vs H Q E h => ?_) (fun cdv A outer s H vs Q E hr h => ?_)
  · obtain ⟨_, _, rfl, _⟩ := h
    rfl
  · obtain ⟨a, ws, rfl, ⟨dx, W, O, ts, h1, h2, h3, h4⟩, k⟩ := h
    refine ⟨_, pss_one (ps_ret (pe_callB call_len_seq (by rfl) T.len PySem.boot_len (pa_cons (pe_fld (pv 0) rfl) pa_nil))), ?_⟩
    refine s_ret (v := .int (ws.length : Int)) (ev_cb (ea_cons (ev_fld (K := K) (te := tVar 0) (ev_var rfl) h1 CC.toCls CC.nWords rfl) ea_nil) fun H1 x1 Q1 q1 => ⟨W, _, rfl, .inr (st_of (x1 _ _ h2)), ?_⟩) fun H1 x1 => k H1 x1
    rw [List.length_map, Paired.length h3]
    exact q1 H1 (Ex.refl _)
end
/-! ### the law's own -/
abbrev sLCt : Stmt := topR 30
abbrev sLSg : Stmt := topR 31
abbrev sLWd : Stmt := topR 32
abbrev sLMt : Stmt := topR 33
abbrev nLCt : List Str := ["_law_words", "_law_sign", "_law_one"]
theorem scLCt : FnScope nLCt ["_law_words"] (defScope sLCt) := ⟨rfl, rfl, rfl, by decide +kernel, rfl, by decide +kernel, by decide +kernel⟩
theorem scLSg : FnScope ["_law_word"] ["_law_word"] (defScope sLSg) := ⟨rfl, rfl, rfl, by decide +kernel, rfl, by decide +kernel, by decide +kernel⟩
theorem scLWd : FnScope ["_law_word", "_law_sign"] ["_law_word"] (defScope sLWd) := ⟨rfl, rfl, rfl, by decide +kernel, rfl, by decide +kernel, by decide +kernel⟩
abbrev nLMt : List Str := ["_law_word", "_law_told", "_law_one"]
theorem scLMt : FnScope nLMt ["_law_word", "_law_told"] (defScope sLMt) := ⟨rfl, rfl, rfl, by decide +kernel, rfl, by decide +kernel, by decide +kernel⟩
def spLCt : Sp := fun vs H Q _ => ∃ (p : Addr) (qs : List (Str × Str)), vs = [.ref p] ∧ H p = some (.dK (kvG (kvS qs))) ∧ CodeG qs ∧ RetV (.str (codeT (codeOf qs))) H Q
def spLSg : Sp := fun vs H Q _ => ∃ t : Str, vs = [.str t] ∧ t.length ≤ 1000 ∧ RetV (.bl (sgB t)) H Q
def PlainS (t : Str) : Prop := ∀ c ∈ t.cps.toList, c < 1114112
def spLWd : Sp := fun vs H Q _ => ∃ t : Str, vs = [.str t] ∧ t.length ≤ 1000 ∧ PlainS t ∧ RetV (.bl (isWordB t sSIGNS 3)) H Q
def spLMt : Sp := fun vs H Q _ => ∃ (t : Str) (p : Addr) (us : List Str), vs = [.str t, .ref p] ∧ H p = some (.lst (us.map V.str)) ∧ t.length ≤ 1000 ∧ us.length ≤ 1000 ∧ (∀ u ∈ us, u.length ≤ 1000 ∧ PyData.strOk u = true) ∧ RetV (.bl (us.any (alikeB t))) H Q
theorem codeT_len {qs : List (Str × Str)} (S : Short qs) : (codeT qs).length ≤ 400 := by
  have few := S.few
  have z := join_len " " (("code" : Str) :: qs.map prT)
  have o1 : (" " : Str).length = 1 := rfl
  have o2 : ("code" : Str).length = 4 := rfl
  rw [join_pairs, List.map_cons, List.sum_cons, List.length_cons, List.length_map, o1, o2] at z
  have := sum_bound (fun w : Str => w.length) 5 (qs.map prT) fun w hw => by
    obtain ⟨q, hq, rfl⟩ := List.mem_map.mp hw
    have l1 := S.klen q hq
    have l2 := S.len q hq
    rw [prT_len]
    omega
  rw [List.length_map] at this
  have this : ((qs.map prT).map fun x : Str => x.length).sum ≤ 5 * qs.length := this
  omega
section
variable {P : Program} {w : World} {K : PySem.W.Frag} {mg : Str → Option Value} {base : Heap}
theorem ok_lct {f : Addr} {fd : FuncData} (F : Fun K "_law_code_text" "_law_code_text" sLCt f fd) (T : Free mg) : FnOk P w K mg base CX0 1 f fd ["_law_words"] spLCt := by
  refine F.ok scLCt (fun vs H Q E h => ?_) (fun cdv A outer s H vs Q E hr h => ?_)
  · obtain ⟨_, _, rfl, _⟩ := h
    rfl
  · obtain ⟨p, qs, rfl, hp, G, k⟩ := h
    have nd := scLCt.nd
    have few := G.few
    refine ⟨_, pss_one (ps_ret (pe_op op_add_str pe_str (pe_join pe_str (pe_lc (own := [("_law_sign", 1)]) (wi := iList K (tCB (rSortedS K) (tCons (tLockE (tLc (iKeys (tVar 0)) (gName 2) tYes (tCB (fun xs H Q => ∃ a : Str, xs = [V.str a] ∧ Q (V.str a) H) (tCons (tVar 2) tNil)) [2])) tNil))) (g := gName 1) (tt := tYes) rfl nd
      (by exact pi_list (pe_callB (r := rSortedS K) (by exact cr_sortedS) (by rfl) T.sorted (by decide +kernel) (pa_cons (pe_lock (pe_lc (own := [("_law_one", 2)]) (wi := iKeys (tVar 0)) (g := gName 2) (tt := tYes) rfl nd (by exact pi_keys (pv 0)) (by refine blkOk_by (own := [("_law_one", 2)]) (N := nLCt) (sc := defScope sLCt) ?_; decide +kernel)
          (fun _ _ _ _ _ => pg_name (i := 2) nd rfl (Or.inl rfl)) (fun _ _ _ _ _ => pts_nil) (fun _ _ _ _ _ => pe_callTy SkE.call_str_str (by rfl) T.str (by decide +kernel) (pa_cons (pv 2) pa_nil)))) pa_nil)))
      (by refine blkOk_by (own := [("_law_sign", 1)]) (N := nLCt) (sc := defScope sLCt) ?_; decide +kernel)
      (fun _ _ _ _ _ => pg_name (i := 1) nd rfl (Or.inl rfl)) (fun _ _ _ _ _ => pts_nil) (fun _ _ _ _ _ => pe_op op_add_str (pe_op op_add_str (pv 1) pe_str) (pe_dget (hu_of hr) (pv 0) (pv 1) (fun _ _ => rfl))))))), ?_⟩
    have ks := el_keysSorted (K := K) (σ := start nLCt [.ref p]) (H := H) (i := 0) (j := 2) rfl hp G.nd (by omega) (fun _ => rfl) (fun _ => rfl)
    have S := G.of.short
    have len0 := codeOf_len G.nd
    have z := el_fmN (K := K) (σ := start nLCt [.ref p]) (H := H) (j := 1) (vs := [1]) (t := tYes) (te := tOp rAddS (tOp rAddS (tVar 1) (tC (.str " "))) (tDGet (tVar 0) (tVar 1))) (fun _ => true) (onS fun s => .str (prT (s, wOf qs s))) ks (by rw [List.length_map, ← codeOf_keys, List.length_map]; omega) (fun _ => rfl) (fun _ _ _ _ => et_yes) (fun x H1 x1 mx _ => by
      obtain ⟨s, ms, rfl⟩ := mem_str mx
      have mq : (s, wOf qs s) ∈ codeOf qs := List.mem_map.mpr ⟨s, ms, rfl⟩
      have l1 := S.klen _ mq
      have l2 := S.len _ mq
      have l1 : s.length = 1 := l1
      have l2 : (wOf qs s).length ≤ 3 := l2
      exact ev_cat (ev_cat (ev_var rfl) ev_c (by rw [l1]; decide)) (ev_dget (k := Sum.inr s) (ev_var rfl) (ev_var (v := .str s) rfl) (x1 _ _ hp) (val_of ((mem_srt _ s).mp ms))) (by rw [cat_len, l1]; show 1 + 1 + _ ≤ _; omega))
    have e : List.map (onS fun s => V.str (prT (s, wOf qs s))) (List.filter (fun _ => true) ((srt (qs.map (·.1))).map V.str)) = ((codeOf qs).map prT).map V.str := by
      rw [all_str]
      unfold codeOf
      rw [List.map_map, List.map_map, List.map_map]
      rfl
    rw [e] at z
    have sum : (((codeOf qs).map prT).map (·.length)).sum ≤ 5 * (codeOf qs).length := by
      have := sum_bound (fun w : Str => w.length) 5 ((codeOf qs).map prT) fun w hw => by
        obtain ⟨q, hq, rfl⟩ := List.mem_map.mp hw
        have l1 := S.klen q hq
        have l2 := S.len q hq
        rw [prT_len]
        omega
      rw [List.length_map] at this
      exact this
    have o1 : (" " : Str).length = 1 := rfl
    have jn := ev_joinL (K := K) (s := " ") z (by rw [List.length_map, o1]; omega)
    have hd : ("code " : Str) ++ Txt.join " " ((codeOf qs).map prT) = codeT (codeOf qs) := by
      have ne := G.of.ne
      cases e : codeOf qs with
      | nil => exact absurd e ne
      | cons a r =>
        have j := join_head "code" (prT a) (r.map prT)
        rw [← join_pairs, List.map_cons, ← j]
        rfl
    have jl := join_len " " ((codeOf qs).map prT)
    rw [List.length_map, o1] at jl
    refine s_ret (v := .str (codeT (codeOf qs))) (ev_is (ev_cat (a := "code ") ev_c jn ?_) (by rw [hd])) fun H1 x1 => k H1 x1
    show 5 + _ ≤ 1000
    have sum' : (List.map (fun x : Str => x.length) ((codeOf qs).map prT)).sum ≤ 5 * (codeOf qs).length := sum
    omega
theorem ok_lsg {f : Addr} {fd : FuncData} (F : Fun K "_law_is_sign" "_law_is_sign" sLSg f fd) (T : Free mg) : FnOk P w K mg base CX0 1 f fd ["_law_word"] spLSg := by
  refine F.ok scLSg (fun vs H Q E h => ?_) (fun cdv A outer s H vs Q E hr h => ?_)
  · obtain ⟨_, rfl, _⟩ := h
    rfl
  · obtain ⟨t, rfl, tl, k⟩ := h
    refine ⟨_, pss_one (ps_ret (pe_and (pe_cmpR op_eq (pe_callB call_len_str (by rfl) T.len PySem.boot_len (pa_cons (pv 0) pa_nil)) pe_int (nomark _)) (pe_one (pe_cmpR op_inS (pv 0) pe_str (by rfl))))), ?_⟩
    refine s_ret (v := .bl (sgB t)) (ev_andV (a := decide (t.length = 1)) (ev_is (ev_op (ev_lenS (ev_var rfl) (by rw [sizeLine_eq]; omega)) ev_c (rv_eq rfl)) ?_) fun _ => ev_inS (ev_var rfl) ev_c) fun H1 x1 => k H1 x1
    refine congrArg V.bl ?_
    rw [Bool.eq_iff_iff, decide_eq_true_eq, decide_eq_true_eq]
    exact ⟨fun z => by injection z with z; omega, fun z => by rw [z]; rfl⟩
theorem plain_strOk {t : Str} (h : PlainS t) : PyData.strOk t = true := by
  show t.cps.all (· < 0x110000) = true
  rw [← Array.all_toList, List.all_eq_true]
  exact fun c hc => decide_eq_true (h c hc)
theorem odd_none {t : Str} : decide (((signsL t).filter fun s => !sgB s) = []) = isTextB t sSIGNS := by
  rw [Bool.eq_iff_iff, decide_eq_true_eq, over_iff, List.filter_eq_nil_iff]
  constructor
  · intro h c hc
    have := h ⟨#[c]⟩ (List.mem_map.mpr ⟨c, hc, rfl⟩)
    have h2 : sgB ⟨#[c]⟩ = true := by simpa using this
    obtain ⟨d, hd, e⟩ := sgB_one h2
    rw [one_inj e]
    exact hd
  · intro h s hs
    obtain ⟨c, hc, rfl⟩ := List.mem_map.mp hs
    rw [show sgB ⟨#[c]⟩ = true from one_sgB (h c hc)]
    decide
theorem ok_lwd {f fS : Addr} {fd fdS : FuncData} (F : Fun K "_law_is_word" "_law_is_word" sLWd f fd) (T : Free mg) (GS : FnOk P w K mg base CX0 1 fS fdS ["_law_word"] spLSg) (bS : Binds K fdS ["_law_word"] []) (gS : mg "_law_is_sign" = some (.ref fS)) (kS : PySem.W.keepIn K (.ref fS) = true) :
    FnOk P w K mg base CX0 2 f fd ["_law_word"] spLWd := by
  refine F.ok scLWd (fun vs H Q E h => ?_) (fun cdv A outer s H vs Q E hr h => ?_)
  · obtain ⟨_, rfl, _⟩ := h
    rfl
  · obtain ⟨t, rfl, tl, pl, k⟩ := h
    have nd := scLWd.nd
    refine ⟨_, pss_one (ps_ret (pe_and (pe_chain op_le op_le pe_int (pe_callB call_len_str (by rfl) T.len PySem.boot_len (pa_cons (pv 0) pa_nil)) pe_int) (pe_one (pe_cmpR (r := rEqD K) (by exact op_eqD hr.units) (pe_lc (own := [("_law_sign", 1)]) (wi := iStr (tVar 0)) (g := gName 1) (tt := tNot (tB (tCall spLSg [] E0 (tCons (tVar 1) tNil)))) rfl nd (by exact pi_str (pv 0)) (by refine blkOk_by (own := [("_law_sign", 1)]) (N := ["_law_word", "_law_sign"]) (sc := defScope sLWd) ?_; decide +kernel)
      (fun _ _ _ _ _ => pg_name (i := 1) nd rfl (Or.inl rfl)) (fun _ _ _ _ _ => pts_one (pt_not (pt_val (pe_call GS hr (by rfl) gS kS bS .nil pass0 (pa_cons (pv 1) pa_nil))))) (fun _ _ _ _ _ => pv 1)) (pe_lst pa_nil) (nomark _))))), ?_⟩
    have z := el_signsF (σ := start ["_law_word", "_law_sign"] [.str t]) (H := H) (tl := tVar 0) (te := tVar 1) (tt := tNot (tB (tCall spLSg [] E0 (tCons (tVar 1) tNil)))) (j := 1) (vs := [1]) (z := t) (fun c => !sgB c) (ev_var rfl) (by omega) (fun _ => rfl) (fun c H1 x1 mc => et_not (et_B (ev_call (ea_cons (ev_var rfl) ea_nil) fun H2 x2 Q2 q2 E2 => ⟨c, rfl, by
        obtain ⟨d, _, rfl⟩ := List.mem_map.mp mc
        show 1 ≤ 1000
        decide, q2⟩))) (fun c H1 x1 mc => ev_var rfl)
    have y := KU.ev_eqNil (K := K) z (fun u hu => by
      obtain ⟨c, hc, rfl⟩ := List.mem_map.mp ((List.mem_filter.mp hu).1)
      exact plain_strOk fun d hd => by rw [show d = c by simpa using hd]; exact pl c hc)
    rw [odd_none] at y
    refine s_ret (v := .bl (isWordB t sSIGNS 3)) (ev_is (ev_andV (ev_chainI ev_c (ev_lenS (ev_var rfl) (by rw [sizeLine_eq]; omega)) ev_c) fun _ => y) ?_) fun H1 x1 => k H1 x1
    unfold isWordB
    rw [Bool.and_comm]
theorem ok_lmt {f : Addr} {fd : FuncData} (F : Fun K "_law_meets" "_law_meets" sLMt f fd) (T : Free mg) : FnOk P w K mg base CX0 1 f fd ["_law_word", "_law_told"] spLMt := by
  refine F.ok scLMt (fun vs H Q E h => ?_) (fun cdv A outer s H vs Q E hr h => ?_)
  · obtain ⟨_, _, _, rfl, _⟩ := h
    rfl
  · obtain ⟨t, p, us, rfl, hp, tl, few, each, k⟩ := h
    have nd := scLMt.nd
    refine ⟨_, pss_one (ps_ret (pe_cmpR (r := rNeD K) (by exact op_neD hr.units) (pe_lc (own := [("_law_one", 2)]) (wi := iList K (tVar 1)) (g := gName 2) (tt := tOr (tTest (tOp rEq (L2.tSl rSlS (tVar 2) tNoPart (tPart (tCB rLenStr (tCons (tVar 0) tNil)))) (tVar 0))) (tTest (tOp rEq (L2.tSl rSlS (tVar 0) tNoPart (tPart (tCB rLenStr (tCons (tVar 2) tNil)))) (tVar 2)))) rfl nd (by exact pi_list (pv 1)) (by refine blkOk_by (own := [("_law_one", 2)]) (N := nLMt) (sc := defScope sLMt) ?_; decide +kernel)
      (fun _ _ _ _ _ => pg_name (i := 2) nd rfl (Or.inl rfl)) (fun _ _ _ _ _ => pts_one (PW.pt (pw_or (pt_cmpR op_eq (pe_slice sl_str (pv 2) po_none (po_some (pe_callB call_len_str (by rfl) T.len PySem.boot_len (pa_cons (pv 0) pa_nil)))) (pv 0) (nomark _)) (pw_or1 (pt_cmpR op_eq (pe_slice sl_str (pv 0) po_none (po_some (pe_callB call_len_str (by rfl) T.len PySem.boot_len (pa_cons (pv 2) pa_nil)))) (pv 2) (nomark _)))))) (fun _ _ _ _ _ => pv 2)) (pe_lst pa_nil) (nomark _))), ?_⟩
    have z := el_fmL (K := K) (σ := start nLMt [.str t, .ref p]) (H := H) (te := tVar 2) (t := tOr (tTest (tOp rEq (L2.tSl rSlS (tVar 2) tNoPart (tPart (tCB rLenStr (tCons (tVar 0) tNil)))) (tVar 0))) (tTest (tOp rEq (L2.tSl rSlS (tVar 0) tNoPart (tPart (tCB rLenStr (tCons (tVar 2) tNil)))) (tVar 2)))) (tl := tVar 1) (j := 2) (vs := [2]) (a := p) (xs := us.map V.str) (onSB (alikeB t)) (onS V.str) (ev_var rfl) (sq_of hp) (by rw [List.length_map]; omega) (fun _ => rfl) (fun x H1 x1 mx => by
      obtain ⟨u, mu, rfl⟩ := mem_str mx
      have lu := (each u mu).1
      refine et_is (et_or (et_test (ev_op (ev_cutTo (ev_var rfl) (ev_lenS (ev_var rfl) (by rw [sizeLine_eq]; omega)) lu) (ev_var rfl) (rv_eq rfl))) fun _ => et_test (ev_op (ev_cutTo (ev_var rfl) (ev_lenS (ev_var rfl) (by rw [sizeLine_eq]; omega)) tl) (ev_var rfl) (rv_eq rfl))) ?_
      rw [cut_begins, cut_begins]
      show _ = alikeB t u
      rw [Bool.eq_iff_iff, Bool.or_eq_true, decide_eq_true_eq, decide_eq_true_eq, alike_iff]
      exact Or.comm) (fun x H1 x1 mx _ => by
      obtain ⟨u, mu, rfl⟩ := mem_str mx
      exact ev_var rfl)
    rw [fm_str] at z
    refine s_ret (v := .bl (us.any (alikeB t))) (ev_is (ev_opPP (r := rNeD K) (up_isSL (us.filter (alikeB t))) (fun H1 x1 Q1 q1 => z H1 x1 Q1 fun p H2 hp x2 e => q1 _ H2 x2 ⟨p, rfl, e⟩) (es_lst (ws := []) ea_nil (by decide)) fun x y H1 x1 ⟨a, e1, h1⟩ ⟨b, e2, h2⟩ => by
      subst e1 e2
      exact rv_neL (K := K) (a := us.filter (alikeB t)) (b := []) h1 h2 (fun u hu => (each u ((List.mem_filter.mp hu).1)).2) (fun u hu => by cases hu)) ?_) fun H1 x1 => k H1 x1
    refine congrArg V.bl ?_
    rw [Bool.eq_iff_iff, Bool.not_eq_true', decide_eq_false_iff_not, List.filter_eq_nil_iff, List.any_eq_true]
    simp
end
end K02

set_option Elab.async false
set_option linter.all false
set_option maxRecDepth 100000
set_option maxHeartbeats 4000000
/-! The law's own look at the words of a text -/
namespace K02
open PySem PySem.Spec PyProof.Rows L2 Evl KU
abbrev sLWr : Stmt := topR 34
abbrev nLWr : List Str := ["_law_words", "_law_last", "_law_told", "_law_at"]
theorem scLWr : FnScope nLWr ["_law_words"] (defScope sLWr) := ⟨rfl, rfl, rfl, by decide +kernel, rfl, by decide +kernel, by decide +kernel⟩
def wrongV (ws : List Str) : V := match readM ws with
  | .error n => .int (n : Int)
  | .ok _ => .non
def spLWr : Sp := fun vs H Q _ => ∃ (a : Addr) (ws : List Str), vs = [.ref a] ∧ H a = some (.lst (ws.map V.str)) ∧ ws ≠ [] ∧ ws.length ≤ 2000 ∧ (∀ w ∈ ws, w.length ≤ 1000 ∧ PlainS w) ∧ RetV (wrongV ws) H Q
section
variable {K : PySem.W.Frag} {σ : L2.St} {H : Hp} {te ta tb tl : TE}
theorem inV_strs (x : Str) (us : List Str) : inV (.str x) (us.map V.str) = decide (x ∈ us) := by
  unfold inV
  rw [List.any_map, Bool.eq_iff_iff, List.any_eq_true, decide_eq_true_eq]
  constructor
  · rintro ⟨u, hu, e⟩
    have e : (u == x) = true := e
    rw [← (beq_iff_eq.mp e)]
    exact hu
  · intro h
    exact ⟨x, h, beq_iff_eq.mpr rfl⟩
theorem flat_strs (us : List Str) : (us.map V.str).all flatV = true := by
  rw [List.all_map, List.all_eq_true]
  exact fun _ _ => rfl
theorem ev_ninSL {x : Str} {us : List Str} (ha : Ev ta σ H (.str x)) (hb : EvP tb σ H (IsSL us)) : Ev (tOp (rIn K true) ta tb) σ H (.bl (!decide (x ∈ us))) := fun H1 x1 Q q =>
  ha H1 x1 _ fun H2 x2 => hb H2 (x1.trans x2) _ fun v H3 x3 ⟨p, e, hp⟩ => by
    subst e
    refine ⟨p, _, rfl, .inl (sq_of hp), rfl, flat_strs us, ?_⟩
    rw [inV_strs]
    exact q H3 (x2.trans x3)
theorem ev_mod2 {n : Nat} (h : Ev ta σ H (.int (n : Int))) : Ev (tOp rModI ta (tC (.int 2))) σ H (.int ((n % 2 : Nat) : Int)) := ev_op h ev_c fun H1 x1 Q q => ⟨(n : Int), 2, rfl, rfl, (show (0 : Int) < 2 by decide), by
  have e : (n : Int) % 2 = ((n % 2 : Nat) : Int) := by omega
  show Q (.int ((n : Int) % 2)) H1
  rw [e]
  exact q H1 (Ex.refl _)⟩
theorem ev_isNat {n m : Nat} (h : Ev ta σ H (.int (n : Int))) : Ev (tOp rEq ta (tC (.int (m : Int)))) σ H (.bl (decide (n = m))) := ev_is (ev_op h ev_c (rv_eq rfl)) (congrArg V.bl (by
  rw [Bool.eq_iff_iff, decide_eq_true_eq, decide_eq_true_eq]
  exact ⟨fun z => by injection z with z; omega, fun z => by rw [z]⟩))
theorem ev_int1 {n : Int} (h : Ev ta σ H (.int n)) : Ev (tCB rInt1 (tCons ta tNil)) σ H (.int n) := ev_cb (ea_cons h ea_nil) fun H1 x1 Q q => .inl ⟨_, rfl, q H1 (Ex.refl _)⟩
end
theorem go_get {ws : List Str} {j : Nat} (lt : j < ws.length) (last : Str) : goB ws j last = (sgB ws[j] && ltS last ws[j]) := by
  unfold goB
  rw [word_at lt]
/-- where the loop stands -/
def LoopI (ws : List Str) (i : Nat) (last : Str) (qs : List (Str × Str)) : Prop :=
  (i = 2 * qs.length ∧ Asc last qs ∧ moreC (ws.drop (1 + i)) (1 + i) last qs = moreC (ws.drop 1) 1 "" []) ∨
  (i = 2 * qs.length + 1 ∧ ∃ prev, ∃ lt : i < ws.length, Asc prev qs ∧ goB ws i prev = true ∧ last = ws[i] ∧ moreC (ws.drop i) i prev qs = moreC (ws.drop 1) 1 "" [])
theorem wrong_stop {ws : List Str} {qs : List (Str × Str)} {at_ : Nat} (h0 : wordAt ws 0 = .str "code") (e : moreC (ws.drop 1) 1 "" [] = .ok (qs, at_)) (z : qs = [] → at_ = 1) (lt : at_ < ws.length) : wrongV ws = .int (at_ : Int) := by
  unfold wrongV readM
  rw [if_pos h0, e]
  dsimp only
  by_cases n : qs = []
  · rw [if_pos n, z n]
  · rw [if_neg n, if_pos lt]
theorem wrong_err {ws : List Str} {n : Nat} (h0 : wordAt ws 0 = .str "code") (e : moreC (ws.drop 1) 1 "" [] = .error n) : wrongV ws = .int (n : Int) := by
  unfold wrongV readM
  rw [if_pos h0, e]
theorem wrong_end {ws : List Str} {qs : List (Str × Str)} {at_ : Nat} (h0 : wordAt ws 0 = .str "code") (e : moreC (ws.drop 1) 1 "" [] = .ok (qs, at_)) (ge : ws.length ≤ at_) : wrongV ws = if qs = [] then .int 1 else .non := by
  unfold wrongV readM
  rw [if_pos h0, e]
  dsimp only
  by_cases n : qs = []
  · rw [if_pos n, if_pos n]
    rfl
  · rw [if_neg n, if_neg n, if_neg (by omega)]
section
variable {P : Program} {w : World} {K : PySem.W.Frag} {mg : Str → Option Value} {base : Heap}
theorem ok_lwr {f fS fW fM : Addr} {fd fdS fdW fdM : FuncData} (F : Fun K "_law_wrong" "_law_wrong" sLWr f fd) (T : Free mg)
    (GS : FnOk P w K mg base CX0 1 fS fdS ["_law_word"] spLSg) (bS : Binds K fdS ["_law_word"] []) (gS : mg "_law_is_sign" = some (.ref fS)) (kS : PySem.W.keepIn K (.ref fS) = true)
    (GW : FnOk P w K mg base CX0 2 fW fdW ["_law_word"] spLWd) (bW : Binds K fdW ["_law_word"] []) (gW : mg "_law_is_word" = some (.ref fW)) (kW : PySem.W.keepIn K (.ref fW) = true)
    (GM : FnOk P w K mg base CX0 1 fM fdM ["_law_word", "_law_told"] spLMt) (bM : Binds K fdM ["_law_word", "_law_told"] []) (gM : mg "_law_meets" = some (.ref fM)) (kM : PySem.W.keepIn K (.ref fM) = true) :
    FnOk P w K mg base CX0 3 f fd ["_law_words"] spLWr := by
  refine F.ok scLWr (fun vs H Q E h => ?_) (fun cdv A outer s H vs Q E hr h => ?_)
  · obtain ⟨_, _, rfl, _⟩ := h
    rfl
  · obtain ⟨a, ws, rfl, ha, ne, few, each, k⟩ := h
    have nd := scLWr.nd
    refine ⟨_, pss_cons (ps_if (pt_cmpR (r := rIn K true) (by exact op_notIn_seq) (pe_ix (r := rIxL K) (by exact ix_list) (pv 0) pe_int (fun _ _ => rfl)) (pe_lst (pa_cons pe_str (pa_cons pe_str pa_nil))) (by rfl)) (pss_one (ps_ret pe_int)) pss_nil)
      (pss_cons (ps_if (pt_cmpR op_eq (pe_ix (r := rIxL K) (by exact ix_list) (pv 0) pe_int (fun _ _ => rfl)) pe_str (nomark _))
        (pss_cons (ps_if (PW.pt (pw_or (pt_cmpR op_lt (pe_callB call_len_seq (by rfl) T.len PySem.boot_len (pa_cons (pv 0) pa_nil)) pe_int (nomark _)) (pw_or1 (pt_not (pt_val (pe_call GS (hr.mono (by decide)) (by rfl) gS kS bS .nil pass0 (pa_cons (pe_ix (r := rIxL K) (by exact ix_list) (pv 0) pe_int (fun _ _ => rfl)) pa_nil))))))) (pss_one (ps_ret pe_int)) pss_nil)
        (pss_one (ps_ret (pe_ifExp (pt_cmpR op_gt (pe_callB call_len_seq (by rfl) T.len PySem.boot_len (pa_cons (pv 0) pa_nil)) pe_int (nomark _)) pe_int pe_non)))) pss_nil)
      (pss_cons (ps_par (i := 1) (j := 2) (by rfl) nd rfl rfl (by decide) rfl rfl (pa_cons pe_str (pa_cons (pe_lst pa_nil) pa_nil)) (by rfl))
      (pss_cons (ps_for PassesOwn.never rfl (pi_range2 rfl T.range (pa_cons pe_int (pa_cons (pe_callB call_len_seq (by rfl) T.len PySem.boot_len (pa_cons (pv 0) pa_nil)) pa_nil))) (pg_name (i := 3) nd rfl (.inl rfl))
        (pss_one (ps_if (pt_cmpR op_eq (pe_op op_mod (pe_callTy call_int1 (by rfl) T.int (by decide +kernel) (pa_cons (pv 3) pa_nil)) pe_int) pe_int (nomark _))
          (pss_cons (ps_if (PW.pt (pw_or (pt_not (pt_val (pe_call GS (hr.mono (by decide)) (by rfl) gS kS bS .nil pass0 (pa_cons (pe_ix (r := rIxL K) (by exact ix_list) (pv 0) (pv 3) (fun _ _ => rfl)) pa_nil)))) (pw_or1 (pt_cmpR (r := rLeS) (by exact op_leS) (pe_ix (r := rIxL K) (by exact ix_list) (pv 0) (pv 3) (fun _ _ => rfl)) (pv 1) (nomark _))))) (pss_one (ps_ret (pv 3))) pss_nil)
          (pss_one (ps_set (i := 1) nd rfl (.inl rfl) (pe_ix (r := rIxL K) (by exact ix_list) (pv 0) (pv 3) (fun _ _ => rfl)))))
          (pss_cons (ps_if (PW.pt (pw_or (pt_not (pt_val (pe_call GW hr (by rfl) gW kW bW .nil pass0 (pa_cons (pe_ix (r := rIxL K) (by exact ix_list) (pv 0) (pv 3) (fun _ _ => rfl)) pa_nil)))) (pw_or1 (pt_val (pe_call GM (hr.mono (by decide)) (by rfl) gM kM bM .nil pass0 (pa_cons (pe_ix (r := rIxL K) (by exact ix_list) (pv 0) (pv 3) (fun _ _ => rfl)) (pa_cons (pv 2) pa_nil))))))) (pss_one (ps_ret (pv 3))) pss_nil)
          (pss_one (ps_expr (pe_bm PySem.F.plainAttrs_list PySem.F.slot_list_append PySem.F.type_list_append mt_append (pv 2) (pa_cons (pe_ix (r := rIxL K) (by exact ix_list) (pv 0) (pv 3) (fun _ _ => rfl)) pa_nil))))))))
      (pss_one (ps_ret (pe_ifExp (PW.pt (pw_or (pt_cmpR (r := rEqD K) (by exact op_eqD hr.units) (pv 2) (pe_lst pa_nil) (nomark _)) (pw_or1 (pt_cmpR op_eq (pe_op op_mod (pe_callB call_len_seq (by rfl) T.len PySem.boot_len (pa_cons (pv 0) pa_nil)) pe_int) pe_int (nomark _))))) (pe_callB call_len_seq (by rfl) T.len PySem.boot_len (pa_cons (pv 0) pa_nil)) pe_non)))))), ?_⟩
    have l0 : 0 < ws.length := by
      cases ws with
      | nil => exact absurd rfl ne
      | cons a r => exact Nat.succ_pos _
    have item : ∀ {G : Hp} {σ : L2.St} {te : TE} {i : Nat}, G a = some (.lst (ws.map V.str)) → σ[0]? = some (some (.ref a)) → Ev te σ G (.int (i : Int)) → (h : i < ws.length) → Ev (tOp (rIxL K) (tVar 0) te) σ G (.str ws[i]) := fun hG es et h =>
      ev_op (ev_var es) et (rv_ixL (sq_of hG) (atI_nat (by rw [List.getElem?_map, List.getElem?_eq_getElem h]; rfl)))
    have len_ : ∀ {G : Hp} {σ : L2.St}, G a = some (.lst (ws.map V.str)) → σ[0]? = some (some (.ref a)) → Ev (tCB (rLenS K) (tCons (tVar 0) tNil)) σ G (.int (ws.length : Int)) := fun hG es => ev_is (ev_len (ev_var es) (sq_of hG)) (by rw [List.length_map])
    have w0 := word_at l0
    have in0 : decide (ws[0] ∈ [("put" : Str), "code"]) = (decide (ws[0] = "put") || decide (ws[0] = "code")) := by
      rw [Bool.eq_iff_iff, Bool.or_eq_true, decide_eq_true_eq, decide_eq_true_eq, decide_eq_true_eq]
      simp
    refine q_when (et_test (ev_ninSL (K := K) (us := [("put" : Str), "code"]) (item (i := 0) ha rfl ev_c l0) (es_lst (ws := [("put" : Str), "code"]) (ea_cons ev_c (ea_cons ev_c ea_nil)) (by decide)))) (fun hb H1 x1 => ?_) fun hb H1 x1 => ?_
    · rw [in0, Bool.not_eq_true', Bool.or_eq_false_iff, decide_eq_false_iff_not, decide_eq_false_iff_not] at hb
      refine s_ret (v := wrongV ws) (ev_is ev_c ?_) fun H2 x2 => k H2 (x1.trans x2)
      unfold wrongV readM
      rw [w0, if_neg (fun z => hb.2 (V.str.inj z)), if_neg (fun z => hb.1 (V.str.inj z))]
      rfl
    have ha1 := x1 _ _ ha
    refine q_when (b := decide (ws[0] = "put")) (et_test (ev_is (ev_op (item (i := 0) ha1 rfl ev_c l0) ev_c (rv_eq rfl)) (congrArg V.bl (by
      rw [Bool.eq_iff_iff, decide_eq_true_eq, decide_eq_true_eq]
      exact ⟨fun z => V.str.inj z, fun z => by rw [z]⟩)))) (fun hp H2 x2 => ?_) fun hp H2 x2 => ?_
    · have hp : ws[0] = "put" := of_decide_eq_true hp
      have n0 : wordAt ws 0 ≠ .str "code" := by
        rw [w0, hp]
        exact fun z => absurd (V.str.inj z) (by decide +kernel)
      have p0 : wordAt ws 0 = .str "put" := by rw [w0, hp]
      have ha2 := x2 _ _ ha1
      have x12 := x1.trans x2
      refine q_when (b := !isSgnV (wordAt ws 1) sSIGNS) (et_is (et_or (et_test (ev_op (len_ ha2 rfl) ev_c rv_I0)) (b := !isSgnV (wordAt ws 1) sSIGNS) fun z => ?_) ?_) (fun hb H3 x3 => ?_) fun hb H3 x3 => ?_
      · have l1 : 1 < ws.length := by
          have := of_decide_eq_false z
          omega
        rw [word_at l1]
        refine et_not (et_B (ev_call (ea_cons (item (i := 1) ha2 rfl ev_c l1) ea_nil) fun G x Q1 q1 E1 => ⟨ws[1], rfl, (each _ (List.getElem_mem _)).1, q1⟩))
      · rcases Nat.lt_or_ge 1 ws.length with lt | ge
        · rw [show decide ((ws.length : Int) < 2) = false from decide_eq_false (by omega), Bool.false_or]
        · rw [show decide ((ws.length : Int) < 2) = true from decide_eq_true (by omega), Bool.true_or, word_none ge]
          rfl
      · refine s_ret (v := wrongV ws) (ev_is ev_c ?_) fun H4 x4 => k H4 (x12.trans (x3.trans x4))
        have hb : isSgnV (wordAt ws 1) sSIGNS = false := by simpa using hb
        unfold wrongV readM
        rw [if_neg n0, if_pos p0]
        rcases word_val ws 1 with ⟨t, _, e⟩ | e
        · rw [e] at hb ⊢
          dsimp only
          rw [if_neg (by rw [show sgB t = false from hb]; decide)]
          rfl
        · rw [e]
          rfl
      · have hb : isSgnV (wordAt ws 1) sSIGNS = true := by simpa using hb
        obtain ⟨t, _, e⟩ : ∃ t ∈ ws, wordAt ws 1 = .str t := by
          rcases word_val ws 1 with h | e
          · exact h
          · rw [e] at hb
            cases hb
        have ha3 := x3 _ _ ha2
        refine s_ret (v := wrongV ws) (ev_if (b := decide (2 < ws.length)) (et_is (et_test (ev_op (len_ ha3 rfl) ev_c rv_I0)) (by rw [Bool.eq_iff_iff, decide_eq_true_eq, decide_eq_true_eq]; omega)) (fun z => ev_is ev_c ?_) fun z => ev_is ev_c ?_) fun H4 x4 => k H4 (x12.trans (x3.trans x4))
        · unfold wrongV readM
          rw [if_neg n0, if_pos p0, e]
          dsimp only
          rw [e] at hb
          rw [if_pos (show sgB t = true from hb), if_pos (of_decide_eq_true z)]
          rfl
        · unfold wrongV readM
          rw [if_neg n0, if_pos p0, e]
          dsimp only
          rw [e] at hb
          rw [if_pos (show sgB t = true from hb), if_neg (of_decide_eq_false z)]
    -- a code
    have hc : ws[0] = "code" := by
      rw [in0] at hb
      have hp : decide (ws[0] = "put") = false := hp
      rw [hp] at hb
      simpa using hb
    have h0 : wordAt ws 0 = .str "code" := by rw [w0, hc]
    have ha2 := x2 _ _ ha1
    have x12 := x1.trans x2
    refine ⟨by show 0 ≤ sizeLine; decide, fun L hL => ⟨_, _, rfl, ?_⟩⟩
    have x3 : Ex H2 (upd H2 L (.lst [])) := Ex.new hL
    have e3 : upd H2 L (.lst []) L = some (.lst ((([] : List (Str × Str)).map (·.2)).map V.str)) := upd_same
    have La : L ≠ a := (ne_of_none ha2 hL).symm
    have nH : ∀ b o, H b = some o → b ≠ L := fun b o hb => ne_of_none (x12 _ _ hb) hL
    have x03 := x12.trans x3
    have ha3 := x3 _ _ ha2
    generalize upd H2 L (.lst []) = H3 at x3 e3 x03 ha3 ⊢
    refine (?_ : tSeq _ _ _ [some (.ref a), some (.str ""), some (.ref L), none] H3)
    have atn : ∀ i : Nat, (1 : Int) + (i : Int) = ((1 + i : Nat) : Int) := fun i => by omega
    refine q_forR2 (lo := 1) (n := (ws.length : Int)) (ea_cons ev_c (ea_cons (len_ ha3 rfl) ea_nil)) ⟨by decide, by decide, by omega, by omega⟩
      (fun i σ' H' => ∃ (last : Str) (qs : List (Str × Str)) (y : Option V), σ' = [some (.ref a), some (.str last), some (.ref L), y] ∧ Ex H H' ∧ H' a = some (.lst (ws.map V.str)) ∧ H' L = some (.lst ((qs.map (·.2)).map V.str)) ∧ LoopI ws i last qs)
      (fun H4 x4 => ⟨"", [], none, rfl, x03.trans x4, x4 _ _ ha3, x4 _ _ e3, .inl ⟨rfl, Asc.nil, rfl⟩⟩) (fun i σ' H' hi q => ?_) fun σ' H' q => ?_
    · obtain ⟨last, qs, y, rfl, xH, ha4, eL, inv⟩ := q
      have lt : 1 + i < ws.length := by omega
      dsimp only [List.set_cons_succ, List.set_cons_zero]
      rw [atn i]
      have each_i := each _ (List.getElem_mem lt)
      have wE : ∀ {G : Hp}, Ex H' G → Ev (tOp (rIxL K) (tVar 0) (tVar 3)) [some (.ref a), some (.str last), some (.ref L), some (.int ((1 + i : Nat) : Int))] G (.str ws[1 + i]) := fun x => item (i := 1 + i) (x _ _ ha4) rfl (ev_var rfl) lt
      refine s_if (b := decide ((1 + i) % 2 = 1)) (et_test (ev_isNat (m := 1) (ev_mod2 (ev_int1 (ev_var rfl))))) (fun par G x => ?_) fun par G x => ?_
      · -- a sign
        have par : (1 + i) % 2 = 1 := of_decide_eq_true par
        obtain ⟨il, A, em⟩ : i = 2 * qs.length ∧ Asc last qs ∧ moreC (ws.drop (1 + i)) (1 + i) last qs = moreC (ws.drop 1) 1 "" [] := by
          rcases inv with h | ⟨h, _⟩
          · exact h
          · omega
        have xG := xH.trans x
        refine q_when (b := !goB ws (1 + i) last) (et_is (et_or (et_not (a := sgB ws[1 + i]) (et_B (ev_call (ea_cons (wE x) ea_nil) fun G2 y2 Q1 q1 E1 => ⟨ws[1 + i], rfl, each_i.1, q1⟩))) fun _ => et_test (ev_leS (wE x) (ev_var rfl))) ?_) (fun hb G2 y2 => ?_) fun hb G2 y2 => ?_
        · rw [go_get lt]
          unfold ltS
          cases sgB ws[1 + i] <;> rfl
        · have st := more_stop (qs := qs) (show goB ws (1 + i) last = false by simpa using hb)
          refine s_ret (v := wrongV ws) (ev_is (ev_var rfl) ?_) fun G3 y3 => k G3 (xG.trans (y2.trans y3))
          rw [em] at st
          exact (wrong_stop h0 st (fun z => by rw [z] at il; simp at il; omega) lt).symm
        · have go : goB ws (1 + i) last = true := by simpa using hb
          refine s_asg (wE (x.trans y2)) fun G3 y3 => ?_
          dsimp only [List.set_cons_succ, List.set_cons_zero]
          have y23 := x.trans (y2.trans y3)
          refine ⟨_, qs, _, rfl, xH.trans y23, y23 _ _ ha4, y23 _ _ eL, .inr ⟨by omega, last, ?_⟩⟩
          have ei : i + 1 = 1 + i := Nat.add_comm _ _
          rw [ei]
          exact ⟨lt, A, go, rfl, em⟩
      · -- a word
        have par : ¬ (1 + i) % 2 = 1 := of_decide_eq_false par
        obtain ⟨il, prev, ilt, A, go, el, em⟩ : i = 2 * qs.length + 1 ∧ ∃ prev, ∃ lt : i < ws.length, Asc prev qs ∧ goB ws i prev = true ∧ last = ws[i] ∧ moreC (ws.drop i) i prev qs = moreC (ws.drop 1) 1 "" [] := by
          rcases inv with ⟨h, _⟩ | h
          · omega
          · exact h
        have xG := xH.trans x
        have qf := A.few
        have st_eq : standsW (wordAt ws (i + 1)) sSIGNS qs = (isWordB ws[1 + i] sSIGNS 3 && !(qs.map (·.2)).any (alikeB ws[1 + i])) := by
          have ei : i + 1 = 1 + i := Nat.add_comm _ _
          rw [ei, word_at lt]
          rfl
        have told : ∀ u ∈ qs.map (·.2), u.length ≤ 1000 ∧ PyData.strOk u = true := fun u hu => by
          obtain ⟨q, hq, rfl⟩ := List.mem_map.mp hu
          obtain ⟨o, _, l3⟩ := word_parts (A.word q hq)
          exact ⟨by omega, ok_over o fun c hc => (signs_small c hc).1⟩
        have wdE : Ev (tCall spLWd [] E0 (tCons (tOp (rIxL K) (tVar 0) (tVar 3)) tNil)) [some (.ref a), some (.str last), some (.ref L), some (.int ((1 + i : Nat) : Int))] G (.bl (isWordB ws[1 + i] sSIGNS 3)) := ev_call (ea_cons (wE x) ea_nil) fun G2 y2 Q1 q1 E1 => ⟨ws[1 + i], rfl, each_i.1, each_i.2, q1⟩
        have mtE : Ev (tCall spLMt [] E0 (tCons (tOp (rIxL K) (tVar 0) (tVar 3)) (tCons (tVar 2) tNil))) [some (.ref a), some (.str last), some (.ref L), some (.int ((1 + i : Nat) : Int))] G (.bl ((qs.map (·.2)).any (alikeB ws[1 + i]))) := ev_call (ea_cons (wE x) (ea_cons (ev_var rfl) ea_nil)) fun G2 y2 Q1 q1 E1 => ⟨ws[1 + i], L, (qs.map fun q : Str × Str => q.2), rfl, y2 _ _ (x _ _ eL), each_i.1, by rw [List.length_map]; omega, told, q1⟩
        refine q_when (b := !standsW (wordAt ws (i + 1)) sSIGNS qs) (et_is (et_or (et_not (et_B wdE)) fun _ => et_B mtE) ?_) (fun hb G2 y2 => ?_) fun hb G2 y2 => ?_
        · rw [st_eq]
          cases isWordB ws[1 + i] sSIGNS 3 <;> cases (qs.map (·.2)).any (alikeB ws[1 + i]) <;> rfl
        · have st : standsW (wordAt ws (i + 1)) sSIGNS qs = false := by simpa using hb
          have bad := more_bad go st
          rw [em] at bad
          refine s_ret (v := wrongV ws) (ev_is (ev_var rfl) ?_) fun G3 y3 => k G3 (xG.trans (y2.trans y3))
          rw [wrong_err h0 bad, Nat.add_comm]
        · have st : standsW (wordAt ws (i + 1)) sSIGNS qs = true := by simpa using hb
          obtain ⟨_, lt2, ego⟩ := more_go go st
          obtain ⟨_, cc⟩ := go_parts go
          rw [Bool.and_eq_true] at cc
          rw [word_at lt2] at st
          have y02 := x.trans y2
          refine ⟨_, rfl, .inl ⟨rfl, _, sq_of (y02 _ _ eL)⟩, ?_⟩
          refine (?_ : tCons _ _ _ G2 _)
          refine (wE y02) G2 (Ex.refl _) _ fun G3 y3 => ?_
          have y03 := y02.trans y3
          refine ⟨L, _, _, rfl, rfl, y03 _ _ eL, by rw [List.length_map, List.length_map, sizeLine_eq]; omega, ?_⟩
          refine ⟨last, qs ++ [(ws[i], ws[i + 1])], _, rfl, fun b o hb => by rw [upd_ne (nH b o hb)]; exact (xH.trans y03) _ _ hb, by rw [upd_ne La.symm]; exact y03 _ _ ha4, ?_, .inl ⟨by rw [List.length_append]; simp; omega, ?_, ?_⟩⟩
          · rw [upd_same, List.map_append, List.map_append]
            have ei : ws[1 + i] = ws[i + 1] := by congr 1; omega
            rw [ei]
            rfl
          · rw [el]
            exact A.snoc cc.1 cc.2 st
          · rw [el, ← em, ego]
            have ei : 1 + (i + 1) = i + 2 := by omega
            rw [ei]
    · obtain ⟨last, qs, y, rfl, xH, ha4, eL, inv⟩ := q
      have nL : ((ws.length : Int) - 1).toNat = ws.length - 1 := by omega
      rw [nL] at inv
      have qf : qs.length ≤ 36 := by
        rcases inv with ⟨_, A, _⟩ | ⟨_, p, _, A, _⟩
        · exact A.few
        · exact A.few
      have uok : ∀ u ∈ qs.map (·.2), PyData.strOk u = true := fun u hu => by
        obtain ⟨q, hq, rfl⟩ := List.mem_map.mp hu
        have wq : isWordB q.2 sSIGNS 3 = true := by
          rcases inv with ⟨_, A, _⟩ | ⟨_, p, _, A, _⟩
          · exact A.word q hq
          · exact A.word q hq
        exact ok_over (word_parts wq).1 fun c hc => (signs_small c hc).1
      have eqN : Ev (tOp (rEqD K) (tVar 2) (tLst tNil)) [some (.ref a), some (.str last), some (.ref L), y] H' (.bl (decide (qs = []))) := ev_is (ev_opPP (r := rEqD K) (up_isSL (qs.map (·.2))) (es_var rfl eL) (es_lst (ws := []) ea_nil (by decide)) fun x y H1 x1 ⟨a, e1, h1⟩ ⟨b, e2, h2⟩ => by
        subst e1 e2
        exact rv_eqL (K := K) (a := qs.map (·.2)) (b := []) h1 h2 uok (fun u hu => by cases hu)) (congrArg V.bl (by
        rw [Bool.eq_iff_iff, decide_eq_true_eq, decide_eq_true_eq]
        exact List.map_eq_nil_iff))
      refine s_ret (v := wrongV ws) (ev_if (b := decide (qs = []) || decide (ws.length % 2 = 0)) (et_or (et_test eqN) fun _ => et_test (ev_isNat (m := 0) (ev_mod2 (len_ ha4 rfl)))) (fun z => ev_is (len_ ha4 rfl) ?_) fun z => ev_is ev_c ?_) fun H5 x5 => k H5 (xH.trans x5)
      · rw [Bool.or_eq_true, decide_eq_true_eq, decide_eq_true_eq] at z
        rcases inv with ⟨il, A, em⟩ | ⟨il, prev, ilt, A, go, el, em⟩
        · have q0 : qs = [] := by
            rcases z with z | z
            · exact z
            · omega
          have ge : ws.length ≤ 1 + (ws.length - 1) := by omega
          rw [List.drop_eq_nil_of_le ge, moreC] at em
          rw [wrong_end h0 em.symm ge, if_pos q0]
          have : ws.length = 1 := by
            rw [q0] at il
            have il : ws.length - 1 = 2 * 0 := il
            omega
          rw [this]
          rfl
        · have bad := more_bad (qs := qs) go (by rw [word_none (by omega)]; rfl)
          rw [em] at bad
          rw [wrong_err h0 bad]
          congr 1
          omega
      · rw [Bool.or_eq_false_iff, decide_eq_false_iff_not, decide_eq_false_iff_not] at z
        rcases inv with ⟨il, A, em⟩ | ⟨il, _⟩
        · have ge : ws.length ≤ 1 + (ws.length - 1) := by omega
          rw [List.drop_eq_nil_of_le ge, moreC] at em
          rw [wrong_end h0 em.symm ge, if_neg z.1]
        · omega
end
end K02

set_option Elab.async false
set_option linter.all false
set_option maxRecDepth 100000
set_option maxHeartbeats 4000000
/-! What the law hears of a text -/
namespace K02
open PySem PySem.Spec PyProof.Rows L2 Evl KU
abbrev sHeard : Stmt := topR 35
abbrev nHeard : List Str := ["_law_text_so", "_law_caught", "error"]
theorem scHeard : FnScope nHeard ["_law_text_so"] (defScope sHeard) := ⟨rfl, rfl, rfl, by decide +kernel, rfl, by decide +kernel, by decide +kernel⟩
theorem takes_len {X : Cx} {W : WX} (t : Takes X W) : Takes X fun cls d σ H => σ.length = X.N.length → W cls d σ H := fun u s' ⟨a, B, sI, pins, σ, H, cls, d, e, I, nb, up, sky, na, os, ag, w⟩ =>
  t u s' ⟨a, B, sI, pins, σ, H, cls, d, e, I, nb, up, sky, na, os, ag, w I.len⟩
/-- a new tuple -/
def NewU (xs : List V) (H : Hp) (Q : VK) : Prop := ∀ p H2, H p = none → Ex H H2 → H2 p = some (.tup xs) → Q (.ref p) H2
/-- the classes that are heard -/
structure HErr11 (K : PySem.W.Frag) (mg : Str → Option Value) (CF CX : Addr) : Prop where
  gF : mg "FlagError" = some (.ref CF)
  gX : mg "BadText" = some (.ref CX)
  xX : ExcC K CX
  nX1 : PySem.W.findIn K (.ref CX) "line" = some none
  nX2 : PySem.W.findIn K (.ref CX) "word" = some none
  tX : PySem.W.exmOne K (.ref CX) (.ref CF) = some true
  iXX : PySem.W.kitOne K (.ref CX) (.ref CX) = some true
def HeardE11 (CX : Addr) (Q : VK) : XK := fun cls d H' => ∃ (dd : Addr) (n : Int), cls = .ref CX ∧ d = some dd ∧ H' dd = some (.xd [("word", .int n), ("line", .int 0)]) ∧ NewU [.int 0, .int n] H' Q
/-- a text, or what is none -/
def spHeard (K : PySem.W.Frag) (C CP : Addr) : Sp := fun vs H Q _ =>
  (∃ t : Str, vs = [.str t] ∧ t.length ≤ 1000 ∧ (∀ w ∈ Txt.split t " ", w.length ≤ 1000) ∧ (∀ n : Nat, readM (Txt.split t " ") = .error n → NewU [.int 0, .int (n : Int)] H Q) ∧
    (∀ m, readM (Txt.split t " ") = .ok m → ∀ p a H', H p = none → Ex H H' → H' p = some (.lst [.ref a]) → MoveAt C CP H' a m → Q (.ref p) H')) ∨
  (∃ v : V, vs = [v] ∧ (∀ H', Ex H H' → ∃ t, TyX K H' v t ∧ PySem.W.kitOne K t (.type "str") = some false) ∧ NewU [.int 0, .int 0] H Q)
section
variable {P : Program} {w : World} {K : PySem.W.Frag} {mg : Str → Option Value} {base : Heap} {D CT C CP CM CF : Addr} {mc : Addr} {mcv : Value}
theorem ok_heard {f fR : Addr} {fd fdR : FuncData} (F : Fun K "_law_heard" "_law_heard" sHeard f fd) (E0' : HErr11 K mg CF CT) (fi : mg "isinstance" = none) (gM : mg "Move" = some (.ref CM)) (cr : ClX.CRead K CM mcv) (cm : ClX.CMet K CM mcv "read" mc fR)
    (FR : FnR P w K mg base (L2.CX P w) 8 fR (spMRead CM CT C CP)) (FX : FnR P w K mg base (L2.CX P w) 8 fR (spMReadX K CM CT)) : FnOk P w K mg base CX0 10 f fd ["_law_text_so"] (spHeard K C CP) := by
  refine F.ok scHeard (fun vs H Q E h => ?_) (fun cdv A outer s H vs Q E hr h => ?_)
  · rcases h with ⟨_, rfl, _⟩ | ⟨_, rfl, _⟩
    · rfl
    · rfl
  have nd := scHeard.nd
  rcases h with ⟨t, rfl, tl, small, kn, ko⟩ | ⟨v, rfl, no, kx⟩
  · refine ⟨_, pss_cons (ps_set (i := 1) nd rfl (.inl rfl) pe_non)
      (pss_cons (ps_try_asK (X := (cxOf CX0 P w K mg base nHeard "_law_heard" (defScope sHeard) f cdv A outer s H E).nox) (c := .ref CF) (i := 2)
        (tb := fun W D σ H => ∃ Ech : XK, (∀ cls d σ' H', Ech cls d H' → σ'.length = 3 → W cls d σ' H') ∧ tRet (tLst (tCons (ClX.tCMeth CM (spMRead CM CT C CP) Ech (tC (.ref CM)) (tCons (tVar 0) tNil)) tNil)) D σ H)
        rfl rfl rfl nd rfl rfl ⟨by rfl, by decide, .inl E0'.gF⟩ (fun W pn xe tk => ?_) (fun a oe cls d pn => pss_one (ps_set (i := 1) nd rfl (.inl rfl) (pv 2))))
      (pss_one (ps_ret (pe_ifExp (pt_val (pe_callB (r := rIsCau K) (id := "isinstance") (by exact call_isCau) (by rfl) fi (by decide +kernel) (pa_cons (pv 1) (pa_cons (pe_glob rfl E0'.gX (v := .ref CT) rfl) pa_nil))))
        (pe_tup (pa_cons (pe_cauF (pv 1)) (pa_cons (pe_cauF (pv 1)) pa_nil))) (pe_tup (pa_cons pe_str pa_nil)))))), ?_⟩
    · refine ⟨fun pins s' σ H' D I h' => ?_⟩
      obtain ⟨Ech, hW, h3⟩ := h'
      exact (pss_one (ps_ret (pe_lst (pa_cons (ClX.pe_cmeth (CX := L2.CX P w) (E := Ech) (pe_glob (v := .ref CM) (by rfl) gM rfl) cr cm FR (hr.mono (by decide)) (passes_call (takes_len tk) fun cls d σ H h z => hW cls d σ H h z) (pa_cons (pv 0) pa_nil)) pa_nil)))).run pins s' σ H' D I h3
    · refine q_asg (v := .non) ev_c fun H1 x1 => ?_
      refine ⟨HeardE11 CT Q, fun cls d σ' H' he hl => ?_, ?_⟩
      · obtain ⟨dd, n, rfl, rfl, hx, k⟩ := he
        obtain ⟨y0, y1, y2, rfl⟩ : ∃ y0 y1 y2, σ' = [y0, y1, y2] := by
          match σ', hl with
          | [y0, y1, y2], _ => exact ⟨y0, y1, y2, rfl⟩
        refine ⟨E0'.tX, fun a na => ⟨.ref a, rfl, fun na' => ?_⟩⟩
        have xG : Ex H' (upd H' a (hxo a (.ref CT) (some dd))) := Ex.new na'
        have at_ : CauAt (upd H' a (hxo a (.ref CT) (some dd))) a CT [("word", .int n), ("line", .int 0)] := ⟨dd, upd_same, xG _ _ hx⟩
        dsimp only [List.set_cons_succ, List.set_cons_zero]
        refine s_retU (xs := [.int 0, .int n]) (fun G5 y5 R r => ?_) fun q G5 hq y5 e5 => k q G5 (fresh_back xG hq) (xG.trans y5) e5
        refine (et_B (ev_isCau E0'.xX (.own CT) at_ E0'.iXX (ev_var rfl))) G5 y5 _ fun G6 y6 => ?_
        rw [if_pos rfl]
        exact eu_tup (ea_cons (ev_cauF E0'.xX E0'.nX1 at_ (by rfl) (ev_var rfl)) (ea_cons (ev_cauF E0'.xX E0'.nX2 at_ (by rfl) (ev_var rfl)) ea_nil)) (by show 2 ≤ 100000; decide) G6 (y5.trans y6) R fun q G7 hq y7 e7 => r q G7 (fresh_back y6 hq) (y6.trans y7) e7
      · refine ⟨rfl, _, rfl, t, rfl, tl, small, fun n hn d H2 x2 e2 => ⟨d, (n : Int), rfl, rfl, e2, fun p H3 hp x3 e3 => kn n hn p H3 (fresh_back (x1.trans x2) hp) ((x1.trans x2).trans x3) e3⟩, fun m hm H2 a x2 A2 => ⟨by show 1 ≤ sizeLine; decide, fun p hp => ?_⟩⟩
        have x3 : Ex H2 (upd H2 p (.lst [.ref a])) := Ex.new hp
        exact ko m hm p a _ (fresh_back (x1.trans x2) hp) ((x1.trans x2).trans x3) upd_same (A2.mono x3)
  · refine ⟨_, pss_cons (ps_set (i := 1) nd rfl (.inl rfl) pe_non)
      (pss_cons (ps_try_asK (X := (cxOf CX0 P w K mg base nHeard "_law_heard" (defScope sHeard) f cdv A outer s H E).nox) (c := .ref CF) (i := 2)
        (tb := fun W D σ H => ∃ Ech : XK, (∀ cls d σ' H', Ech cls d H' → σ'.length = 3 → W cls d σ' H') ∧ tRet (tLst (tCons (ClX.tCMeth CM (spMReadX K CM CT) Ech (tC (.ref CM)) (tCons (tVar 0) tNil)) tNil)) D σ H)
        rfl rfl rfl nd rfl rfl ⟨by rfl, by decide, .inl E0'.gF⟩ (fun W pn xe tk => ?_) (fun a oe cls d pn => pss_one (ps_set (i := 1) nd rfl (.inl rfl) (pv 2))))
      (pss_one (ps_ret (pe_ifExp (pt_val (pe_callB (r := rIsCau K) (id := "isinstance") (by exact call_isCau) (by rfl) fi (by decide +kernel) (pa_cons (pv 1) (pa_cons (pe_glob rfl E0'.gX (v := .ref CT) rfl) pa_nil))))
        (pe_tup (pa_cons (pe_cauF (pv 1)) (pa_cons (pe_cauF (pv 1)) pa_nil))) (pe_tup (pa_cons pe_str pa_nil)))))), ?_⟩
    · refine ⟨fun pins s' σ H' D I h' => ?_⟩
      obtain ⟨Ech, hW, h3⟩ := h'
      exact (pss_one (ps_ret (pe_lst (pa_cons (ClX.pe_cmeth (CX := L2.CX P w) (E := Ech) (pe_glob (v := .ref CM) (by rfl) gM rfl) cr cm FX (hr.mono (by decide)) (passes_call (takes_len tk) fun cls d σ H h z => hW cls d σ H h z) (pa_cons (pv 0) pa_nil)) pa_nil)))).run pins s' σ H' D I h3
    · refine q_asg (v := .non) ev_c fun H1 x1 => ?_
      refine ⟨HeardE11 CT Q, fun cls d σ' H' he hl => ?_, ?_⟩
      · obtain ⟨dd, n, rfl, rfl, hx, k⟩ := he
        obtain ⟨y0, y1, y2, rfl⟩ : ∃ y0 y1 y2, σ' = [y0, y1, y2] := by
          match σ', hl with
          | [y0, y1, y2], _ => exact ⟨y0, y1, y2, rfl⟩
        refine ⟨E0'.tX, fun a na => ⟨.ref a, rfl, fun na' => ?_⟩⟩
        have xG : Ex H' (upd H' a (hxo a (.ref CT) (some dd))) := Ex.new na'
        have at_ : CauAt (upd H' a (hxo a (.ref CT) (some dd))) a CT [("word", .int n), ("line", .int 0)] := ⟨dd, upd_same, xG _ _ hx⟩
        dsimp only [List.set_cons_succ, List.set_cons_zero]
        refine s_retU (xs := [.int 0, .int n]) (fun G5 y5 R r => ?_) fun q G5 hq y5 e5 => k q G5 (fresh_back xG hq) (xG.trans y5) e5
        refine (et_B (ev_isCau E0'.xX (.own CT) at_ E0'.iXX (ev_var rfl))) G5 y5 _ fun G6 y6 => ?_
        rw [if_pos rfl]
        exact eu_tup (ea_cons (ev_cauF E0'.xX E0'.nX1 at_ (by rfl) (ev_var rfl)) (ea_cons (ev_cauF E0'.xX E0'.nX2 at_ (by rfl) (ev_var rfl)) ea_nil)) (by show 2 ≤ 100000; decide) G6 (y5.trans y6) R fun q G7 hq y7 e7 => r q G7 (fresh_back y6 hq) (y6.trans y7) e7
      · exact ⟨rfl, _, rfl, v, rfl, fun H2 x2 => no H2 (x1.trans x2), fun d H2 x2 e2 => ⟨d, 0, rfl, rfl, e2, fun p H3 hp x3 e3 => kx p H3 (fresh_back (x1.trans x2) hp) ((x1.trans x2).trans x3) e3⟩⟩
end
end K02

set_option Elab.async false
set_option linter.all false
set_option maxRecDepth 100000
set_option maxHeartbeats 4000000
/-! The law's right: what is heard of a text is what must be heard -/
namespace K02
open PySem PySem.Spec PyProof.Rows L2 Evl KU
abbrev sRight : Stmt := topR 36
abbrev nRight : List Str := ["_law_text_so", "_law_at", "_law_heard_here"]
theorem scRight : FnScope nRight ["_law_text_so"] (defScope sRight) := ⟨rfl, rfl, rfl, by decide +kernel, rfl, by decide +kernel, by decide +kernel⟩
theorem shows_pair : ∀ n : Nat, n < 402 → shows (.tuple [.int 0, .int (n : Int)]) = true := by decide +kernel
theorem mem_jn {c x : Nat} : ∀ {ps : List (List Nat)}, x ∈ SJ.jn c ps → x = c ∨ ∃ p ∈ ps, x ∈ p
  | [], h => by cases h
  | [a], h => by
    rw [SJ.jn_one] at h
    exact .inr ⟨a, List.mem_cons_self, h⟩
  | a :: b :: r, h => by
    rw [SJ.jn_two] at h
    rcases List.mem_append.mp h with h | h
    · exact .inr ⟨a, List.mem_cons_self, h⟩
    · rcases List.mem_cons.mp h with h | h
      · exact .inl h
      · rcases mem_jn h with h | ⟨p, m, h⟩
        · exact .inl h
        · exact .inr ⟨p, List.mem_cons_of_mem _ m, h⟩
theorem jn_mem {c x : Nat} : ∀ {ps : List (List Nat)} {p : List Nat}, p ∈ ps → x ∈ p → x ∈ SJ.jn c ps
  | [a], p, m, h => by
    rw [SJ.jn_one, ← List.mem_singleton.mp m]
    exact h
  | a :: b :: r, p, m, h => by
    rw [SJ.jn_two]
    rcases List.mem_cons.mp m with rfl | m
    · exact List.mem_append_left _ h
    · exact List.mem_append_right _ (List.mem_cons_of_mem _ (jn_mem m h))
theorem jn_len {c : Nat} : ∀ {ps : List (List Nat)}, ps ≠ [] → (SJ.jn c ps).length + 1 = (ps.map (·.length)).sum + ps.length
  | [a], _ => by
    rw [SJ.jn_one]
    simp
  | a :: b :: r, _ => by
    rw [SJ.jn_two]
    have ih := jn_len (c := c) (ps := b :: r) (by simp)
    simp only [List.length_append, List.length_cons, List.map_cons, List.sum_cons] at ih ⊢
    omega
theorem split_jn (t : Str) : t.cps.toList = SJ.jn 32 (SJ.lists (Txt.split t " ")) := by
  have e' : (Txt.join ⟨#[32]⟩ (Txt.split t " ")) = t := SJ.join_of 32 t
  have c := SJ.tjoin_cps 32 (Txt.split t " ")
  rw [e'] at c
  exact c
theorem split_nn (t : Str) : Txt.split t " " ≠ [] := SJ.split_ne t 32
/-- how much the words take, each with its stroke -/
def wt (ws : List Str) : Nat := (ws.map (·.length)).sum + ws.length
theorem split_wt (t : Str) : wt (Txt.split t " ") = t.length + 1 := by
  have z := jn_len (c := 32) (ps := SJ.lists (Txt.split t " ")) (fun z => split_nn t (List.map_eq_nil_iff.mp z))
  rw [← split_jn, len_cps] at z
  unfold wt
  unfold SJ.lists at z
  rw [List.map_map, List.length_map] at z
  have e : List.map ((fun x : List Nat => x.length) ∘ fun w : Str => w.cps.toList) (Txt.split t " ") = (Txt.split t " ").map (·.length) := List.map_congr_left fun w _ => len_cps w
  rw [e] at z
  omega
theorem len_sum {ws : List Str} {w : Str} (h : w ∈ ws) : w.length ≤ (ws.map (·.length)).sum := by
  induction ws with
  | nil => cases h
  | cons a r ih =>
    rw [List.map_cons, List.sum_cons]
    rcases List.mem_cons.mp h with rfl | h
    · omega
    · have := ih h
      omega
theorem word_le {t w : Str} (h : w ∈ Txt.split t " ") : w.length ≤ t.length := by
  have z := split_wt t
  have l := len_sum h
  unfold wt at z
  have := List.length_pos_of_mem h
  omega
theorem word_signs {t w : Str} (hw : w ∈ Txt.split t " ") {x : Nat} (hx : x ∈ w.cps.toList) : x ∈ t.cps.toList := by
  rw [split_jn t]
  exact jn_mem (List.mem_map.mpr ⟨w, hw, rfl⟩) hx
theorem word_plain {t w : Str} (p : PlainS t) (hw : w ∈ Txt.split t " ") : PlainS w := fun c hc => p c (word_signs hw hc)
theorem more_le : ∀ {r : List Str} {j n : Nat} {last : Str} {qs : List (Str × Str)}, moreC r j last qs = .error n → n ≤ j + r.length
  | [], j, n, last, qs, h => by
    unfold moreC at h
    cases h
  | [s], j, n, last, qs, h => by
    unfold moreC at h
    split at h
    · cases h
      exact Nat.le_refl _
    · cases h
  | s :: w :: r, j, n, last, qs, h => by
    unfold moreC at h
    split at h
    · split at h
      · have := more_le h
        simp only [List.length_cons]
        omega
      · cases h
        simp only [List.length_cons]
        omega
    · cases h
theorem read_le {ws : List Str} {n : Nat} (ne : ws ≠ []) (h : readM ws = .error n) : n ≤ ws.length := by
  have l : 0 < ws.length := by
    cases ws with
    | nil => exact absurd rfl ne
    | cons a r => exact Nat.succ_pos _
  unfold readM at h
  split at h
  · cases e : moreC (ws.drop 1) 1 "" [] with
    | error m =>
      rw [e] at h
      cases h
      have := more_le e
      rw [List.length_drop] at this
      omega
    | ok p =>
      obtain ⟨qs, j⟩ := p
      rw [e] at h
      dsimp only at h
      split at h
      · cases h
        omega
      · split at h
        · cases h
          omega
        · cases h
  · split at h
    · split at h
      · split at h
        · split at h
          · cases h
            omega
          · cases h
        · cases h
          omega
      · cases h
        omega
    · cases h
      omega
theorem put_join (s : Str) : ("put " : Str) ++ s = Txt.join " " [("put" : Str), s] := by
  refine str_eq ?_
  have c2 := SJ.tjoin_cps 32 [("put" : Str), s]
  show ("put " ++ s : Str).cps.toList = (Txt.join ⟨#[32]⟩ [("put" : Str), s]).cps.toList
  rw [cat_cps, c2]
  unfold SJ.lists
  rw [List.map_cons, List.map_cons, List.map_nil, SJ.jn_two, SJ.jn_one]
  rfl
theorem text_put {t s : Str} (h : Txt.split t " " = [("put" : Str), s]) : t = "put " ++ s := by
  rw [put_join, ← h]
  exact (SJ.join_of 32 t).symm
theorem text_code {t : Str} {qs : List (Str × Str)} (h : Txt.split t " " = ("code" : Str) :: flat qs) : t = codeT qs := by
  unfold codeT
  rw [← h]
  exact (SJ.join_of 32 t).symm
theorem put3 (s : Str) : cutS ("put " ++ s) none (some 3) = "put" := by
  have e := cut_take (a := "put " ++ s) 3
  refine str_eq ?_
  rw [show ((3 : Nat) : Int) = (3 : Int) from rfl] at e
  rw [e, cat_cps]
  rfl
theorem code3 {qs : List (Str × Str)} (ne : qs ≠ []) : cutS (codeT qs) none (some 3) ≠ "put" := by
  have e := cut_take (a := codeT qs) 3
  intro z
  rw [show ((3 : Nat) : Int) = (3 : Int) from rfl, z] at e
  obtain ⟨q, r, rfl⟩ := List.exists_cons_of_ne_nil ne
  have c := SJ.tjoin_cps 32 (("code" : Str) :: flat (q :: r))
  have e2 : (codeT (q :: r)).cps.toList = SJ.jn 32 (SJ.lists (("code" : Str) :: flat (q :: r))) := c
  rw [e2] at e
  have e3 : SJ.lists (("code" : Str) :: flat (q :: r)) = ("code" : Str).cps.toList :: q.1.cps.toList :: q.2.cps.toList :: SJ.lists (flat r) := rfl
  rw [e3, SJ.jn_two] at e
  have e : ("put" : Str).cps.toList = ("cod" : Str).cps.toList := e
  exact absurd e (by decide +kernel)
def spRight : Sp := fun vs H Q _ => ∃ t : Str, vs = [.str t] ∧ t.length ≤ 400 ∧ PlainS t ∧ RetV (.bl true) H Q
section
variable {K : PySem.W.Frag} {σ : L2.St} {H : Hp} {te ta tb : TE} {C CP : Addr} {E : XK}
theorem ev_isLst {p : Addr} {xs : List V} (h : Ev te σ H (.ref p)) (hp : H p = some (.lst xs)) : Ev (tCB (rIsi K) (tCons te (tCons (tC (.ty "list")) tNil))) σ H (.bl true) := ev_cb (ea_cons h (ea_cons ev_c ea_nil)) fun H1 x1 Q1 q1 =>
  ⟨.ref p, _, _, _, true, rfl, .ty "list", bty_tyx (.lst (x1 _ _ hp)), kit_ty (by decide +kernel), q1 H1 (Ex.refl _)⟩
theorem ev_first {p : Addr} {v : V} (h : Ev te σ H (.ref p)) (hp : H p = some (.lst [v])) : Ev (tOp (rIxL K) te (tC (.int 0))) σ H v := ev_op h ev_c (rv_ixL (sq_of hp) (atI_nat (j := 0) rfl))
theorem ev_strC {a : Addr} {qs : List (Str × Str)} (S : Short qs) (h : Ev te σ H (.ref a)) (A : CodeAt C H a qs) : Ev (tCB (rStrI C (spCStr C) E) (tCons te tNil)) σ H (.str (codeT qs)) := ev_cb (ea_cons h ea_nil) fun H1 x1 Q1 q1 => by
  obtain ⟨dx, W, O, ts, h1, r⟩ := id A
  exact ⟨a, dx, _, rfl, x1 _ _ h1, a, qs, rfl, A.mono x1, S, fun H2 x2 => ⟨_, rfl, q1 H2 x2⟩⟩
theorem ev_strP {a : Addr} {s : Str} (l : s.length ≤ 1000) (h : Ev te σ H (.ref a)) (A : PutAt CP H a s) : Ev (tCB (rStrI CP (spPStr CP) E) (tCons te tNil)) σ H (.str ("put " ++ s)) := ev_cb (ea_cons h ea_nil) fun H1 x1 Q1 q1 => by
  obtain ⟨dx, h1⟩ := id A
  exact ⟨a, dx, _, rfl, x1 _ _ h1, a, s, rfl, ⟨dx, x1 _ _ h1⟩, l, fun H2 x2 => ⟨_, rfl, q1 H2 x2⟩⟩
end
section
variable {P : Program} {w : World} {K : PySem.W.Frag} {mg : Str → Option Value} {base : Heap} {C CP : Addr}
theorem ok_right {f fW fH fSC fSP : Addr} {fd fdW fdH : FuncData} (F : Fun K "_law_right" "_law_right" sRight f fd) (T : Free mg) (gR : mg "repr" = none) (CC : ClsCd K mg C) (CU : ClsPu K mg CP)
    (GW : FnOk P w K mg base CX0 3 fW fdW ["_law_words"] spLWr) (bW : Binds K fdW ["_law_words"] []) (gW : mg "_law_wrong" = some (.ref fW)) (kW : PySem.W.keepIn K (.ref fW) = true)
    (GH : FnOk P w K mg base CX0 10 fH fdH ["_law_text_so"] (spHeard K C CP)) (bH : Binds K fdH ["_law_text_so"] []) (gH : mg "_law_heard" = some (.ref fH)) (kH : PySem.W.keepIn K (.ref fH) = true)
    (hC : PySem.W.findIn K (.ref C) "__str__" = some (some (.ref fSC))) (iC : PySem.W.isFn K (.ref fSC) = true) (GC : FnR P w K mg base CX0 1 fSC (spCStr C))
    (hP : PySem.W.findIn K (.ref CP) "__str__" = some (some (.ref fSP))) (iP : PySem.W.isFn K (.ref fSP) = true) (GP : FnR P w K mg base CX0 1 fSP (spPStr CP)) : FnG P w K mg base CX0 11 f fd ["_law_text_so"] spRight := by
  refine FnG.body F scRight (fun vs H Q E h => ?_) (fun cdv A outer s H vs Q E hgd hr h => ?_)
  · obtain ⟨_, rfl, _⟩ := h
    rfl
  obtain ⟨t, rfl, tl, pl, k⟩ := h
  have nd := scRight.nd
  have hg2 : (cxOf CX0 P w K mg base nRight "_law_right" (defScope sRight) f cdv A outer s H E).nox.A.guards = some [] := hgd
  have hu : (cxOf CX0 P w K mg base nRight "_law_right" (defScope sRight) f cdv A outer s H E).nox.A.units + 64 < cLine := hr.units
  have few : (Txt.split t " ").length ≤ t.length + 1 := by
    have := split_wt t
    unfold wt at this
    omega
  have each : ∀ w ∈ Txt.split t " ", w.length ≤ 1000 ∧ PlainS w := fun w hw => ⟨by have := word_le hw; omega, word_plain pl hw⟩
  have small : ∀ w ∈ Txt.split t " ", w.length ≤ 1000 := fun w hw => (each w hw).1
  have ne := split_nn t
  cases er : readM (Txt.split t " ") with
  | error n =>
    refine ⟨_, pss_cons (ps_par (i := 1) (j := 2) (by rfl) nd rfl rfl (by decide) rfl rfl (pa_cons (pe_call GW (hr.mono (by decide)) (by rfl) gW kW bW .nil pass0 (pa_cons (pe_bm PySem.F.plainAttrs_str PySem.F.slot_str_split PySem.F.type_str_split mt_split (pv 0) (pa_cons pe_str pa_nil)) pa_nil)) (pa_cons (pe_call GH hr (by rfl) gH kH bH .nil pass0 (pa_cons (pv 0) pa_nil)) pa_nil)) (by rfl))
      (pss_cons (ps_if (pt_cmpR op_notN (pv 1) pe_non (nomark _)) (pss_one (ps_ret (pe_cmpR op_eq (pe_callB (r := rReprA K) (id := "repr") (by exact call_reprA hg2 hu) (by rfl) gR (by decide +kernel) (pa_cons (pv 2) pa_nil)) (pe_callB (r := rReprA K) (id := "repr") (by exact call_reprA hg2 hu) (by rfl) gR (by decide +kernel) (pa_cons (pe_tup (pa_cons pe_int (pa_cons (pv 1) pa_nil))) pa_nil)) (nomark _)))) pss_nil)
      (pss_cons (ps_if (PW.pt (pw_or (pt_not (pt_val (pe_callB call_isi (by rfl) T.isinstance (by decide +kernel) (pa_cons (pv 2) (pa_cons (pe_bltn (v := .ty "list") (by rfl) T.list (by decide +kernel) rfl) pa_nil))))) (pw_or1 (pt_cmpR op_ne (pe_callTy (call_strI (C := C) hC iC GC (hr.mono (by decide)) pass0) (by rfl) T.str (by decide +kernel) (pa_cons (pe_ix (r := rIxL K) (by exact ix_list) (pv 2) pe_int (fun _ _ => rfl)) pa_nil)) (pv 0) (nomark _))))) (pss_one (ps_ret pe_bl)) pss_nil)
      (pss_one (ps_ret (pe_ifExp (pt_cmpR op_eq (pe_slice sl_str (pv 0) po_none (po_some pe_int)) pe_str (nomark _)) (pe_callB call_isi (by rfl) T.isinstance (by decide +kernel) (pa_cons (pe_ix (r := rIxL K) (by exact ix_list) (pv 2) pe_int (fun _ _ => rfl)) (pa_cons (pe_glob (v := .ref CP) (by rfl) CU.gP rfl) pa_nil))) (pe_callB call_isi (by rfl) T.isinstance (by decide +kernel) (pa_cons (pe_ix (r := rIxL K) (by exact ix_list) (pv 2) pe_int (fun _ _ => rfl)) (pa_cons (pe_glob (v := .ref C) (by rfl) CC.gC rfl) pa_nil)))))))), ?_⟩
    refine ⟨_, rfl, rfl, t, " ", rfl, rfl, rfl, (by rw [sizeLine_eq]; omega), fun W hW => ?_⟩
    have x1 : Ex H (upd H W (.lst ((Txt.split t " ").map V.str))) := Ex.new hW
    have e1 : upd H W (.lst ((Txt.split t " ").map V.str)) W = some (.lst ((Txt.split t " ").map V.str)) := upd_same
    generalize upd H W (.lst ((Txt.split t " ").map V.str)) = H1 at x1 e1 ⊢
    refine ⟨W, Txt.split t " ", rfl, e1, ne, by omega, each, fun H2 x2 => ?_⟩
    have ew : wrongV (Txt.split t " ") = .int (n : Int) := by
      unfold wrongV
      rw [er]
    rw [ew]
    refine ⟨_, rfl, ?_⟩
    refine (?_ : spHeard K C CP [.str t] H2 _ _)
    refine .inl ⟨t, rfl, by omega, small, fun n' hn p H3 hp x3 e3 => ?_, (fun m hm => by rw [er] at hm; cases hm)⟩
    rw [er] at hn
    cases hn
    have nl := read_le ne er
    refine ⟨_, _, rfl, ?_⟩
    refine (?_ : tSeq _ _ _ [some (.str t), some (.int (n : Int)), some (.ref p)] H3)
    have isN : EvT (tTest (tOp (fun x y H Q => y = .non ∧ Q (.bl (!decide (x = .non))) H) (tVar 1) (tC .non))) [some (.str t), some (.int (n : Int)), some (.ref p)] H3 true := et_is (et_test (ev_op (z := .bl (!decide (V.int (n : Int) = .non))) (ev_var rfl) ev_c fun G y Q1 q1 => ⟨rfl, q1 G (Ex.refl _)⟩)) (by simp)
    have sh := shows_pair n (by omega)
    refine q_when isN (fun _ G y => ?_) fun z => by cases z
    have r1 : Ev (tCB (rReprA K) (tCons (tVar 2) tNil)) [some (.str t), some (.int (n : Int)), some (.ref p)] G (.str (PyData.tuple [.int 0, .int (n : Int)]).shown) := ev_reprA (ev_var rfl) (.tup (st_of (y _ _ e3)) (.cons (.int 0) (.cons (.int _) .nil))) sh
    have r2 : Ev (tCB (rReprA K) (tCons (tTup (tCons (tC (.int 0)) (tCons (tVar 1) tNil))) tNil)) [some (.str t), some (.int (n : Int)), some (.ref p)] G (.str (PyData.tuple [.int 0, .int (n : Int)]).shown) := fun G1 y1 Q1 q1 =>
      by
        refine (?_ : tCons _ _ _ G1 _)
        refine (eu_tup (vs := [.int 0, .int (n : Int)]) (ea_cons ev_c (ea_cons (ev_var rfl) ea_nil)) (by show 2 ≤ 100000; decide)) G1 y1 _ fun u G2 hu2 y2 e2 => ?_
        unfold shows at sh
        simp only [Bool.and_eq_true, decide_eq_true_eq] at sh
        exact ⟨.ref u, .tuple [.int 0, .int (n : Int)], rfl, .tup (st_of e2) (.cons (.int 0) (.cons (.int _) .nil)), sh.1.1, sh.1.2, sh.2, q1 G2 y2⟩
    refine s_ret (v := .bl true) (ev_is (ev_op r1 r2 (rv_eq rfl)) (congrArg V.bl (decide_eq_true rfl))) fun G2 y2 => ?_
    exact k G2 ((x1.trans x2).trans (x3.trans (y.trans y2)))
  | ok m =>
  cases m with
  | put s0 =>
    refine ⟨_, pss_cons (ps_par (i := 1) (j := 2) (by rfl) nd rfl rfl (by decide) rfl rfl (pa_cons (pe_call GW (hr.mono (by decide)) (by rfl) gW kW bW .nil pass0 (pa_cons (pe_bm PySem.F.plainAttrs_str PySem.F.slot_str_split PySem.F.type_str_split mt_split (pv 0) (pa_cons pe_str pa_nil)) pa_nil)) (pa_cons (pe_call GH hr (by rfl) gH kH bH .nil pass0 (pa_cons (pv 0) pa_nil)) pa_nil)) (by rfl))
      (pss_cons (ps_if (pt_cmpR op_notN (pv 1) pe_non (nomark _)) (pss_one (ps_ret (pe_cmpR op_eq (pe_callB (r := rReprA K) (id := "repr") (by exact call_reprA hg2 hu) (by rfl) gR (by decide +kernel) (pa_cons (pv 2) pa_nil)) (pe_callB (r := rReprA K) (id := "repr") (by exact call_reprA hg2 hu) (by rfl) gR (by decide +kernel) (pa_cons (pe_tup (pa_cons pe_int (pa_cons (pv 1) pa_nil))) pa_nil)) (nomark _)))) pss_nil)
      (pss_cons (ps_if (PW.pt (pw_or (pt_not (pt_val (pe_callB call_isi (by rfl) T.isinstance (by decide +kernel) (pa_cons (pv 2) (pa_cons (pe_bltn (v := .ty "list") (by rfl) T.list (by decide +kernel) rfl) pa_nil))))) (pw_or1 (pt_cmpR op_ne (pe_callTy (call_strI (C := CP) hP iP GP (hr.mono (by decide)) pass0) (by rfl) T.str (by decide +kernel) (pa_cons (pe_ix (r := rIxL K) (by exact ix_list) (pv 2) pe_int (fun _ _ => rfl)) pa_nil)) (pv 0) (nomark _))))) (pss_one (ps_ret pe_bl)) pss_nil)
      (pss_one (ps_ret (pe_ifExp (pt_cmpR op_eq (pe_slice sl_str (pv 0) po_none (po_some pe_int)) pe_str (nomark _)) (pe_callB call_isi (by rfl) T.isinstance (by decide +kernel) (pa_cons (pe_ix (r := rIxL K) (by exact ix_list) (pv 2) pe_int (fun _ _ => rfl)) (pa_cons (pe_glob (v := .ref CP) (by rfl) CU.gP rfl) pa_nil))) (pe_callB call_isi (by rfl) T.isinstance (by decide +kernel) (pa_cons (pe_ix (r := rIxL K) (by exact ix_list) (pv 2) pe_int (fun _ _ => rfl)) (pa_cons (pe_glob (v := .ref C) (by rfl) CC.gC rfl) pa_nil)))))))), ?_⟩
    refine ⟨_, rfl, rfl, t, " ", rfl, rfl, rfl, (by rw [sizeLine_eq]; omega), fun W hW => ?_⟩
    have x1 : Ex H (upd H W (.lst ((Txt.split t " ").map V.str))) := Ex.new hW
    have e1 : upd H W (.lst ((Txt.split t " ").map V.str)) W = some (.lst ((Txt.split t " ").map V.str)) := upd_same
    generalize upd H W (.lst ((Txt.split t " ").map V.str)) = H1 at x1 e1 ⊢
    refine ⟨W, Txt.split t " ", rfl, e1, ne, by omega, each, fun H2 x2 => ?_⟩
    have ew : wrongV (Txt.split t " ") = .non := by
      unfold wrongV
      rw [er]
    rw [ew]
    refine ⟨_, rfl, ?_⟩
    refine (?_ : spHeard K C CP [.str t] H2 _ _)
    refine .inl ⟨t, rfl, by omega, small, (fun n hn => by rw [er] at hn; cases hn), fun m hm p a H3 hp x3 e3 A3 => ?_⟩
    rw [er] at hm
    cases hm
    obtain ⟨hs, e⟩ := readM_put er
    have et := text_put e
    have s1 := key_len hs
    refine ⟨_, _, rfl, ?_⟩
    refine (?_ : tSeq _ _ _ [some (.str t), some .non, some (.ref p)] H3)
    have isN : EvT (tTest (tOp (fun x y H Q => y = .non ∧ Q (.bl (!decide (x = .non))) H) (tVar 1) (tC .non))) [some (.str t), some .non, some (.ref p)] H3 false := et_is (et_test (ev_op (z := .bl (!decide (V.non = .non))) (ev_var rfl) ev_c fun G y Q1 q1 => ⟨rfl, q1 G (Ex.refl _)⟩)) (by simp)
    refine q_when isN (fun z => by cases z) fun _ G y => ?_
    have ep := y _ _ e3
    have fst : ∀ {G2 : Hp}, Ex G G2 → Ev (tOp (rIxL K) (tVar 2) (tC (.int 0))) [some (.str t), some .non, some (.ref p)] G2 (.ref a) := fun y2 => ev_first (ev_var rfl) (y2 _ _ ep)
    obtain ⟨dx, h3⟩ := id A3
    refine q_when (b := false) (et_is (et_or (a := false) (et_is (et_not (et_B (ev_isLst (K := K) (ev_var rfl) ep))) rfl) fun _ => et_test (ev_op (ev_strP (CP := CP) (E := E0) (by omega) (fst (Ex.refl _)) (A3.mono (C := C) (m := .put s0) y)) (ev_var rfl) (rv_ne rfl))) ?_) (fun z => by cases z) fun _ G2 y2 => ?_
    · rw [← et, decide_eq_true rfl]
      rfl
    refine s_ret (v := .bl true) ?_ fun G3 y3 => k G3 ((x1.trans x2).trans (x3.trans (y.trans (y2.trans y3))))
    refine ev_if (b := true) (et_test (ev_is (ev_op (ev_cutTo (ev_var rfl) ev_c (by omega)) ev_c (rv_eq rfl)) (congrArg V.bl (decide_eq_true (by rw [et, put3]))))) (fun _ => ev_isO CU.toClsO (y2 _ _ (y _ _ h3)) (fst y2) ev_c) fun z => by cases z
  | code qs =>
    refine ⟨_, pss_cons (ps_par (i := 1) (j := 2) (by rfl) nd rfl rfl (by decide) rfl rfl (pa_cons (pe_call GW (hr.mono (by decide)) (by rfl) gW kW bW .nil pass0 (pa_cons (pe_bm PySem.F.plainAttrs_str PySem.F.slot_str_split PySem.F.type_str_split mt_split (pv 0) (pa_cons pe_str pa_nil)) pa_nil)) (pa_cons (pe_call GH hr (by rfl) gH kH bH .nil pass0 (pa_cons (pv 0) pa_nil)) pa_nil)) (by rfl))
      (pss_cons (ps_if (pt_cmpR op_notN (pv 1) pe_non (nomark _)) (pss_one (ps_ret (pe_cmpR op_eq (pe_callB (r := rReprA K) (id := "repr") (by exact call_reprA hg2 hu) (by rfl) gR (by decide +kernel) (pa_cons (pv 2) pa_nil)) (pe_callB (r := rReprA K) (id := "repr") (by exact call_reprA hg2 hu) (by rfl) gR (by decide +kernel) (pa_cons (pe_tup (pa_cons pe_int (pa_cons (pv 1) pa_nil))) pa_nil)) (nomark _)))) pss_nil)
      (pss_cons (ps_if (PW.pt (pw_or (pt_not (pt_val (pe_callB call_isi (by rfl) T.isinstance (by decide +kernel) (pa_cons (pv 2) (pa_cons (pe_bltn (v := .ty "list") (by rfl) T.list (by decide +kernel) rfl) pa_nil))))) (pw_or1 (pt_cmpR op_ne (pe_callTy (call_strI (C := C) hC iC GC (hr.mono (by decide)) pass0) (by rfl) T.str (by decide +kernel) (pa_cons (pe_ix (r := rIxL K) (by exact ix_list) (pv 2) pe_int (fun _ _ => rfl)) pa_nil)) (pv 0) (nomark _))))) (pss_one (ps_ret pe_bl)) pss_nil)
      (pss_one (ps_ret (pe_ifExp (pt_cmpR op_eq (pe_slice sl_str (pv 0) po_none (po_some pe_int)) pe_str (nomark _)) (pe_callB call_isi (by rfl) T.isinstance (by decide +kernel) (pa_cons (pe_ix (r := rIxL K) (by exact ix_list) (pv 2) pe_int (fun _ _ => rfl)) (pa_cons (pe_glob (v := .ref CP) (by rfl) CU.gP rfl) pa_nil))) (pe_callB call_isi (by rfl) T.isinstance (by decide +kernel) (pa_cons (pe_ix (r := rIxL K) (by exact ix_list) (pv 2) pe_int (fun _ _ => rfl)) (pa_cons (pe_glob (v := .ref C) (by rfl) CC.gC rfl) pa_nil)))))))), ?_⟩
    refine ⟨_, rfl, rfl, t, " ", rfl, rfl, rfl, (by rw [sizeLine_eq]; omega), fun W hW => ?_⟩
    have x1 : Ex H (upd H W (.lst ((Txt.split t " ").map V.str))) := Ex.new hW
    have e1 : upd H W (.lst ((Txt.split t " ").map V.str)) W = some (.lst ((Txt.split t " ").map V.str)) := upd_same
    generalize upd H W (.lst ((Txt.split t " ").map V.str)) = H1 at x1 e1 ⊢
    refine ⟨W, Txt.split t " ", rfl, e1, ne, by omega, each, fun H2 x2 => ?_⟩
    have ew : wrongV (Txt.split t " ") = .non := by
      unfold wrongV
      rw [er]
    rw [ew]
    refine ⟨_, rfl, ?_⟩
    refine (?_ : spHeard K C CP [.str t] H2 _ _)
    refine .inl ⟨t, rfl, by omega, small, (fun n hn => by rw [er] at hn; cases hn), fun m hm p a H3 hp x3 e3 A3 => ?_⟩
    rw [er] at hm
    cases hm
    obtain ⟨⟨l, As⟩, nq, e⟩ := readM_code er
    have et := text_code e
    have G0 := As.code nq
    refine ⟨_, _, rfl, ?_⟩
    refine (?_ : tSeq _ _ _ [some (.str t), some .non, some (.ref p)] H3)
    have isN : EvT (tTest (tOp (fun x y H Q => y = .non ∧ Q (.bl (!decide (x = .non))) H) (tVar 1) (tC .non))) [some (.str t), some .non, some (.ref p)] H3 false := et_is (et_test (ev_op (z := .bl (!decide (V.non = .non))) (ev_var rfl) ev_c fun G y Q1 q1 => ⟨rfl, q1 G (Ex.refl _)⟩)) (by simp)
    refine q_when isN (fun z => by cases z) fun _ G y => ?_
    have ep := y _ _ e3
    have fst : ∀ {G2 : Hp}, Ex G G2 → Ev (tOp (rIxL K) (tVar 2) (tC (.int 0))) [some (.str t), some .non, some (.ref p)] G2 (.ref a) := fun y2 => ev_first (ev_var rfl) (y2 _ _ ep)
    obtain ⟨dx, _, _, _, h3, _⟩ := id A3
    refine q_when (b := false) (et_is (et_or (a := false) (et_is (et_not (et_B (ev_isLst (K := K) (ev_var rfl) ep))) rfl) fun _ => et_test (ev_op (ev_strC (C := C) (E := E0) G0.short (fst (Ex.refl _)) (A3.mono (CP := CP) (m := .code qs) y)) (ev_var rfl) (rv_ne rfl))) ?_) (fun z => by cases z) fun _ G2 y2 => ?_
    · rw [← et, decide_eq_true rfl]
      rfl
    refine s_ret (v := .bl true) ?_ fun G3 y3 => k G3 ((x1.trans x2).trans (x3.trans (y.trans (y2.trans y3))))
    refine ev_if (b := false) (et_test (ev_is (ev_op (ev_cutTo (ev_var rfl) ev_c (by omega)) ev_c (rv_eq rfl)) (congrArg V.bl (decide_eq_false (by rw [et]; exact fun z => code3 nq (V.str.inj z)))))) (fun z => by cases z) fun _ => ev_isO CC.toClsO (y2 _ _ (y _ _ h3)) (fst y2) ev_c
end
end K02

set_option Elab.async false
set_option linter.all false
set_option maxRecDepth 100000
set_option maxHeartbeats 4000000
/-! The law's bent texts -/
namespace K02
open PySem PySem.Spec PyProof.Rows L2 Evl KU
abbrev sBent : Stmt := topR 37
abbrev nBent : List Str := ["_law_pen_here", "_law_text_so", "_law_words", "_law_way", "_law_at", "_law_odd"]
theorem scBent : FnScope nBent ["_law_pen_here", "_law_text_so"] (defScope sBent) := ⟨rfl, rfl, rfl, by decide +kernel, rfl, by decide +kernel, by decide +kernel⟩
def oddB : List Str := [("" : Str), ("-" : Str), (";" : Str), ("put" : Str), ("code" : Str), ("0" : Str), ("1" : Str), ("z" : Str), ("01" : Str), ("zz" : Str), ("0000" : Str), ("A" : Str), ("put 0" : Str), ("2 2" : Str), ("\n" : Str), ("1\n" : Str)]
def tailB : List Str := [(" " : Str), (" ;" : Str), (" z" : Str), (" z zzz" : Str), ("\n" : Str), (" -" : Str), (" / 0" : Str)]
theorem oddB_ok : ∀ u ∈ oddB, u.length ≤ 6 ∧ PlainS u := by
  unfold PlainS
  decide +kernel
theorem tailB_ok : ∀ u ∈ tailB, u.length ≤ 6 ∧ PlainS u := by
  unfold PlainS
  decide +kernel
/-- a text of at most so many signs -/
def Tx (n : Nat) (t : Str) : Prop := t.length ≤ n ∧ PlainS t
def spBent : Sp := fun vs H Q _ => ∃ (P L : Addr) (ns : List Int) (s : Nat) (g : Int) (t : Str) (n : Nat), vs = [.ref P, .str t] ∧ n ≤ 100 ∧ Tx n t ∧ Pen H P L ns s g ∧ s ≤ 90000 ∧
  ∀ (u : Str) (s' : Nat) (g' : Int) (H' : Hp), Tx (2 * n + 8) u → s' ≤ s + 4 → But P H H' → Pen H' P L ns s' g' → Q (.str u) H'
theorem ea_list_odd {σ : L2.St} {H : Hp} : EvA (tCons (tC (.str "")) (tCons (tC (.str "-")) (tCons (tC (.str ";")) (tCons (tC (.str "put")) (tCons (tC (.str "code")) (tCons (tC (.str "0")) (tCons (tC (.str "1")) (tCons (tC (.str "z")) (tCons (tC (.str "01")) (tCons (tC (.str "zz")) (tCons (tC (.str "0000")) (tCons (tC (.str "A")) (tCons (tC (.str "put 0")) (tCons (tC (.str "2 2")) (tCons (tC (.str "\n")) (tCons (tC (.str "1\n")) tNil)))))))))))))))) σ H (oddB.map V.str) := (ea_cons ev_c (ea_cons ev_c (ea_cons ev_c (ea_cons ev_c (ea_cons ev_c (ea_cons ev_c (ea_cons ev_c (ea_cons ev_c (ea_cons ev_c (ea_cons ev_c (ea_cons ev_c (ea_cons ev_c (ea_cons ev_c (ea_cons ev_c (ea_cons ev_c (ea_cons ev_c ea_nil))))))))))))))))
theorem ea_list_tail {σ : L2.St} {H : Hp} : EvA (tCons (tC (.str " ")) (tCons (tC (.str " ;")) (tCons (tC (.str " z")) (tCons (tC (.str " z zzz")) (tCons (tC (.str "\n")) (tCons (tC (.str " -")) (tCons (tC (.str " / 0")) tNil))))))) σ H (tailB.map V.str) := (ea_cons ev_c (ea_cons ev_c (ea_cons ev_c (ea_cons ev_c (ea_cons ev_c (ea_cons ev_c (ea_cons ev_c ea_nil)))))))
theorem wt_app (a b : List Str) : wt (a ++ b) = wt a + wt b := by
  unfold wt
  rw [List.map_append, List.sum_append, List.length_append]
  omega
theorem wt_cut (ws : List Str) (i : Nat) : wt (ws.take i) + wt (ws.drop i) = wt ws := by
  rw [← wt_app, List.take_append_drop]
theorem wt_take (ws : List Str) (i : Nat) : wt (ws.take i) ≤ wt ws := by
  have := wt_cut ws i
  omega
theorem wt_drop (ws : List Str) (i : Nat) : wt (ws.drop i) ≤ wt ws := by
  have := wt_cut ws i
  omega
theorem wt_drop2 (ws : List Str) {i j : Nat} (h : i ≤ j) : wt (ws.drop j) ≤ wt (ws.drop i) := by
  obtain ⟨d, rfl⟩ := Nat.exists_eq_add_of_le h
  rw [← List.drop_drop]
  exact wt_drop _ _
theorem wt_rev (ws : List Str) : wt ws.reverse = wt ws := by
  unfold wt
  rw [List.map_reverse, List.sum_reverse, List.length_reverse]
theorem join_tx {us : List Str} {n : Nat} (h : wt us ≤ n) (p : ∀ u ∈ us, PlainS u) : Tx n (Txt.join " " us) := by
  have jl := join_len " " us
  have o1 : (" " : Str).length = 1 := rfl
  rw [o1] at jl
  unfold wt at h
  have jl : (Txt.join " " us).length ≤ (us.map (·.length)).sum + us.length * 1 := jl
  refine ⟨by omega, fun c hc => ?_⟩
  have c1 := SJ.tjoin_cps 32 us
  have hc : c ∈ (Txt.join ⟨#[32]⟩ us).cps.toList := hc
  rw [c1] at hc
  rcases mem_jn hc with e | ⟨q, m, hx⟩
  · omega
  · obtain ⟨w, hw, rfl⟩ := List.mem_map.mp m
    exact p w hw c hx
theorem cat_tx {n m : Nat} {a b : Str} (h1 : Tx n a) (h2 : Tx m b) : Tx (n + m) (a ++ b) := ⟨by rw [cat_len]; have := h1.1; have := h2.1; omega, fun c hc => by
  rw [cat_cps] at hc
  rcases List.mem_append.mp hc with h | h
  · exact h1.2 c h
  · exact h2.2 c h⟩
theorem Tx.more {n m : Nat} {t : Str} (h : Tx n t) (l : n ≤ m) : Tx m t := ⟨Nat.le_trans h.1 l, h.2⟩
theorem cut_midG {xs : List V} (i j : Nat) (h : i ≤ j) : cutV xs (some (i : Int)) (some (j : Int)) = (xs.drop i).take (j - i) := by
  unfold cutV
  have e1 : HT.sIx xs.length 0 (some (i : Int)) = min i xs.length := by
    unfold HT.sIx
    show (if (i : Int) < 0 then _ else min ((i : Int).toNat) xs.length) = _
    rw [if_neg (by omega), Int.toNat_natCast]
  have e2 : HT.sIx xs.length xs.length (some (j : Int)) = min j xs.length := by
    unfold HT.sIx
    show (if (j : Int) < 0 then _ else min ((j : Int).toNat) xs.length) = _
    rw [if_neg (by omega), Int.toNat_natCast]
  rw [e1, e2]
  rcases Nat.le_total xs.length i with h1 | h1
  · rw [Nat.min_eq_right h1, List.drop_length, List.drop_eq_nil_of_le h1]
    simp
  · rw [Nat.min_eq_left h1]
    rcases Nat.le_total j xs.length with h2 | h2
    · rw [Nat.min_eq_left h2]
    · rw [Nat.min_eq_right h2, List.take_of_length_le (by rw [List.length_drop]; exact Nat.le_refl _), List.take_of_length_le (by rw [List.length_drop]; omega)]
section
variable {K : PySem.W.Frag} {σ : L2.St} {H : Hp} {te ta tb tc : TE} {ws us : List Str}
theorem es_midG {i j : Nat} (h : i ≤ j) (ha : EvP ta σ H (IsSL ws)) (hb : Ev tb σ H (.int (i : Int))) (hc : Ev tc σ H (.int (j : Int))) : EvP (L2.tSl (rSlL K) ta (tPart tb) (tPart tc)) σ H (IsSL ((ws.drop i).take (j - i))) := fun H1 x1 Q q =>
  ha H1 x1 _ fun v H2 x2 a => hb H2 (x1.trans x2) _ fun H3 x3 => ⟨_, rfl, hc H3 (x1.trans (x2.trans x3)) _ fun H4 x4 => by
    obtain ⟨l, ev, hl⟩ := up_isSL ws v _ _ (x3.trans x4) a
    subst ev
    exact ⟨_, rfl, l, _, rfl, sq_of hl, fun p hp => q _ _ ((x2.trans (x3.trans x4)).trans (Ex.new hp)) ⟨p, rfl, by rw [upd_same, cut_midG i j h, List.map_take, List.map_drop]⟩⟩⟩
theorem es_rev (ha : EvP ta σ H (IsSL ws)) : EvP (tRevL K ta) σ H (IsSL ws.reverse) := fun H1 x1 Q q =>
  ha H1 x1 _ fun v H2 x2 ⟨l, ev, hl⟩ => by
    subst ev
    exact ⟨l, _, rfl, sq_of hl, fun p hp => q _ _ (x2.trans (Ex.new hp)) ⟨p, rfl, by rw [upd_same, List.map_reverse]⟩⟩
end
section
variable {P : Program} {w : World} {K : PySem.W.Frag} {mg : Str → Option Value} {base : Heap}
theorem ok_bent {f fD fP : Addr} {fd fdD fdP : FuncData} (F : Fun K "_law_bent" "_law_bent" sBent f fd) (T : Draws K mg fD fP) (FP : Fun K "_law_pick" "_law_pick" sPick fP fdP) (bP : Binds K fdP ["_law_pen_here", "_law_some"] [])
    (FD : Fun K "_law_draw" "_law_draw" sDraw fD fdD) (bD : Binds K fdD ["_law_pen_here", "_law_many"] []) : FnOk P w K mg base CX0 3 f fd ["_law_pen_here", "_law_text_so"] spBent := by
  have GP : FnOk P w K mg base CX0 2 fP fdP ["_law_pen_here", "_law_some"] spPick := ok_pick FP T FD bD
  have GD : FnOk P w K mg base CX0 1 fD fdD ["_law_pen_here", "_law_many"] spDraw := ok_draw FD T.toFree
  refine F.ok scBent (fun vs H Q E h => ?_) (fun cdv A outer s H vs Q E hr h => ?_)
  · obtain ⟨_, _, _, _, _, _, _, rfl, _⟩ := h
    rfl
  · obtain ⟨Pn, L, ns, s0, g0, t, n0, rfl, hn, B, pen, hs, k⟩ := h
    have nd := scBent.nd
    refine ⟨_, (pss_cons (ps_par (i := 2) (j := 3) (by rfl) nd rfl rfl (by decide) rfl rfl (pa_cons (pe_bm PySem.F.plainAttrs_str PySem.F.slot_str_split PySem.F.type_str_split mt_split (pv 1) (pa_cons pe_str pa_nil)) (pa_cons (pe_call GD (hr.mono (by decide)) (by rfl) T.gDraw T.kDraw bD .nil pass0 (pa_cons (pv 0) (pa_cons pe_int pa_nil))) pa_nil)) (by rfl))
      (pss_cons (ps_set (i := 4) nd rfl (.inl rfl) (pe_call GD (hr.mono (by decide)) (by rfl) T.gDraw T.kDraw bD .nil pass0 (pa_cons (pv 0) (pa_cons (pe_callB call_len_seq (by rfl) T.len PySem.boot_len (pa_cons (pv 2) pa_nil)) pa_nil))))
      (pss_cons (ps_set (i := 5) nd rfl (.inl rfl) (pe_call GP hr (by rfl) T.gPick T.kPick bP .nil pass0 (pa_cons (pv 0) (pa_cons (pe_lst (pa_cons pe_str (pa_cons pe_str (pa_cons pe_str (pa_cons pe_str (pa_cons pe_str (pa_cons pe_str (pa_cons pe_str (pa_cons pe_str (pa_cons pe_str (pa_cons pe_str (pa_cons pe_str (pa_cons pe_str (pa_cons pe_str (pa_cons pe_str (pa_cons pe_str (pa_cons pe_str pa_nil))))))))))))))))) pa_nil))))
      (pss_cons (ps_if (pt_cmpR op_eq (pv 3) pe_int (nomark _)) (pss_one (ps_ret (pe_join pe_str (pe_op op_cat (pe_slice sl_list (pv 2) po_none (po_some (pv 4))) (pe_slice sl_list (pv 2) (po_some (pe_op op_add (pv 4) pe_int)) po_none))))) pss_nil)
      (pss_cons (ps_if (pt_cmpR op_eq (pv 3) pe_int (nomark _)) (pss_one (ps_ret (pe_join pe_str (pe_op op_cat (pe_op op_cat (pe_slice sl_list (pv 2) po_none (po_some (pv 4))) (pe_lst (pa_cons (pv 5) pa_nil))) (pe_slice sl_list (pv 2) (po_some (pv 4)) po_none))))) pss_nil)
      (pss_cons (ps_if (pt_cmpR op_eq (pv 3) pe_int (nomark _)) (pss_one (ps_ret (pe_join pe_str (pe_op op_cat (pe_op op_cat (pe_slice sl_list (pv 2) po_none (po_some (pv 4))) (pe_lst (pa_cons (pv 5) pa_nil))) (pe_slice sl_list (pv 2) (po_some (pe_op op_add (pv 4) pe_int)) po_none))))) pss_nil)
      (pss_cons (ps_if (pt_cmpR op_eq (pv 3) pe_int (nomark _)) (pss_one (ps_ret (pe_join pe_str (pe_op op_cat (pe_op op_cat (pe_slice sl_list (pv 2) po_none (po_some (pv 4))) (pe_slice sl_list (pv 2) (po_some (pv 4)) (po_some (pe_op op_add (pv 4) pe_int)))) (pe_slice sl_list (pv 2) (po_some (pv 4)) po_none))))) pss_nil)
      (pss_cons (ps_if (pt_cmpR op_eq (pv 3) pe_int (nomark _)) (pss_one (ps_ret (pe_join pe_str (pe_op op_cat (pe_op op_cat (pe_slice sl_list (pv 2) po_none (po_some (pv 4))) (pe_revL (pe_slice sl_list (pv 2) (po_some (pv 4)) (po_some (pe_op op_add (pv 4) pe_int))))) (pe_slice sl_list (pv 2) (po_some (pe_op op_add (pv 4) pe_int)) po_none))))) pss_nil)
      (pss_one (ps_ret (pe_op op_add_str (pv 1) (pe_call GP hr (by rfl) T.gPick T.kPick bP .nil pass0 (pa_cons (pv 0) (pa_cons (pe_lst (pa_cons pe_str (pa_cons pe_str (pa_cons pe_str (pa_cons pe_str (pa_cons pe_str (pa_cons pe_str (pa_cons pe_str pa_nil)))))))) pa_nil)))))))))))))), ?_⟩
    have bl := B.1
    have bp := B.2
    have ne := split_nn t
    have sw := split_wt t
    have wpl : ∀ w ∈ Txt.split t " ", PlainS w := fun w hw => word_plain bp hw
    have few : (Txt.split t " ").length ≤ t.length + 1 := by
      unfold wt at sw
      omega
    refine ⟨_, rfl, rfl, t, " ", rfl, rfl, rfl, (by rw [sizeLine_eq]; omega), fun W hW => ?_⟩
    have x1 : Ex H (upd H W (.lst ((Txt.split t " ").map V.str))) := Ex.new hW
    have e1 : upd H W (.lst ((Txt.split t " ").map V.str)) W = some (.lst ((Txt.split t " ").map V.str)) := upd_same
    have WP : W ≠ Pn := ne_of_none pen.pen hW |>.symm
    generalize upd H W (.lst ((Txt.split t " ").map V.str)) = H1 at x1 e1 ⊢
    generalize Txt.split t " " = ws at ne sw wpl few e1 ⊢
    have wl : 0 < ws.length := List.length_pos_iff.mpr ne
    have pen1 := pen.mono x1
    refine ⟨_, rfl, Pn, L, ns, s0, g0, 6, rfl, by decide, by decide, pen1, by omega, fun d1 s1 g1 H2 hd1 hs1 but2 pen2 => ⟨_, _, rfl, ?_⟩⟩
    refine (?_ : tSeq _ _ _ [some (.ref Pn), some (.str t), some (.ref W), some (.int (d1 : Int)), none, none] H2)
    have e2 := but2 _ _ WP e1
    -- the place
    refine ⟨_, rfl, ?_⟩
    refine (?_ : tCons _ _ _ H2 _)
    refine (ev_is (ev_len (K := K) (ev_var (i := 2) rfl) (sq_of e2)) (by rw [List.length_map])) H2 (Ex.refl _) _ fun H3 x3 => ?_
    refine ⟨Pn, L, ns, s1, g1, (ws.length : Int), rfl, by omega, by omega, pen2.mono x3, by omega, fun d s2 g2 H4 hd hs2 but4 pen4 => ?_⟩
    have e4 := but4 _ _ WP (x3 _ _ e2)
    have b04 : But Pn H H4 := (But.of_ex x1).trans (but2.trans ((But.of_ex x3).trans but4))
    dsimp only [gName, List.set_cons_succ, List.set_cons_zero]
    -- the odd word
    refine ⟨_, rfl, ?_⟩
    refine (?_ : tLst _ _ H4 _)
    refine (ea_list_odd (σ := [some (.ref Pn), some (.str t), some (.ref W), some (.int (d1 : Int)), some (.int (d : Int)), none]) (H := H4)) H4 (Ex.refl _) _ fun H5 x5 => ⟨by show 16 ≤ sizeLine; decide, fun l hl => ?_⟩
    have x6 : Ex H5 (upd H5 l (.lst (oddB.map V.str))) := Ex.new hl
    have lP : l ≠ Pn := ne_of_none (pen4.mono x5).pen hl |>.symm
    refine ⟨Pn, L, l, ns, oddB.map V.str, s2, g2, rfl, by unfold oddB; simp, (show 16 ≤ 1000 from by decide), upd_same, lP, (pen4.mono x5).mono x6, by omega, fun v s3 g3 H6 hv hs3 but6 pen6 => ?_⟩
    obtain ⟨u, hu, rfl⟩ := mem_str hv
    obtain ⟨ul, up⟩ := oddB_ok u hu
    have b06 : But Pn H H6 := b04.trans ((But.of_ex (x5.trans x6)).trans but6)
    have e6 := ((But.of_ex (x5.trans x6)).trans but6) _ _ WP e4
    clear hv
    dsimp only [gName, List.set_cons_succ, List.set_cons_zero]
    have wsE : ∀ {G : Hp} {σ : L2.St}, Ex H6 G → σ[2]? = some (some (.ref W)) → EvP (tVar 2) σ G (IsSL ws) := fun x es => es_var es (x _ _ e6)
    have plus : ∀ {G : Hp} {σ : L2.St} (j : Nat), σ[4]? = some (some (.int (d : Int))) → Ev (tOp (rI0 fun i j => .int (i + j)) (tVar 4) (tC (.int (j : Int)))) σ G (.int ((d + j : Nat) : Int)) := fun j es => ev_is (ev_op (ev_var es) ev_c rv_I0) (by simp)
    have fin : ∀ {us : List Str} {te : TE} {G : Hp} {D : L2.Ends} {σ : L2.St}, Ex H6 G → wt us ≤ 2 * n0 + 8 → (∀ w ∈ us, PlainS w) → EvP te σ G (IsSL us) → (∀ v G2, Q v G2 → D.rt v G2) → tRet (tM1 (rJoin K) (tC (.str " ")) te) D σ G := fun {us te G D σ} x hw hp ev hD =>
      s_ret (v := .str (Txt.join " " us)) (ev_join ev (by
        have o1 : (" " : Str).length = 1 := rfl
        rw [o1]
        unfold wt at hw
        have hw : (us.map (·.length)).sum + us.length ≤ 2 * n0 + 8 := hw
        omega)) fun G2 x2 => hD _ _ (k _ s3 g3 G2 (join_tx hw hp) (by omega) (b06.trans (But.of_ex (x.trans x2))) (pen6.mono (x.trans x2)))
    have wu : wt [u] ≤ 7 := by
      unfold wt
      simp
      omega
    have upl : ∀ w ∈ [u], PlainS w := fun w hw => by rw [List.mem_singleton.mp hw]; exact up
    have cutw := wt_cut ws
    have tkp : ∀ i, ∀ w ∈ ws.take i, PlainS w := fun i w hw => wpl w (List.mem_of_mem_take hw)
    have drp : ∀ i, ∀ w ∈ ws.drop i, PlainS w := fun i w hw => wpl w (List.mem_of_mem_drop hw)
    have mdp : ∀ i j, ∀ w ∈ (ws.drop i).take j, PlainS w := fun i j w hw => wpl w (List.mem_of_mem_drop (List.mem_of_mem_take hw))
    have app : ∀ {a b : List Str}, (∀ w ∈ a, PlainS w) → (∀ w ∈ b, PlainS w) → ∀ w ∈ a ++ b, PlainS w := fun h1 h2 w hw => (List.mem_append.mp hw).elim (h1 w) (h2 w)
    have sml : ∀ i, (ws.take i).length ≤ 200 ∧ (ws.drop i).length ≤ 200 := fun i => by
      rw [List.length_take, List.length_drop]
      omega
    have smm : ∀ i j, ((ws.drop i).take j).length ≤ 200 := fun i j => by
      rw [List.length_take, List.length_drop]
      omega
    have lu : ∀ {G : Hp} {σ : L2.St}, σ[5]? = some (some (.str u)) → EvP (tLst (tCons (tVar 5) tNil)) σ G (IsSL [u]) := fun es => es_lst (ws := [u]) (ea_cons (ev_var es) ea_nil) (show 1 ≤ 100000 by decide)
    have one : ([u] : List Str).length = 1 := rfl
    refine q_when (et_test (ev_op (ev_var rfl) ev_c (rv_eq rfl))) (fun _ G2 x => ?_) fun _ G2 x => ?_
    · exact fin x (by rw [wt_app]; have := cutw d; have := wt_drop2 ws (show d ≤ d + 1 by omega); omega) (app (tkp _) (drp _)) (es_cat (es_to (wsE x rfl) (ev_var rfl)) (es_from (wsE x rfl) (plus 1 rfl)) (by have := sml d; have := sml (d + 1); omega)) fun v G2 q => q
    refine q_when (et_test (ev_op (ev_var rfl) ev_c (rv_eq rfl))) (fun _ G3 y3 => ?_) fun _ G3 y3 => ?_
    · have x := x.trans y3
      exact fin x (by rw [wt_app, wt_app]; have := cutw d; omega) (app (app (tkp _) upl) (drp _)) (es_cat (es_cat (es_to (wsE x rfl) (ev_var rfl)) (lu rfl) (by have := sml d; omega)) (es_from (wsE x rfl) (ev_var rfl)) (by rw [List.length_append]; have := sml d; omega)) fun v G2 q => q
    replace x := x.trans y3
    refine q_when (et_test (ev_op (ev_var rfl) ev_c (rv_eq rfl))) (fun _ G4 y4 => ?_) fun _ G4 y4 => ?_
    · have x := x.trans y4
      exact fin x (by rw [wt_app, wt_app]; have := cutw d; have := wt_drop2 ws (show d ≤ d + 1 by omega); omega) (app (app (tkp _) upl) (drp _)) (es_cat (es_cat (es_to (wsE x rfl) (ev_var rfl)) (lu rfl) (by have := sml d; omega)) (es_from (wsE x rfl) (plus 1 rfl)) (by rw [List.length_append]; have := sml d; have := sml (d + 1); omega)) fun v G2 q => q
    replace x := x.trans y4
    refine q_when (et_test (ev_op (ev_var rfl) ev_c (rv_eq rfl))) (fun _ G5 y5 => ?_) fun _ G5 y5 => ?_
    · have x := x.trans y5
      exact fin x (by rw [wt_app, wt_app]; have := cutw d; have := wt_take (ws.drop d) (d + 2 - d); have := wt_drop ws d; omega) (app (app (tkp _) (mdp _ _)) (drp _)) (es_cat (es_cat (es_to (wsE x rfl) (ev_var rfl)) (es_midG (by omega) (wsE x rfl) (ev_var rfl) (plus 2 rfl)) (by have := sml d; have := smm d (d + 2 - d); omega)) (es_from (wsE x rfl) (ev_var rfl)) (by rw [List.length_append]; have := sml d; have := smm d (d + 2 - d); omega)) fun v G2 q => q
    replace x := x.trans y5
    refine q_when (et_test (ev_op (ev_var rfl) ev_c (rv_eq rfl))) (fun _ G7 y7 => ?_) fun _ G7 y7 => ?_
    · have x := x.trans y7
      exact fin x (by rw [wt_app, wt_app, wt_rev]; have := cutw d; have := wt_take (ws.drop d) (d + 2 - d); have := wt_drop ws (d + 2); have := wt_drop2 ws (show d ≤ d + 2 by omega); omega) (app (app (tkp _) fun w hw => mdp _ _ w (List.mem_reverse.mp hw)) (drp _)) (es_cat (es_cat (es_to (wsE x rfl) (ev_var rfl)) (es_rev (es_midG (by omega) (wsE x rfl) (ev_var rfl) (plus 2 rfl))) (by rw [List.length_reverse]; have := sml d; have := smm d (d + 2 - d); omega)) (es_from (wsE x rfl) (plus 2 rfl)) (by rw [List.length_append, List.length_reverse]; have := sml d; have := sml (d + 2); have := smm d (d + 2 - d); omega)) fun v G2 q => q
    replace x := x.trans y7
    refine (?_ : tOp rAddS _ _ _ G7 _)
    refine ⟨_, rfl, ?_⟩
    refine (?_ : tCall spPick _ _ _ _ G7 _)
    refine ⟨_, rfl, ?_⟩
    refine (?_ : tLst _ _ G7 _)
    refine (ea_list_tail (σ := [some (.ref Pn), some (.str t), some (.ref W), some (.int (d1 : Int)), some (.int (d : Int)), some (.str u)]) (H := G7)) G7 (Ex.refl _) _ fun G8 y8 => ⟨by show 7 ≤ sizeLine; decide, fun l2 hl2 => ?_⟩
    have y9 : Ex G8 (upd G8 l2 (.lst (tailB.map V.str))) := Ex.new hl2
    have pen8 := pen6.mono (x.trans y8)
    have lP2 : l2 ≠ Pn := ne_of_none pen8.pen hl2 |>.symm
    refine ⟨Pn, L, l2, ns, tailB.map V.str, s3, g3, rfl, by unfold tailB; simp, (show 7 ≤ 1000 from by decide), upd_same, lP2, pen8.mono y9, by omega, fun v s4 g4 G9 hv hs4 but9 pen9 => ?_⟩
    obtain ⟨u2, hu2, rfl⟩ := mem_str hv
    obtain ⟨ul2, up2⟩ := tailB_ok u2 hu2
    refine ⟨t, u2, rfl, rfl, by rw [sizeLine_eq]; omega, ?_⟩
    exact k _ s4 g4 G9 ((cat_tx B ⟨ul2, up2⟩).more (by omega)) (by omega) (b06.trans ((But.of_ex (x.trans (y8.trans y9))).trans but9)) pen9
end
end K02

set_option Elab.async false
set_option linter.all false
set_option maxRecDepth 100000
set_option maxHeartbeats 4000000
/-! `not in` an own instance; a method called by keywords alone -/
namespace KU
open PySem PySem.Spec PyProof.Rows L2 Evl
section
variable {X : Cx} {CX : CXT} {C g : Addr} {n : Nat} {sp : Sp} {E : XK}
/-- v not in a -/
def rNotInO (C : Addr) (sp : Sp) (E : XK) : R2 := fun v x H Q => ∃ (a dx : Addr) (fs : List (Str × V)), x = .ref a ∧ H a = some (.ins C dx fs) ∧ sp [.ref a, v] H (fun z H' => ∃ k : Bool, z = .bl k ∧ Q (.bl (!k)) H') E
theorem op_notInO (hs : PySem.W.findIn X.K (.ref C) "__contains__" = some (some (.ref g))) (hf : PySem.W.isFn X.K (.ref g) = true)
    (F : FnR X.prog X.w X.K X.mg X.base CX n g sp) (hr : Room n X.A) (hx : Passes CX X E) : OpR X (compareOp .NotIn) (rNotInO C sp E) := by
  intro pins s σ H v x u w Q I rv rx h
  obtain ⟨a, dx, fs, rfl, ha, q⟩ := h
  obtain rfl : w = Value.ref a := rx
  obtain ⟨od, Ja⟩ := ins_at I ha
  obtain ⟨m, fr⟩ := I.fr
  refine PySem.W.notIn_K fr I.ok.mod.kin Ja hs hf ?_
  refine wpAny_mono (own_call F hr I.env0 hx I (vs := [.ref a, v]) (.cons rfl (.cons rv .nil)) q) (fun u s' ⟨z, H', I', rz, k, ez, qz⟩ => ?_) fun e s' z => z
  subst ez
  cases rz
  exact wpAny_pure ⟨.bl (!k), H', I', rfl, qz⟩
end
section
variable {X : Cx} {C f : Addr} {k : Nat} {fd : FuncData} {ps ks : List Str} {sp : Sp} {o : Expr} {m : Str} {pos apos : Pos} {ta : TE} {tk : TA} {kws : List Keyword} {pl : Sem Bool}
/-- o.m(k = v, ..) -/
def tMethK (C : Addr) (m : Str) (n : Nat) (sp : Sp) (gv : List V → List V) (ta : TE) (tk : TA) : TE := fun σ H Q => ta σ H fun x H1 => ∃ (a dx : Addr) (fs : List (Str × V)), x = .ref a ∧ H1 a = some (.ins C dx fs) ∧ fs.lookup m = none ∧
  tk σ H1 fun zs H2 => zs.length = n ∧ sp (.ref a :: gv zs) H2 Q fun _ _ _ => False
theorem pe_methK {gv : List V → List V} {gu : List Value → List Value} (he : PE X o ta) (c : Cls X.K C) (hm : Meth X.K C m f) (F : FnOk X.prog X.w X.K X.mg X.base CX0 k f fd ps sp) (hr : Room k X.A) (hk : PK X kws tk)
    (hb : ∀ (s' : Shared) (a : Addr) (ws : List Value), X.K.In s'.heap → ws.length = ks.length → BindsTo s' fd ⟨[.ref a], ks.zip ws⟩ (ps.zip (.ref a :: gu ws)))
    (rel : ∀ {zs : List V} {ws : List Value}, Vals zs ws → zs.length = ks.length → Vals (gv zs) (gu ws))
    (hall : (backToKw pos (keywordEach kws X.env)).all (·.1.isSome) = true := by rfl) (hks : (backToKw pos (keywordEach kws X.env)).filterMap (·.1) = ks := by rfl)
    (hpl : ((backTo pos (starEach [] X.env)).any (·.1) || (backToKw pos (keywordEach kws X.env)).any (·.1.isNone)) = false := by rfl)
    (ht : eval (.Call (.Attribute o m apos) [] kws pos) X.env = (do
      let ov ← eval o X.env
      standAt apos.atName
      let __x ← holding [ov] (getMethod ov m pl)
      match __x with
        | (f, first) => callWith pos f first (backTo pos (starEach [] X.env)) (backToKw pos (keywordEach kws X.env))) := by rfl) :
    PE X (.Call (.Attribute o m apos) [] kws pos) (tMethK C m ks.length sp gv ta tk) := by
  refine ⟨fun pins s σ H Q I h => ?_⟩
  refine PySem.W.methodCall_KW (pl := pl) (thn (he.run pins s σ H _ I h) fun u s1 ⟨x, H1, I1, rx, a, dx, fs, ex, ea, l, q⟩ => ?_) ht
  subst ex
  obtain rfl : u = Value.ref a := rx
  refine getmeth_ok I1 ea c hm l ?_
  refine PySem.W.callWith_KW0 (first := [.ref a]) (h₀ := X.base) I.ok.mod.kin hm.kp hall (thn (hk.run pos pins s1 σ H1 _ I1 q) fun ws s2 ⟨zs, H2, I2, rv, hn, q2⟩ => ⟨I2.kIn, ?_⟩) hpl
  rw [hks]
  refine wpAny_call (codeAny_mono (F.run X.A X.stack s2 H2 ⟨[.ref a], ks.zip ws⟩ (.ref a :: gu ws) (.ref a :: gv zs) Q (fun _ _ _ => False) hr I2.env0 (hb s2 a ws I2.kIn (by rw [← rv.length]; exact hn)) (.cons rfl (rel rv hn)) q2) fun res s' back => ?_)
  cases res with
  | error er => exact back.elim
  | ok fl =>
    cases fl with
    | ret u => exact I2.after back
    | next => exact back.elim
    | brk => exact back.elim
    | cont => exact back.elim
end
end KU

set_option Elab.async false
set_option linter.all false
set_option maxRecDepth 100000
set_option maxHeartbeats 8000000
/-! The law of the texts of moves -/
namespace K02
open PySem PySem.Spec PyProof.Rows L2 Evl KU
theorem passE0 {P : Program} {w : World} {X : Cx} : Passes (L2.CX P w) X E0 := fun _ _ _ _ _ _ _ h => by
  obtain ⟨a, B, H', cls, d, _, _, _, _, _, _, _, h⟩ := h
  exact h.elim
abbrev sLaw : Stmt := topR 38
abbrev nLaw : List Str := ["_law_script", "_law_pen_here", "_law_turn", "_law_words", "_law_text_so", "_law_sign", "_law_again", "_law_bent_here", "_law_odd", "_law_some", "_law_every"]
theorem scLaw : FnScope nLaw ["_law_script"] (defScope sLaw) := ⟨rfl, rfl, rfl, by decide +kernel, rfl, by decide +kernel, by decide +kernel⟩
def spLawK (K : PySem.W.Frag) : Sp := fun vs H Q _ => ∃ (a : Addr) (ns : List Int), vs = [.ref a] ∧ SqL K H a (vints ns) ∧ ns.length ≤ 63 ∧ ∀ H', Q (.bl true) H'
def al11 : List Str := [("01" : Str), ("012" : Str), ("abz" : Str), ("wxyz" : Str), ("7" : Str)]
theorem al11_in : ∀ a ∈ al11, a ∈ alphM ∧ a.length ≤ 4 := by decide +kernel
def some1 : List Str := [("" : Str), (" " : Str), ("put" : Str), ("put " : Str), ("put 00" : Str), ("put 0 1" : Str), ("code" : Str), ("code 0" : Str), ("code 0 0 1" : Str), ("code 0 0 1 0" : Str), ("code 0 0 0 1" : Str), ("code 1 1 0 0" : Str)]
def some2 : List Str := [("code 0 0 1 01" : Str), ("code 0 01 1 0" : Str), ("code 0 0 1 10" : Str), ("code q zzz" : Str), ("code 0 0 ; put 0" : Str), ("code 0 0 / 1 1" : Str), ("code 0 aaaa" : Str)]
def some3 : List Str := [("code 0 0 1 1 2 2 3 3 4 4" : Str), ("code 0 0 1 10 2 0" : Str), ("code 0 01 1 1 2 0" : Str), ("code 0 0 1 1 2 01" : Str), ("code 0 0 1 1 2 2 3 0" : Str)]
theorem some_ok : ∀ t ∈ some1 ++ some2 ++ some3, t.length ≤ 400 ∧ PlainS t := by
  unfold PlainS
  decide +kernel
section
variable {σ : L2.St} {H : Hp}
theorem ea_al : EvA (tCons (tC (.str "01")) (tCons (tC (.str "012")) (tCons (tC (.str "abz")) (tCons (tC (.str "wxyz")) (tCons (tC (.str "7")) tNil))))) σ H (al11.map V.str) := (ea_cons ev_c (ea_cons ev_c (ea_cons ev_c (ea_cons ev_c (ea_cons ev_c ea_nil)))))
theorem ea_some1 : EvA (tCons (tC (.str "")) (tCons (tC (.str " ")) (tCons (tC (.str "put")) (tCons (tC (.str "put ")) (tCons (tC (.str "put 00")) (tCons (tC (.str "put 0 1")) (tCons (tC (.str "code")) (tCons (tC (.str "code 0")) (tCons (tC (.str "code 0 0 1")) (tCons (tC (.str "code 0 0 1 0")) (tCons (tC (.str "code 0 0 0 1")) (tCons (tC (.str "code 1 1 0 0")) tNil)))))))))))) σ H (some1.map V.str) := (ea_cons ev_c (ea_cons ev_c (ea_cons ev_c (ea_cons ev_c (ea_cons ev_c (ea_cons ev_c (ea_cons ev_c (ea_cons ev_c (ea_cons ev_c (ea_cons ev_c (ea_cons ev_c (ea_cons ev_c ea_nil))))))))))))
theorem ea_some2 : EvA (tCons (tC (.str "code 0 0 1 01")) (tCons (tC (.str "code 0 01 1 0")) (tCons (tC (.str "code 0 0 1 10")) (tCons (tC (.str "code q zzz")) (tCons (tC (.str "code 0 0 ; put 0")) (tCons (tC (.str "code 0 0 / 1 1")) (tCons (tC (.str "code 0 aaaa")) tNil))))))) σ H (some2.map V.str) := (ea_cons ev_c (ea_cons ev_c (ea_cons ev_c (ea_cons ev_c (ea_cons ev_c (ea_cons ev_c (ea_cons ev_c ea_nil)))))))
theorem ea_some3 : EvA (tCons (tC (.str "code 0 0 1 1 2 2 3 3 4 4")) (tCons (tC (.str "code 0 0 1 10 2 0")) (tCons (tC (.str "code 0 01 1 1 2 0")) (tCons (tC (.str "code 0 0 1 1 2 01")) (tCons (tC (.str "code 0 0 1 1 2 2 3 0")) tNil))))) σ H (some3.map V.str) := (ea_cons ev_c (ea_cons ev_c (ea_cons ev_c (ea_cons ev_c (ea_cons ev_c ea_nil)))))
end
/-! ### the longest code -/
def everyQ : List (Str × Str) := (signsL sSIGNS).map fun s => (s, s)
theorem every_asc : Asc "z" everyQ := ⟨by decide +kernel, by decide +kernel, by decide +kernel, by decide +kernel, by decide +kernel⟩
theorem every_ne : everyQ ≠ [] := by decide +kernel
theorem every_len : everyQ.length = 36 := by decide +kernel
theorem every_good : CodeG everyQ := every_asc.code every_ne
theorem every_reads : readM (Txt.split (codeT everyQ) " ") = .ok (.code everyQ) := by
  have z := code_reads every_good
  rw [every_asc.same] at z
  rw [code_split every_good]
  exact z
theorem codeT_few {qs : List (Str × Str)} (S : Short qs) : (codeT qs).length ≤ 6 * qs.length + 5 := by
  have z := join_len " " (("code" : Str) :: qs.map prT)
  have o1 : (" " : Str).length = 1 := rfl
  have o2 : ("code" : Str).length = 4 := rfl
  rw [join_pairs, List.map_cons, List.sum_cons, List.length_cons, List.length_map, o1, o2] at z
  have := sum_bound (fun w : Str => w.length) 5 (qs.map prT) fun w hw => by
    obtain ⟨q, hq, rfl⟩ := List.mem_map.mp hw
    have l1 := S.klen q hq
    have l2 := S.len q hq
    rw [prT_len]
    omega
  rw [List.length_map] at this
  have this : ((qs.map prT).map fun x : Str => x.length).sum ≤ 5 * qs.length := this
  omega
theorem codeT_plain {qs : List (Str × Str)} (G : CodeG qs) : PlainS (codeT qs) := by
  refine (join_tx (us := ("code" : Str) :: flat qs) (Nat.le_refl _) fun u hu => ?_).2
  have pl : ∀ {t : Str}, Over sSIGNS t → PlainS t := fun o c hc => (signs_small c (o c hc)).1
  rcases List.mem_cons.mp hu with rfl | hu
  · unfold PlainS
    decide +kernel
  · unfold flat at hu
    obtain ⟨q, hq, hu⟩ := List.mem_flatMap.mp hu
    rcases List.mem_cons.mp hu with rfl | hu
    · obtain ⟨c, hc, e⟩ := G.key q hq
      rw [e]
      exact pl fun d hd => by rw [show d = c by simpa using hd]; exact hc
    · rw [List.mem_singleton.mp hu]
      exact pl (G.over q hq)
theorem put_tx {c : Nat} (h : c ∈ sSIGNS.cps.toList) : Tx 5 (("put " : Str) ++ ⟨#[c]⟩) := ⟨by rw [cat_len]; show 4 + 1 ≤ 5; decide, fun d hd => by
  rw [cat_cps] at hd
  rcases List.mem_append.mp hd with m | m
  · exact (by decide +kernel : ∀ d ∈ ("put " : Str).cps.toList, d < 1114112) d m
  · rw [show d = c by simpa using m]
    exact (signs_small c h).1⟩
theorem put_read {c : Nat} (h : c ∈ sSIGNS.cps.toList) : readM (Txt.split (("put " : Str) ++ ⟨#[c]⟩) " ") = .ok (.put ⟨#[c]⟩) := by
  rw [put_split (one_sgB h)]
  exact put_reads (one_sgB h)
/-! ### values -/
section
variable {K : PySem.W.Frag} {σ : L2.St} {H : Hp} {te ta tb : TE} {C CP CM CT : Addr} {E : XK} {ws us : List (Str × Str)}
theorem evp_put {c : Nat} (hc : c ∈ sSIGNS.cps.toList) (h : Ev te σ H (.str ⟨#[c]⟩)) : EvP (tMake CP (spPInit CP) [] E (tCons te tNil)) σ H (IsP CP ⟨#[c]⟩) :=
  evp_make h fun x dx2 H2 x2 hx Q2 q2 => ⟨x, dx2, _, rfl, hx, one_sgB hc, fun H3 b3 A3 => q2 H3 b3 ⟨x, rfl, A3⟩⟩
theorem ev_neC (o1 : OkW ws) (o2 : OkW us) (ha : EvP ta σ H (IsC C ws)) (hb : EvP tb σ H (IsC C us)) : Ev (tOp (rNeI C (spEqC C) E) ta tb) σ H (.bl (!decide (ws = us))) := fun H1 x1 Q q =>
  ha H1 x1 _ fun v H2 x2 p1 => hb H2 (x1.trans x2) _ fun w H3 x3 ⟨y, ew, B2⟩ => by
    obtain ⟨x, ev, B1⟩ := up_isC C ws _ _ _ x3 p1
    subst ev ew
    obtain ⟨dx, _, _, _, e1, _⟩ := id B1
    obtain ⟨dy, _, _, _, e2, _⟩ := id B2
    exact ⟨x, dx, _, y, dy, _, rfl, rfl, e1, e2, x, y, ws, us, rfl, B1, B2, o1, o2, fun H4 x4 => ⟨_, rfl, q H4 ((x2.trans x3).trans x4)⟩⟩
theorem ev_neP {x y : Str} (ha : EvP ta σ H (IsP CP x)) (hb : EvP tb σ H (IsP CP y)) : Ev (tOp (rNeI CP (spEqP CP) E) ta tb) σ H (.bl (!decide (x = y))) := fun H1 x1 Q q =>
  ha H1 x1 _ fun v H2 x2 p1 => hb H2 (x1.trans x2) _ fun w H3 x3 ⟨b, ew, B2⟩ => by
    obtain ⟨a, ev, B1⟩ := up_isP CP x _ _ _ x3 p1
    subst ev ew
    obtain ⟨dx, e1⟩ := id B1
    obtain ⟨dy, e2⟩ := id B2
    exact ⟨a, dx, _, b, dy, _, rfl, rfl, e1, e2, a, b, x, y, rfl, B1, B2, fun H4 x4 => ⟨_, rfl, q H4 ((x2.trans x3).trans x4)⟩⟩
theorem ev_eqP {x y : Str} (nf : PySem.W.notFirst K CP (.ref CP) = true) (ha : EvP ta σ H (IsP CP x)) (hb : EvP tb σ H (IsP CP y)) : Ev (tOp (rCmpI K CP (spEqP CP) E) ta tb) σ H (.bl (decide (x = y))) := fun H1 x1 Q q =>
  ha H1 x1 _ fun v H2 x2 p1 => hb H2 (x1.trans x2) _ fun w H3 x3 ⟨b, ew, B2⟩ => by
    obtain ⟨a, ev, B1⟩ := up_isP CP x _ _ _ x3 p1
    subst ev ew
    obtain ⟨dx, e1⟩ := id B1
    obtain ⟨dy, e2⟩ := id B2
    exact ⟨a, dx, _, b, CP, dy, _, rfl, rfl, e1, e2, nf, a, b, x, y, rfl, B1, B2, fun H4 x4 => q H4 ((x2.trans x3).trans x4)⟩
theorem ev_strCP (S : Short ws) (h : EvP te σ H (IsC C ws)) : Ev (tCB (rStrI C (spCStr C) E) (tCons te tNil)) σ H (.str (codeT ws)) := fun H1 x1 Q q =>
  h H1 x1 _ fun v H2 x2 ⟨a, e, A⟩ => by
    subst e
    obtain ⟨dx, W, O, ts, h1, r⟩ := id A
    exact ⟨a, dx, _, rfl, h1, a, ws, rfl, A, S, fun H3 x3 => ⟨_, rfl, q H3 (x2.trans x3)⟩⟩
theorem ev_strPP {s : Str} (l : s.length ≤ 1000) (h : EvP te σ H (IsP CP s)) : Ev (tCB (rStrI CP (spPStr CP) E) (tCons te tNil)) σ H (.str ("put " ++ s)) := fun H1 x1 Q q =>
  h H1 x1 _ fun v H2 x2 ⟨a, e, A⟩ => by
    subst e
    obtain ⟨dx, h1⟩ := id A
    exact ⟨a, dx, _, rfl, h1, a, s, rfl, A, l, fun H3 x3 => ⟨_, rfl, q H3 (x2.trans x3)⟩⟩
theorem ev_lenC (few : ws.length ≤ 1000) (h : EvP te σ H (IsC C ws)) : Ev (tCB (rLenI C (spCLen C) E) (tCons te tNil)) σ H (.int (ws.length : Int)) := fun H1 x1 Q q =>
  h H1 x1 _ fun v H2 x2 ⟨a, e, A⟩ => by
    subst e
    obtain ⟨dx, W, O, ts, h1, r⟩ := id A
    exact ⟨a, dx, _, rfl, h1, a, ws, rfl, A, fun H3 x3 => ⟨ws.length, rfl, by omega, q H3 (x2.trans x3)⟩⟩
/-- a text that is read -/
theorem evp_readC {t : Str} (tl : t.length ≤ 1000) (r : readM (Txt.split t " ") = .ok (.code ws)) (h : Ev te σ H (.str t)) : EvP (ClX.tCMeth CM (spMRead CM CT C CP) E (tC (.ref CM)) (tCons te tNil)) σ H (IsC C ws) := fun H1 x1 Q q =>
  ⟨rfl, h H1 x1 _ fun H2 x2 => ⟨t, rfl, tl, fun w hw => by have := word_le hw; omega, (fun n hn => by rw [r] at hn; cases hn), fun m hm H3 a x3 A => by
    rw [r] at hm
    cases hm
    exact q _ H3 (x2.trans x3) ⟨a, rfl, A⟩⟩⟩
theorem evp_readP {t s : Str} (tl : t.length ≤ 1000) (r : readM (Txt.split t " ") = .ok (.put s)) (h : Ev te σ H (.str t)) : EvP (ClX.tCMeth CM (spMRead CM CT C CP) E (tC (.ref CM)) (tCons te tNil)) σ H (IsP CP s) := fun H1 x1 Q q =>
  ⟨rfl, h H1 x1 _ fun H2 x2 => ⟨t, rfl, tl, fun w hw => by have := word_le hw; omega, (fun n hn => by rw [r] at hn; cases hn), fun m hm H3 a x3 A => by
    rw [r] at hm
    cases hm
    exact q _ H3 (x2.trans x3) ⟨a, rfl, A⟩⟩⟩
theorem evp_readPK {t s : Str} (tl : t.length ≤ 1000) (r : readM (Txt.split t " ") = .ok (.put s)) (h : Ev te σ H (.str t)) : EvP (tCMethKX CM 1 (spMRead CM CT C CP) E (fun zs => zs) (tC (.ref CM)) (tCons te tNil)) σ H (IsP CP s) := fun H1 x1 Q q =>
  ⟨rfl, h H1 x1 _ fun H2 x2 => ⟨rfl, t, rfl, tl, fun w hw => by have := word_le hw; omega, (fun n hn => by rw [r] at hn; cases hn), fun m hm H3 a x3 A => by
    rw [r] at hm
    cases hm
    exact q _ H3 (x2.trans x3) ⟨a, rfl, A⟩⟩⟩
end
/-- what is no text -/
inductive NoT (CP Pn : Addr) : V → Hp → Prop where
  | non {H : Hp} : NoT CP Pn .non H
  | int {H : Hp} (i : Int) : NoT CP Pn (.int i) H
  | bl {H : Hp} (b : Bool) : NoT CP Pn (.bl b) H
  | lst {H : Hp} {a : Addr} {xs : List V} : a ≠ Pn → H a = some (.lst xs) → NoT CP Pn (.ref a) H
  | tup {H : Hp} {a : Addr} {xs : List V} : a ≠ Pn → H a = some (.tup xs) → NoT CP Pn (.ref a) H
  | dic {H : Hp} {a : Addr} {kvs : List (Key × V)} : a ≠ Pn → H a = some (.dK kvs) → NoT CP Pn (.ref a) H
  | put {H : Hp} {a dx : Addr} {fs : List (Str × V)} : a ≠ Pn → H a = some (.ins CP dx fs) → NoT CP Pn (.ref a) H
theorem up_noT (CP Pn : Addr) : Up (NoT CP Pn) := fun v H H' x h => by
  cases h with
  | non => exact .non
  | int i => exact .int i
  | bl b => exact .bl b
  | lst n e => exact .lst n (x _ _ e)
  | tup n e => exact .tup n (x _ _ e)
  | dic n e => exact .dic n (x _ _ e)
  | put n e => exact .put n (x _ _ e)
theorem noT_but {CP Pn : Addr} {v : V} {H H' : Hp} (x : But Pn H H') (h : NoT CP Pn v H) : NoT CP Pn v H' := by
  cases h with
  | non => exact .non
  | int i => exact .int i
  | bl b => exact .bl b
  | lst n e => exact .lst n (x _ _ n e)
  | tup n e => exact .tup n (x _ _ n e)
  | dic n e => exact .dic n (x _ _ n e)
  | put n e => exact .put n (x _ _ n e)
theorem NoT.ty {K : PySem.W.Frag} {mg : Str → Option Value} {CP Pn : Addr} {v : V} {H : Hp} (CU : ClsPu K mg CP) (kS : PySem.W.kitOne K (.ref CP) (.type "str") = some false) (h : NoT CP Pn v H) : ∀ H', Ex H H' → ∃ t, TyX K H' v t ∧ PySem.W.kitOne K t (.type "str") = some false := fun H' x => by
  cases h with
  | non => exact ⟨_, .base .non, kit_ty (by decide +kernel)⟩
  | int i => exact ⟨_, .base (.int i), kit_ty (by decide +kernel)⟩
  | bl b => exact ⟨_, .base (.bl b), kit_ty (by decide +kernel)⟩
  | lst n e => exact ⟨_, bty_tyx (.lst (x _ _ e)), kit_ty (by decide +kernel)⟩
  | tup n e => exact ⟨_, bty_tyx (.tup (x _ _ e)), kit_ty (by decide +kernel)⟩
  | dic n e => exact ⟨_, bty_tyx (.dic (x _ _ e)), kit_ty (by decide +kernel)⟩
  | put n e => exact ⟨.ref CP, .base (.ins (x _ _ e) CU.toCls CU.cA CU.cG CU.cT CU.cM), kS⟩
section
variable {K : PySem.W.Frag} {σ : L2.St} {H : Hp}
/-- one of these, drawn -/
theorem pick_of {i0 : Nat} {R : V → Hp → Prop} (up : Up R) {P L : Addr} {ns : List Int} {s : Nat} {g : Int} (bt : ∀ {v : V} {G G' : Hp} {s' : Nat} {g' : Int}, But P G G' → Pen G P L ns s' g' → R v G → R v G') {n : Nat} {ta : TA} {Q : VK}
    (h0 : σ[i0]? = some (some (.ref P))) (h : EvPA ta σ H (fun vs H' => vs.length = n ∧ ∀ v ∈ vs, R v H')) (n0 : 0 < n) (n1 : n ≤ 100) (pen : Pen H P L ns s g) (hs : s ≤ 100000)
    (q : ∀ v s2 g2 G2, R v G2 → s2 ≤ s + 1 → But P H G2 → Pen G2 P L ns s2 g2 → Q v G2) : tCall spPick [] E0 (tCons (tVar i0) (tCons (tLst ta) tNil)) σ H Q := by
  refine ⟨_, h0, ?_⟩
  refine (?_ : tCons _ _ _ H _)
  refine h H (Ex.refl _) _ fun vs G1 x1 ⟨vl, each⟩ => ⟨by rw [vl, sizeLine_eq]; omega, fun l2 hl2 => ?_⟩
  have y2 : Ex G1 (upd G1 l2 (.lst vs)) := Ex.new hl2
  have pn2 := (pen.mono x1).mono y2
  refine ⟨P, L, l2, ns, vs, s, g, rfl, fun z => by rw [z] at vl; exact absurd vl (by show ¬ 0 = n; omega), by omega, upd_same, (ne_of_none (pen.mono x1).pen hl2).symm, pn2, hs, fun v s2 g2 G3 hv hs2 but pen3 => ?_⟩
  exact q v s2 g2 G3 (bt but pn2 (up _ _ _ y2 (each v hv))) hs2 (((But.of_ex x1).trans (But.of_ex y2)).trans but) pen3
theorem all_nil {R : V → Hp → Prop} : EvPA tNil σ H (fun vs H' => vs.length = 0 ∧ ∀ v ∈ vs, R v H') := fun H1 _ Q q => q [] H1 (Ex.refl _) ⟨rfl, fun v hv => by cases hv⟩
theorem all_cons {R : V → Hp → Prop} (up : Up R) {te : TE} {tr : TA} {n : Nat} (h : EvP te σ H R) (hr : EvPA tr σ H (fun vs H' => vs.length = n ∧ ∀ v ∈ vs, R v H')) : EvPA (tCons te tr) σ H (fun vs H' => vs.length = n + 1 ∧ ∀ v ∈ vs, R v H') := fun H1 x1 Q q =>
  h H1 x1 _ fun v H2 x2 p => hr H2 (x1.trans x2) _ fun vs H3 x3 ⟨l, e⟩ => q _ H3 (x2.trans x3) ⟨by rw [List.length_cons, l], fun u hu => by
    rcases List.mem_cons.mp hu with rfl | hu
    · exact up _ _ _ x3 p
    · exact e u hu⟩
end
/-- what the law wants -/
structure Uses11 (P : Program) (w : World) (K : PySem.W.Frag) (mg : Str → Option Value) (base : Heap) (C CP CM CT fCI fPI fSC fSP fLC fCEq fPEq fR fHeard fCode fCt fPick fRt fBt fPen mc : Addr) (mcv : Value) (fdCI fdPI fdR fdHeard fdCode fdCt fdPick fdRt fdBt fdPen : FuncData) : Prop where
  T : Free mg
  gRepr : mg "repr" = none
  CC : ClsCd K mg C
  CPu : ClsPu K mg CP
  kP : PySem.W.kitOne K (.ref CP) (.type "str") = some false
  gM : mg "Move" = some (.ref CM)
  MC : Mk K C fCI
  FC : FnOk P w K mg base CX0 4 fCI fdCI ["self", "words"] (spCInit C)
  bFC : Binds K fdCI ["self", "words"] []
  MP : Mk K CP fPI
  FP : FnOk P w K mg base CX0 2 fPI fdPI ["self", "sign"] (spPInit CP)
  bFP : Binds K fdPI ["self", "sign"] []
  hC : PySem.W.findIn K (.ref C) "__str__" = some (some (.ref fSC))
  iC : PySem.W.isFn K (.ref fSC) = true
  GC : FnR P w K mg base CX0 1 fSC (spCStr C)
  hP : PySem.W.findIn K (.ref CP) "__str__" = some (some (.ref fSP))
  iP : PySem.W.isFn K (.ref fSP) = true
  GP : FnR P w K mg base CX0 1 fSP (spPStr CP)
  hL : PySem.W.findIn K (.ref C) "__len__" = some (some (.ref fLC))
  iL : PySem.W.isFn K (.ref fLC) = true
  GL : FnR P w K mg base CX0 1 fLC (spCLen C)
  hNeC : PySem.W.findIn K (.ref C) "__ne__" = some (some (.builtin "object.__ne__"))
  hEqC : PySem.W.findIn K (.ref C) "__eq__" = some (some (.ref fCEq))
  iEqC : PySem.W.isFn K (.ref fCEq) = true
  GEqC : FnR P w K mg base CX0 1 fCEq (spEqC C)
  hNeP : PySem.W.findIn K (.ref CP) "__ne__" = some (some (.builtin "object.__ne__"))
  hEqP : PySem.W.findIn K (.ref CP) "__eq__" = some (some (.ref fPEq))
  iEqP : PySem.W.isFn K (.ref fPEq) = true
  GEqP : FnR P w K mg base CX0 1 fPEq (spEqP CP)
  nfP : PySem.W.notFirst K CP (.ref CP) = true
  cr : ClX.CRead K CM mcv
  cm : ClX.CMet K CM mcv "read" mc fR
  GR : FnOk P w K mg base (L2.CX P w) 8 fR fdR ["cls", "text"] (spMRead CM CT C CP)
  bR : Binds K fdR ["cls", "text"] []
  bRK : ∀ (s' : Shared) (ws : List Value), K.In s'.heap → ws.length = (["text"] : List Str).length → BindsTo s' fdR ⟨[.ref CM], (["text"] : List Str).zip ws⟩ ((["cls", "text"] : List Str).zip (.ref CM :: ws))
  gHeard : mg "_law_heard" = some (.ref fHeard)
  kHeard : PySem.W.keepIn K (.ref fHeard) = true
  GHeard : FnOk P w K mg base CX0 10 fHeard fdHeard ["_law_text_so"] (spHeard K C CP)
  bHeard : Binds K fdHeard ["_law_text_so"] []
  gCode : mg "_law_code" = some (.ref fCode)
  kCode : PySem.W.keepIn K (.ref fCode) = true
  GCode : FnOk P w K mg base CX0 3 fCode fdCode ["_law_pen_here", "_law_signs"] spLCode
  bCode : Binds K fdCode ["_law_pen_here", "_law_signs"] []
  gCt : mg "_law_code_text" = some (.ref fCt)
  kCt : PySem.W.keepIn K (.ref fCt) = true
  GCt : FnOk P w K mg base CX0 1 fCt fdCt ["_law_words"] spLCt
  bCt : Binds K fdCt ["_law_words"] []
  gPick : mg "_law_pick" = some (.ref fPick)
  kPick : PySem.W.keepIn K (.ref fPick) = true
  GPick : FnOk P w K mg base CX0 2 fPick fdPick ["_law_pen_here", "_law_some"] spPick
  GPickS : FnOk P w K mg base CX0 2 fPick fdPick ["_law_pen_here", "_law_some"] spPickS
  bPick : Binds K fdPick ["_law_pen_here", "_law_some"] []
  gRt : mg "_law_right" = some (.ref fRt)
  kRt : PySem.W.keepIn K (.ref fRt) = true
  GRt : FnG P w K mg base CX0 11 fRt fdRt ["_law_text_so"] spRight
  bRt : Binds K fdRt ["_law_text_so"] []
  gBt : mg "_law_bent" = some (.ref fBt)
  kBt : PySem.W.keepIn K (.ref fBt) = true
  GBt : FnOk P w K mg base CX0 3 fBt fdBt ["_law_pen_here", "_law_text_so"] spBent
  bBt : Binds K fdBt ["_law_pen_here", "_law_text_so"] []
  gPen : mg "_law_pen" = some (.ref fPen)
  kPen : PySem.W.keepIn K (.ref fPen) = true
  GPen : FnOk P w K mg base CX0 1 fPen fdPen ["_law_script"] (spPen K)
  bPen : Binds K fdPen ["_law_script"] []
section
variable {P : Program} {w : World} {K : PySem.W.Frag} {mg : Str → Option Value} {base : Heap} {C CP CM CT fCI fPI fSC fSP fLC fCEq fPEq fR fHeard fCode fCt fPick fRt fBt fPen mc : Addr} {mcv : Value} {fdCI fdPI fdR fdHeard fdCode fdCt fdPick fdRt fdBt fdPen : FuncData}
theorem ok_law11 {f : Addr} {fd : FuncData} (F : Fun K "law" "law" sLaw f fd) (U : Uses11 P w K mg base C CP CM CT fCI fPI fSC fSP fLC fCEq fPEq fR fHeard fCode fCt fPick fRt fBt fPen mc mcv fdCI fdPI fdR fdHeard fdCode fdCt fdPick fdRt fdBt fdPen) :
    FnG P w K mg base CX0 13 f fd ["_law_script"] (spLawK K) := by
  have TF := U.T
  have FR : FnR P w K mg base (L2.CX P w) 8 fR (spMRead CM CT C CP) := fnr_of U.GR U.bR
  refine FnG.body F scLaw (fun vs H Q E h => ?_) (fun cdv A outer s H vs Q E hgd hr h => ?_)
  · obtain ⟨_, _, rfl, _⟩ := h
    rfl
  · obtain ⟨a, ns, rfl, hS, hl, k⟩ := h
    have nd := scLaw.nd
    have hg2 : (cxOf CX0 P w K mg base nLaw "law" (defScope sLaw) f cdv A outer s H E).nox.A.guards = some [] := hgd
    have hu : (cxOf CX0 P w K mg base nLaw "law" (defScope sLaw) f cdv A outer s H E).nox.A.units + 64 < cLine := hr.units
    refine ⟨_, (pss_cons (ps_set (i := 1) nd rfl (.inl rfl) (pe_call U.GPen (hr.mono (by decide)) (by rfl) U.gPen U.kPen U.bPen .nil pass0 (pa_cons (pv 0) pa_nil)))
      (pss_cons (ps_for PassesOwn.never rfl (pi_range1 rfl TF.range (pa_cons pe_int pa_nil)) (pg_name (i := 2) nd rfl (.inl rfl))
      (pss_cons (ps_set (i := 3) nd rfl (.inl rfl) (pe_call U.GCode (hr.mono (by decide)) (by rfl) U.gCode U.kCode U.bCode .nil pass0 (pa_cons (pv 1) (pa_cons (pe_call U.GPick (hr.mono (by decide)) (by rfl) U.gPick U.kPick U.bPick .nil pass0 (pa_cons (pv 1) (pa_cons (pe_lst (pa_cons pe_str (pa_cons pe_str (pa_cons pe_str (pa_cons pe_str (pa_cons pe_str pa_nil)))))) pa_nil))) pa_nil))))
      (pss_cons (ps_set (i := 4) nd rfl (.inl rfl) (pe_call U.GCt (hr.mono (by decide)) (by rfl) U.gCt U.kCt U.bCt .nil pass0 (pa_cons (pv 3) pa_nil)))
      (pss_cons (ps_if (PW.pt (pw_or (pt_cmpR op_ne (pe_callTy (call_strI (C := C) U.hC U.iC U.GC (hr.mono (by decide)) pass0) (by rfl) TF.str (by decide +kernel) (pa_cons (pe_make U.MC U.FC (hr.mono (by decide)) (by rfl) U.CC.gC U.bFC .nil pass0 (pa_cons (pv 3) pa_nil)) pa_nil)) (pv 4) (nomark _)) (pw_or (pt_cmpR (op_neI (C := C) U.hNeC U.hEqC U.iEqC U.CC.cM U.GEqC (hr.mono (by decide)) pass0) (ClX.pe_cmeth (pe_glob (v := .ref CM) (by rfl) U.gM rfl) U.cr U.cm FR (hr.mono (by decide)) passE0 (pa_cons (pv 4) pa_nil)) (pe_make U.MC U.FC (hr.mono (by decide)) (by rfl) U.CC.gC U.bFC .nil pass0 (pa_cons (pv 3) pa_nil)) (nomark _)) (pw_or1 (pt_not (pt_val (pe_callG U.GRt hg2 (hr.mono (by decide)) (by rfl) U.gRt U.kRt U.bRt pass0 (pa_cons (pv 4) pa_nil)))))))) (pss_one (ps_ret pe_bl)) pss_nil)
      (pss_cons (ps_set (i := 5) nd rfl (.inl rfl) (pe_call U.GPickS (hr.mono (by decide)) (by rfl) U.gPick U.kPick U.bPick .nil pass0 (pa_cons (pv 1) (pa_cons pe_str pa_nil))))
      (pss_cons (ps_if (PW.pt (pw_or (pt_cmpR op_ne (pe_callTy (call_strI (C := CP) U.hP U.iP U.GP (hr.mono (by decide)) pass0) (by rfl) TF.str (by decide +kernel) (pa_cons (pe_make U.MP U.FP (hr.mono (by decide)) (by rfl) U.CPu.gP U.bFP .nil pass0 (pa_cons (pv 5) pa_nil)) pa_nil)) (pe_op op_add_str pe_str (pv 5)) (nomark _)) (pw_or1 (pt_cmpR (op_neI (C := CP) U.hNeP U.hEqP U.iEqP U.CPu.cM U.GEqP (hr.mono (by decide)) pass0) (ClX.pe_cmeth (pe_glob (v := .ref CM) (by rfl) U.gM rfl) U.cr U.cm FR (hr.mono (by decide)) passE0 (pa_cons (pe_op op_add_str pe_str (pv 5)) pa_nil)) (pe_make U.MP U.FP (hr.mono (by decide)) (by rfl) U.CPu.gP U.bFP .nil pass0 (pa_cons (pv 5) pa_nil)) (nomark _))))) (pss_one (ps_ret pe_bl)) pss_nil)
      (pss_cons (ps_for PassesOwn.never rfl (pi_range1 rfl TF.range (pa_cons pe_int pa_nil)) (pg_name (i := 6) nd rfl (.inl rfl))
      (pss_cons (ps_set (i := 7) nd rfl (.inl rfl) (pe_call U.GBt (hr.mono (by decide)) (by rfl) U.gBt U.kBt U.bBt .nil pass0 (pa_cons (pv 1) (pa_cons (pv 4) pa_nil))))
      (pss_one (ps_if (PW.pt (pw_or (pt_not (pt_val (pe_callG U.GRt hg2 (hr.mono (by decide)) (by rfl) U.gRt U.kRt U.bRt pass0 (pa_cons (pv 7) pa_nil)))) (pw_or (pt_not (pt_val (pe_callG U.GRt hg2 (hr.mono (by decide)) (by rfl) U.gRt U.kRt U.bRt pass0 (pa_cons (pe_call U.GBt (hr.mono (by decide)) (by rfl) U.gBt U.kBt U.bBt .nil pass0 (pa_cons (pv 1) (pa_cons (pv 7) pa_nil))) pa_nil)))) (pw_or1 (pt_not (pt_val (pe_callG U.GRt hg2 (hr.mono (by decide)) (by rfl) U.gRt U.kRt U.bRt pass0 (pa_cons (pe_call U.GBt (hr.mono (by decide)) (by rfl) U.gBt U.kBt U.bBt .nil pass0 (pa_cons (pv 1) (pa_cons (pe_op op_add_str pe_str (pv 5)) pa_nil))) pa_nil)))))))) (pss_one (ps_ret pe_bl)) pss_nil))))
      (pss_cons (ps_set (i := 8) nd rfl (.inl rfl) (pe_call U.GPick (hr.mono (by decide)) (by rfl) U.gPick U.kPick U.bPick .nil pass0 (pa_cons (pv 1) (pa_cons (pe_lst (pa_cons pe_non (pa_cons pe_int (pa_cons pe_bl (pa_cons (pe_lst (pa_cons pe_str (pa_cons pe_str pa_nil))) (pa_cons (pe_tup (pa_cons pe_str pa_nil)) (pa_cons pe_dnewK (pa_cons (pe_make U.MP U.FP (hr.mono (by decide)) (by rfl) U.CPu.gP U.bFP .nil pass0 (pa_cons pe_str pa_nil)) pa_nil)))))))) pa_nil))))
      (pss_one (ps_if (pt_cmpR op_ne (pe_callB (r := rReprA K) (id := "repr") (by exact call_reprA hg2 hu) (by rfl) U.gRepr (by decide +kernel) (pa_cons (pe_call U.GHeard (hr.mono (by decide)) (by rfl) U.gHeard U.kHeard U.bHeard .nil pass0 (pa_cons (pv 8) pa_nil)) pa_nil)) pe_str (nomark _)) (pss_one (ps_ret pe_bl)) pss_nil))))))))))
      (pss_cons (ps_set (i := 9) nd rfl (.inl rfl) (pe_lst (pa_cons pe_str (pa_cons pe_str (pa_cons pe_str (pa_cons pe_str (pa_cons pe_str (pa_cons pe_str (pa_cons pe_str (pa_cons pe_str (pa_cons pe_str (pa_cons pe_str (pa_cons pe_str (pa_cons pe_str pa_nil))))))))))))))
      (pss_cons (ps_set (i := 9) nd rfl (.inl rfl) (pe_op op_cat (pv 9) (pe_lst (pa_cons pe_str (pa_cons pe_str (pa_cons pe_str (pa_cons pe_str (pa_cons pe_str (pa_cons pe_str (pa_cons pe_str pa_nil))))))))))
      (pss_cons (ps_set (i := 9) nd rfl (.inl rfl) (pe_op op_cat (pv 9) (pe_lst (pa_cons pe_str (pa_cons pe_str (pa_cons pe_str (pa_cons pe_str (pa_cons pe_str pa_nil))))))))
      (pss_cons (ps_set (i := 10) nd rfl (.inl rfl) pe_str)
      (pss_cons (ps_expr (pe_bm PySem.F.plainAttrs_list PySem.F.slot_list_append PySem.F.type_list_append mt_append (pv 9) (pa_cons (pe_op op_add_str pe_str (pe_join pe_str (pe_lc (own := [("_law_sign", 5)]) (wi := iStr (tVar 10)) (g := gName 5) (tt := tYes) (te := tOp rAddS (tOp rAddS (tVar 5) (tC (.str " "))) (tVar 5)) rfl nd (by exact pi_str (pv 10)) (by refine blkOk_by (own := [("_law_sign", 5)]) (N := nLaw) (sc := defScope sLaw) ?_; decide +kernel)
        (fun _ _ _ _ _ => pg_name (i := 5) nd rfl (Or.inl rfl)) (fun _ _ _ _ _ => pts_nil) (fun _ _ _ _ _ => pe_op op_add_str (pe_op op_add_str (pv 5) pe_str) (pv 5))))) pa_nil)))
      (pss_cons (ps_if (pt_cmpR op_ne (pe_callB (call_lenI (C := C) U.hL U.iL U.GL (hr.mono (by decide)) pass0) (by rfl) TF.len PySem.boot_len (pa_cons (ClX.pe_cmeth (pe_glob (v := .ref CM) (by rfl) U.gM rfl) U.cr U.cm FR (hr.mono (by decide)) passE0 (pa_cons (pe_ix (r := rIxL K) (by exact ix_list) (pv 9) (pe_un un_neg pe_int) (fun _ _ => rfl)) pa_nil)) pa_nil)) pe_int (nomark _)) (pss_one (ps_ret pe_bl)) pss_nil)
      (pss_one (ps_ret (pe_and (pe_cmpR (r := rEqD K) (by exact op_eqD hr.units) (pe_lc (own := [("_law_text_so", 4)]) (wi := iList K (tVar 9)) (g := gName 4) (tt := tNot (tB (tCall spRight [] E0 (tCons (tVar 4) tNil)))) rfl nd (by exact pi_list (pv 9)) (by refine blkOk_by (own := [("_law_text_so", 4)]) (N := nLaw) (sc := defScope sLaw) ?_; decide +kernel)
        (fun _ _ _ _ _ => pg_name (i := 4) nd rfl (Or.inl rfl)) (fun _ _ _ _ _ => pts_one (pt_not (pt_val (pe_callG U.GRt (by exact hg2) (hr.mono (by decide)) (by rfl) U.gRt U.kRt U.bRt pass0 (pa_cons (pv 4) pa_nil))))) (fun _ _ _ _ _ => pv 4)) (pe_lst pa_nil) (nomark _)) (pe_one (pe_cmpR (op_cmpI (C := CP) (op := .Eq) (fun _ _ => rfl) U.hEqP U.iEqP U.GEqP (hr.mono (by decide)) pass0) (pe_cmethKX (ks := ["text"]) (gv := fun zs => zs) (gu := fun ws => ws) (pe_glob (v := .ref CM) (by rfl) U.gM rfl) U.cr U.cm U.GR (hr.mono (by decide)) passE0 (pk_cons pe_str pk_nil) U.bRK (fun r _ => r)) (pe_make U.MP U.FP (hr.mono (by decide)) (by rfl) U.CPu.gP U.bFP .nil pass0 (pa_cons pe_str pa_nil)) (nomark _)))))))))))))), ?_⟩
    have rightE : ∀ {σ : L2.St} {G : Hp} {te : TE} {t : Str}, Ev te σ G (.str t) → t.length ≤ 400 → PlainS t → Ev (tCall spRight [] E0 (tCons te tNil)) σ G (.bl true) := fun h tl pl => ev_call (ea_cons h ea_nil) fun H1 x1 Q1 q1 E1 => ⟨_, rfl, tl, pl, q1⟩
    refine ⟨_, rfl, a, ns, rfl, hS, hl, fun Pn L ms H0 hP0 x0 pen0 => ?_⟩
    refine q_forR1 (n := 6) (ea_cons ev_c ea_nil) ⟨by decide, by decide⟩
      (fun i σ' H' => ∃ (y2 y3 y4 y5 y6 y7 y8 : Option V) (s : Nat) (g : Int), σ' = [some (.ref a), some (.ref Pn), y2, y3, y4, y5, y6, y7, y8, none, none] ∧ Pen H' Pn L ms s g ∧ s ≤ 200 * i)
      (fun H1 x1 => ⟨_, _, _, _, _, _, _, 0, 0, rfl, pen0.mono x1, Nat.le_refl _⟩) (fun i σ' H' hi p => ?_) (fun σ' H' p => ?_)
    · obtain ⟨y2, y3, y4, y5, y6, y7, y8, s, g, rfl, pen, hs⟩ := p
      dsimp only [List.set_cons_succ, List.set_cons_zero]
      have ll := el_lst (σ := [some (.ref a), some (.ref Pn), some (.int (i : Int)), y3, y4, y5, y6, y7, y8, none, none]) (H := H') (vs := al11.map V.str) ea_al (by show 5 ≤ 100000; decide)
      refine ⟨_, rfl, ?_⟩
      refine (?_ : tCons _ _ _ H' _)
      refine (?_ : tCall spPick _ _ _ _ H' _)
      refine ⟨_, rfl, ?_⟩
      refine (?_ : tCons _ _ _ H' _)
      refine ll H' (Ex.refl _) _ fun l H1 hl1 x1 el => ?_
      have pen1 := pen.mono x1
      refine ⟨Pn, L, l, ms, al11.map V.str, s, g, rfl, (by decide), by show 5 ≤ 1000; decide, el, (ne_of_none pen.pen hl1).symm, pen1, by omega, fun v s2 g2 H2 hv hs2 but2 pen2 => ?_⟩
      obtain ⟨al, hal, rfl⟩ := mem_str hv
      obtain ⟨hal2, al4⟩ := al11_in al hal
      refine ⟨Pn, L, ms, s2, g2, al, rfl, hal2, pen2, by omega, fun p ws s3 g3 H3 CD hs3 but3 ep pen3 => ?_⟩
      have G := CD.code hal2
      have wl : ws.length ≤ 4 := by
        have := CD.keys.length_eq
        rw [List.length_map, signsL_len] at this
        omega
      dsimp only [gName, List.set_cons_succ, List.set_cons_zero]
      refine ⟨_, rfl, p, ws, rfl, ep, G, fun H4 x4 => ?_⟩
      have TT : Tx 29 (codeT (codeOf ws)) := ⟨by
        have := codeT_few G.of.short
        rw [codeOf_len G.nd] at this
        omega, codeT_plain G.of⟩
      have rd : readM (Txt.split (codeT (codeOf ws)) " ") = .ok (.code (codeOf ws)) := by
        rw [code_split G.of]
        exact code_reads G
      have ok := G.of.ok
      have S := G.of.short
      have ep4 := x4 _ _ ep
      have pen4 := pen3.mono x4
      dsimp only [gName, List.set_cons_succ, List.set_cons_zero]
      have mk : ∀ {σ : L2.St} {G2 : Hp}, Ex H4 G2 → σ[3]? = some (some (.ref p)) → EvP (tMake C (spCInit C) [] E0 (tCons (tVar 3) tNil)) σ G2 (IsC C (codeOf ws)) := fun x es => evp_code G fun G1 y Q1 q1 => ⟨_, es, q1 _ G1 (Ex.refl _) ⟨p, rfl, (x.trans y) _ _ ep4⟩⟩
      refine q_when (b := false) (et_is (et_or (a := false) (et_is (et_test (ev_op (ev_strCP S (mk (Ex.refl _) rfl)) (ev_var rfl) (rv_ne rfl))) (by rw [decide_eq_true rfl]; rfl)) fun _ => et_or (a := false) (et_is (et_test (ev_neC (E := E0) ok ok (evp_readC (CM := CM) (CT := CT) (CP := CP) (E := E0) (by have := TT.1; omega) rd (ev_var rfl)) (mk (Ex.refl _) rfl))) (by rw [decide_eq_true rfl]; rfl)) fun _ => et_not (et_B (rightE (ev_var rfl) (by have := TT.1; omega) TT.2))) rfl) (fun z => by cases z) fun _ H5 x5 => ?_
      have pen5 := pen4.mono x5
      -- the put
      refine ⟨_, rfl, Pn, L, ms, sSIGNS, s3, g3, rfl, by show 0 < 36; decide, by show 36 ≤ 1000; decide, pen5, by omega, fun c s6 g6 H6 hc hs6 but6 pen6 => ?_⟩
      dsimp only [gName, List.set_cons_succ, List.set_cons_zero]
      have putE : ∀ {σ : L2.St} {G : Hp}, σ[5]? = some (some (.str ⟨#[c]⟩)) → Ev (tOp rAddS (tC (.str "put ")) (tVar 5)) σ G (.str (("put " : Str) ++ ⟨#[c]⟩)) := fun es => ev_cat ev_c (ev_var es) (by show 4 + 1 ≤ 1000; decide)
      have PT := put_tx hc
      refine q_when (b := false) (et_is (et_or (a := false) (et_is (et_test (ev_op (ev_strPP (E := E0) (by show 1 ≤ 1000; decide) (evp_put (CP := CP) (E := E0) hc (ev_var rfl))) (putE rfl) (rv_ne rfl))) (by rw [decide_eq_true rfl]; rfl)) fun _ => et_is (et_test (ev_neP (E := E0) (evp_readP (CM := CM) (CT := CT) (C := C) (CP := CP) (E := E0) (by have := PT.1; omega) (put_read hc) (putE rfl)) (evp_put (CP := CP) (E := E0) hc (ev_var rfl)))) (by rw [decide_eq_true rfl]; rfl)) rfl) (fun z => by cases z) fun _ H7 x7 => ?_
      have pen7 := pen6.mono x7
      -- bent
      refine q_forR1 (n := 4) (ea_cons ev_c ea_nil) ⟨by decide, by decide⟩
        (fun j σ' G' => ∃ (z6 z7 : Option V) (s' : Nat) (g' : Int), σ' = [some (.ref a), some (.ref Pn), some (.int (i : Int)), some (.ref p), some (.str (codeT (codeOf ws))), some (.str ⟨#[c]⟩), z6, z7, y8, none, none] ∧ Pen G' Pn L ms s' g' ∧ s' ≤ s6 + 12 * j)
        (fun H8 x8 => ⟨_, _, s6, g6, rfl, pen7.mono x8, Nat.le_refl _⟩) (fun j σ' G' hj q => ?_) (fun σ' G' q => ?_)
      · obtain ⟨z6, z7, s', g', rfl, pn, hs'⟩ := q
        dsimp only [List.set_cons_succ, List.set_cons_zero]
        refine ⟨_, rfl, _, rfl, Pn, L, ms, s', g', _, 29, rfl, by decide, TT, pn, by omega, fun u s8 g8 H8 Tu hs8 but8 pen8 => ?_⟩
        dsimp only [gName, List.set_cons_succ, List.set_cons_zero]
        refine (?_ : tOr _ _ _ H8 _)
        refine (et_not (et_B (rightE (ev_var rfl) (Nat.le_trans Tu.1 (by decide)) Tu.2))) H8 (Ex.refl _) _ fun H9 x9 => ?_
        dsimp only
        rw [if_neg (by decide)]
        refine (?_ : tOr _ _ _ H9 _)
        refine (?_ : tNot _ _ H9 _)
        refine ⟨_, rfl, _, rfl, Pn, L, ms, s8, g8, u, 66, rfl, by decide, Tu, pen8.mono x9, by omega, fun u2 s10 g10 H10 Tu2 hs10 but10 pen10 => ?_⟩
        refine ⟨u2, rfl, Nat.le_trans Tu2.1 (by decide), Tu2.2, fun H11 x11 => ⟨true, rfl, ?_⟩⟩
        dsimp only
        rw [if_neg (by decide)]
        refine (?_ : tNot _ _ H11 _)
        refine ⟨_, rfl, ?_⟩
        refine (?_ : tCons _ _ _ H11 _)
        refine (putE rfl) H11 (Ex.refl _) _ fun H12 x12 => ?_
        refine ⟨Pn, L, ms, s10, g10, _, 5, rfl, by decide, PT, (pen10.mono x11).mono x12, by omega, fun u3 s13 g13 H13 Tu3 hs13 but13 pen13 => ?_⟩
        refine ⟨u3, rfl, Nat.le_trans Tu3.1 (by decide), Tu3.2, fun H14 x14 => ⟨true, rfl, ?_⟩⟩
        dsimp only
        rw [if_neg (by decide)]
        exact ⟨_, _, s13, g13, rfl, pen13.mono x14, by omega⟩
      · obtain ⟨z6, z7, s', g', rfl, pn, hs'⟩ := q
        -- no text
        have ns : ∀ {te : TE} {v' : V}, Ev te [some (.ref a), some (.ref Pn), some (.int (i : Int)), some (.ref p), some (.str (codeT (codeOf ws))), some (.str ⟨#[c]⟩), z6, z7, y8, none, none] G' v' → (∀ G, NoT CP Pn v' G) → EvP te [some (.ref a), some (.ref Pn), some (.int (i : Int)), some (.ref p), some (.str (codeT (codeOf ws))), some (.str ⟨#[c]⟩), z6, z7, y8, none, none] G' (NoT CP Pn) := fun h n G1 y Q1 q1 => h G1 y _ fun G2 y2 => q1 _ G2 y2 (n G2)
        have fresh : ∀ {G1 : Hp} {q : Addr}, Ex G' G1 → G1 q = none → q ≠ Pn := fun y hq => (ne_of_none (y _ _ pn.pen) hq).symm
        refine pick_of (R := NoT CP Pn) (i0 := 1) (up_noT CP Pn) (n := 7) (fun b _ h => noT_but b h) rfl (all_cons (up_noT CP Pn) (ns ev_c fun _ => .non) (all_cons (up_noT CP Pn) (ns ev_c fun _ => .int 0) (all_cons (up_noT CP Pn) (ns ev_c fun _ => .bl true)
            (all_cons (up_noT CP Pn) (fun G1 y Q1 q1 => (el_lst (vs := [.str "put", .str "0"]) (ea_cons ev_c (ea_cons ev_c ea_nil)) (by show 2 ≤ 100000; decide)) G1 y Q1 fun q G2 hq y2 e => q1 _ G2 y2 (.lst (fresh y hq) e))
            (all_cons (up_noT CP Pn) (fun G1 y Q1 q1 => (eu_tup (vs := [.str "put 0"]) (ea_cons ev_c ea_nil) (by show 1 ≤ 100000; decide)) G1 y Q1 fun q G2 hq y2 e => q1 _ G2 y2 (.tup (fresh y hq) e))
            (all_cons (up_noT CP Pn) (fun G1 y Q1 q1 q hq => q1 _ _ (Ex.new hq) (.dic (fresh y hq) upd_same))
            (all_cons (up_noT CP Pn) (fun G1 y Q1 q1 => (evp_put (CP := CP) (E := E0) (c := 48) (te := tC (.str "0")) (by decide +kernel) ev_c) G1 y _ fun v G2 y2 ⟨q, e, dx, h⟩ => by
              subst e
              exact q1 _ G2 y2 (.put (fun z => by
                have := y2 _ _ (y _ _ pn.pen)
                rw [← z, h] at this
                cases this) h)) all_nil))))))) (by decide) (by decide) pn (by omega) fun v s10 g10 H10 nv hs10 but10 pen10 => ?_
        dsimp only [gName, List.set_cons_succ, List.set_cons_zero]
        refine (?_ : tOp rNe _ _ _ H10 _)
        refine (?_ : tCB _ _ _ H10 _)
        refine (?_ : tCons _ _ _ H10 _)
        refine ⟨_, rfl, .inr ⟨v, rfl, nv.ty U.CPu U.kP, fun q H11 hq x11 e11 => ?_⟩⟩
        have sh := shows_pair 0 (by decide)
        unfold shows at sh
        simp only [Bool.and_eq_true, decide_eq_true_eq] at sh
        refine ⟨.ref q, .tuple [.int 0, .int ((0 : Nat) : Int)], rfl, .tup (st_of e11) (.cons (.int 0) (.cons (.int _) .nil)), sh.1.1, sh.1.2, sh.2, ?_⟩
        have es : (PyData.tuple [.int 0, .int ((0 : Nat) : Int)]).shown = "(0, 0)" := by decide +kernel
        rw [es]
        dsimp only [tC]
        refine (rv_ne (x := .str "(0, 0)") (y := .str "(0, 0)") rfl) H11 (Ex.refl _) _ fun H12 x12 => ⟨_, rfl, ?_⟩
        rw [decide_eq_true rfl, if_neg (by decide)]
        exact ⟨_, _, _, _, _, _, _, s10, g10, rfl, (pen10.mono x11).mono x12, by omega⟩
    · obtain ⟨y2, y3, y4, y5, y6, y7, y8, s, g, rfl, pen, hs⟩ := p
      refine q_asgP (P := IsSL some1) (es_lst ea_some1 (by decide)) fun v1 H1 x1 ⟨p1, ev1, e1⟩ => ?_
      subst ev1
      refine q_asgP (P := IsSL (some1 ++ some2)) (es_cat (es_var (i := 9) rfl e1) (es_lst ea_some2 (by decide)) (by decide)) fun v2 H2 x2 ⟨p2, ev2, e2⟩ => ?_
      subst ev2
      refine q_asgP (P := IsSL (some1 ++ some2 ++ some3)) (es_cat (es_var (i := 9) rfl e2) (es_lst ea_some3 (by decide)) (by decide)) fun v3 H3 x3 ⟨p3, ev3, e3⟩ => ?_
      subst ev3
      dsimp only [gName, List.set_cons_succ, List.set_cons_zero]
      refine q_asg (v := .str sSIGNS) ev_c fun H4 x4 => ?_
      have e4 := x4 _ _ e3
      dsimp only [gName, List.set_cons_succ, List.set_cons_zero]
      have everyE : Ev (tOp rAddS (tC (.str "code ")) (tM1 (rJoin K) (tC (.str " ")) (tLc (iStr (tVar 10)) (gName 5) tYes (tOp rAddS (tOp rAddS (tVar 5) (tC (.str " "))) (tVar 5)) [5]))) [some (.ref a), some (.ref Pn), y2, y3, y4, y5, y6, y7, y8, some (.ref p3), some (.str sSIGNS)] H4 (.str (codeT everyQ)) := by
        have z := el_signsM (te := tOp rAddS (tOp rAddS (tVar 5) (tC (.str " "))) (tVar 5)) (tl := tVar 10) (j := 5) (vs := [5]) (σ := [some (.ref a), some (.ref Pn), y2, y3, y4, y5, y6, y7, y8, some (.ref p3), some (.str sSIGNS)]) (H := H4) (z := sSIGNS) (fun c => .str (prT (c, c))) (ev_var rfl) (by show 36 ≤ 40000; decide) (fun _ => rfl) (fun s G y ms => by
          have l1 := (sign_over ms).2
          exact ev_cat (ev_cat (ev_var rfl) ev_c (by rw [l1]; decide)) (ev_var rfl) (by rw [cat_len, l1]; decide))
        have e : (signsL sSIGNS).map (fun c => V.str (prT (c, c))) = (everyQ.map prT).map V.str := by
          unfold everyQ
          rw [List.map_map, List.map_map]
          rfl
        rw [e] at z
        have sum := sum_bound (fun w : Str => w.length) 5 (everyQ.map prT) fun w hw => by
          obtain ⟨q, hq, rfl⟩ := List.mem_map.mp hw
          have l1 := every_good.short.klen q hq
          have l2 := every_good.short.len q hq
          rw [prT_len]
          omega
        rw [List.length_map, every_len] at sum
        have o1 : (" " : Str).length = 1 := rfl
        have jn := ev_joinL (K := K) (s := " ") z (by rw [List.length_map, every_len, o1]; have sum' : ((everyQ.map prT).map (·.length)).sum ≤ 5 * 36 := sum; omega)
        have hd : ("code " : Str) ++ Txt.join " " (everyQ.map prT) = codeT everyQ := by
          cases e : everyQ with
          | nil => exact absurd e every_ne
          | cons a r =>
            have j := join_head "code" (prT a) (r.map prT)
            rw [← join_pairs, List.map_cons, ← j]
            rfl
        have jl := join_len " " (everyQ.map prT)
        rw [List.length_map, every_len, o1] at jl
        refine ev_is (ev_cat (a := "code ") ev_c jn ?_) (by rw [hd])
        show 5 + _ ≤ 1000
        have sum' : (List.map (fun x : Str => x.length) (everyQ.map prT)).sum ≤ 5 * 36 := sum
        omega
      have TE : (codeT everyQ).length ≤ 400 := by
        have := codeT_few every_good.short
        rw [every_len] at this
        omega
      have PE := codeT_plain every_good
      refine ⟨_, rfl, .inl ⟨rfl, _, sq_of e4⟩, ?_⟩
      refine (?_ : tCons _ _ _ H4 _)
      refine everyE H4 (Ex.refl _) _ fun H5 x5 => ?_
      refine ⟨p3, _, _, rfl, rfl, x5 _ _ e4, by rw [List.length_map, sizeLine_eq]; decide, ?_⟩
      have e6 : upd H5 p3 (.lst ((some1 ++ some2 ++ some3).map V.str ++ [.str (codeT everyQ)])) p3 = some (.lst ((some1 ++ some2 ++ some3 ++ [codeT everyQ]).map V.str)) := by
        rw [upd_same, List.map_append (l₁ := some1 ++ some2 ++ some3)]
        rfl
      have all_ok : ∀ t ∈ some1 ++ some2 ++ some3 ++ [codeT everyQ], t.length ≤ 400 ∧ PlainS t := fun t ht => by
        rcases List.mem_append.mp ht with h | h
        · exact some_ok t h
        · rw [List.mem_singleton.mp h]
          exact ⟨TE, PE⟩
      have lastE : atI ((some1 ++ some2 ++ some3 ++ [codeT everyQ]).map V.str) (-1) = some (.str (codeT everyQ)) := by
        rw [List.map_append (l₁ := some1 ++ some2 ++ some3)]
        exact atI_last _ _
      have fewE : (some1 ++ some2 ++ some3 ++ [codeT everyQ]).length ≤ 100 := by
        rw [List.length_append]
        decide
      generalize some1 ++ some2 ++ some3 ++ [codeT everyQ] = us at e6 all_ok lastE fewE
      generalize upd H5 p3 (.lst ((some1 ++ some2 ++ some3).map V.str ++ [.str (codeT everyQ)])) = H6 at e6 ⊢
      have lst : Ev (tOp (rIxL K) (tVar 9) (tUn (rU fun i => .int (-i)) (tC (.int 1)))) [some (.ref a), some (.ref Pn), y2, y3, y4, y5, y6, y7, y8, some (.ref p3), some (.str sSIGNS)] H6 (.str (codeT everyQ)) := ev_op (ev_var rfl) (fun G1 y1 Q1 q1 => ⟨1, rfl, q1 G1 (Ex.refl _)⟩ : Ev (tUn (rU fun i => .int (-i)) (tC (.int 1))) _ _ (.int (-1))) (rv_ixL (sq_of e6) lastE)
      refine q_when (b := false) (et_is (et_test (ev_op (ev_lenC (E := E0) (by rw [every_len]; decide) (evp_readC (CM := CM) (CT := CT) (C := C) (CP := CP) (E := E0) (by omega) every_reads lst)) ev_c (rv_ne rfl))) (by rw [every_len]; rfl)) (fun z => by cases z) fun _ H7 x7 => ?_
      have told := el_fmL (K := K) (σ := [some (.ref a), some (.ref Pn), y2, y3, y4, y5, y6, y7, y8, some (.ref p3), some (.str sSIGNS)]) (H := H7) (tl := tVar 9) (j := 4) (vs := [4]) (a := p3) (xs := us.map V.str) (t := tNot (tB (tCall spRight [] E0 (tCons (tVar 4) tNil)))) (te := tVar 4) (fun _ => false) (fun x => x) (ev_var rfl) (sq_of (x7 _ _ e6)) (by rw [List.length_map]; omega) (fun _ => rfl) (fun x G y hx => by
        obtain ⟨t, mt, rfl⟩ := mem_str hx
        obtain ⟨h1, h2⟩ := all_ok t mt
        exact et_is (et_not (et_B (rightE (ev_var rfl) h1 h2))) rfl) (fun x G y hx e => by cases e)
      rw [show (((us.map V.str).filter fun _ => false).map fun x => x) = ([] : List Str).map V.str by simp] at told
      refine s_ret (v := .bl true) (ev_andV (a := true) (b := true) (by
          have z := KU.ev_eqNil (K := K) (a := []) told fun t ht => by cases ht
          rw [decide_eq_true rfl] at z
          exact z) fun _ => by
          have z := ev_eqP (K := K) (E := E0) (σ := [some (.ref a), some (.ref Pn), y2, y3, y4, y5, y6, y7, y8, some (.ref p3), some (.str sSIGNS)]) (H := H7) U.nfP (evp_readPK (CM := CM) (CT := CT) (C := C) (CP := CP) (E := E0) (t := ("put " : Str) ++ ⟨#[57]⟩) (te := tC (.str "put 9")) (by rw [cat_len]; decide) (put_read (c := 57) (by decide +kernel)) ev_c) (evp_put (CP := CP) (E := E0) (c := 57) (te := tC (.str "9")) (by decide +kernel) ev_c)
          rw [decide_eq_true rfl] at z
          exact z) fun H8 x8 => k H8
end
end K02

set_option Elab.async false
set_option linter.all false
set_option maxRecDepth 100000
set_option maxHeartbeats 8000000
/-! What the text's top has written, and the law from it -/
namespace K02
open PySem PySem.Spec PyProof.Rows L2 Evl KU
/-- a def of the text's top -/
structure FnF (K : PySem.W.Frag) (mg : Str → Option Value) (x : Str) (st : Stmt) (f : Addr) (fd : FuncData) : Prop where
  g : mg x = some (.ref f)
  F : Fun K x x st f fd
theorem fnf_mk {K : PySem.W.Frag} {h : Heap} {mg : Str → Option Value} (X : K.In h) (G : h.Ns mainGlobals mg) {x : Str} {st : Stmt} {f : Addr} {oc kV dc pm cd ct : Value} {od an : Option Addr} {osl : Array (Option Value)} (a : PySem.W.nsIn K mainGlobals x = some (some (.ref f)))
    (l : K.lookup f = some ⟨oc, od, .func (PySem.W.fnOf x x (defArgs st) (defBody st) (defScope st) .none kV dc pm an cd ct), osl⟩) (B : (PySem.W.codeIn K cd x && PySem.W.keepIn K (.ref f)) = true) : FnF K mg x st f (PySem.W.fnOf x x (defArgs st) (defBody st) (defScope st) .none kV dc pm an cd ct) := by
  obtain ⟨b1, b2⟩ := Bool.and_eq_true_iff.mp B
  exact ⟨PySem.W.mg_of X G a, fun_mk l b1 b2⟩
/-- a def of the class -/
theorem met_mk {K : PySem.W.Frag} {x q : Str} {st : Stmt} {f : Addr} {oc kV dc pm cd ct : Value} {od an : Option Addr} {osl : Array (Option Value)}
    (l : K.lookup f = some ⟨oc, od, .func (PySem.W.fnOf x q (defArgs st) (defBody st) (defScope st) .none kV dc pm an cd ct), osl⟩) (B : (PySem.W.codeIn K cd q && PySem.W.keepIn K (.ref f)) = true) : Fun K x q st f (PySem.W.fnOf x q (defArgs st) (defBody st) (defScope st) .none kV dc pm an cd ct) := by
  obtain ⟨b1, b2⟩ := Bool.and_eq_true_iff.mp B
  exact fun_mk l b1 b2
def freeL : List Str := ["int", "len", "abs", "list", "str", "isinstance", "all", "any", "range", "sorted", "tuple", "repr", "dict"]
def freeB (K : PySem.W.Frag) : Bool := freeL.all fun x => PySem.W.nsIn K mainGlobals x == some none
theorem free_of {K : PySem.W.Frag} {h : Heap} {mg : Str → Option Value} (X : K.In h) (G : h.Ns mainGlobals mg) (B : freeB K = true) : ∀ x ∈ freeL, mg x = none := fun x hx => by
  unfold freeB at B
  simp only [List.all_eq_true, beq_iff_eq] at B
  exact PySem.W.mg_none_of X G (B x hx)
/-- what is looked up of Code -/
def codeB (K : PySem.W.Frag) (C fCInit fCEq fCStr fCLen : Addr) : Bool := PySem.W.plainGet K C Str.empty &&
  PySem.W.hasDictIn K C &&
  PySem.W.plainOver K C &&
  PySem.W.findIn K (.ref C) "__setattr__" == some (some (.builtin "object.__setattr__")) &&
  (["words", "_word_of"] : List Str).all (fun f => PySem.W.findIn K (.ref C) f == some none) &&
  PySem.W.findIn K (.ref C) "__class__" == some (some (.builtin "object.__class__")) &&
  PySem.W.specialIn K (.builtin "object.__class__") "__get__" == some (some (.builtin "getset_descriptor.__get__")) &&
  PySem.W.takesIn K (.builtin "object.__class__") == some true &&
  PySem.W.mroIn K C (.type "object") == some true &&
  PySem.W.kitOne K (.ref C) (.ref C) == some true &&
  PySem.W.makesIn K C &&
  PySem.W.findIn K (.ref C) "__init__" == some (some (.ref fCInit)) &&
  PySem.W.isFn K (.ref fCInit) &&
  PySem.W.keepIn K (.ref C) &&
  PySem.W.findIn K (.ref C) "__eq__" == some (some (.ref fCEq)) &&
  PySem.W.isFn K (.ref fCEq) &&
  PySem.W.findIn K (.ref C) "__str__" == some (some (.ref fCStr)) &&
  PySem.W.isFn K (.ref fCStr) &&
  PySem.W.findIn K (.ref C) "__len__" == some (some (.ref fCLen)) &&
  PySem.W.isFn K (.ref fCLen) &&
  PySem.W.findIn K (.ref C) "__ne__" == some (some (.builtin "object.__ne__"))
/-- what is looked up of Put -/
def putB (K : PySem.W.Frag) (CP fPInit fPEq fPStr : Addr) : Bool := PySem.W.plainGet K CP Str.empty &&
  PySem.W.hasDictIn K CP &&
  PySem.W.plainOver K CP &&
  PySem.W.findIn K (.ref CP) "__setattr__" == some (some (.builtin "object.__setattr__")) &&
  (["sign"] : List Str).all (fun f => PySem.W.findIn K (.ref CP) f == some none) &&
  PySem.W.findIn K (.ref CP) "__class__" == some (some (.builtin "object.__class__")) &&
  PySem.W.specialIn K (.builtin "object.__class__") "__get__" == some (some (.builtin "getset_descriptor.__get__")) &&
  PySem.W.takesIn K (.builtin "object.__class__") == some true &&
  PySem.W.mroIn K CP (.type "object") == some true &&
  PySem.W.kitOne K (.ref CP) (.ref CP) == some true &&
  PySem.W.makesIn K CP &&
  PySem.W.findIn K (.ref CP) "__init__" == some (some (.ref fPInit)) &&
  PySem.W.isFn K (.ref fPInit) &&
  PySem.W.keepIn K (.ref CP) &&
  PySem.W.findIn K (.ref CP) "__eq__" == some (some (.ref fPEq)) &&
  PySem.W.isFn K (.ref fPEq) &&
  PySem.W.findIn K (.ref CP) "__str__" == some (some (.ref fPStr)) &&
  PySem.W.isFn K (.ref fPStr) &&
  PySem.W.findIn K (.ref CP) "__ne__" == some (some (.builtin "object.__ne__")) &&
  PySem.W.kitOne K (.ref CP) (.type "str") == some false &&
  PySem.W.notFirst K CP (.ref CP)
/-- what is looked up of Cursor -/
def curB (K : PySem.W.Frag) (D fUInit fPeek fTake fExpect fFinish : Addr) : Bool := PySem.W.plainGet K D Str.empty &&
  PySem.W.hasDictIn K D &&
  PySem.W.plainOver K D &&
  PySem.W.findIn K (.ref D) "__setattr__" == some (some (.builtin "object.__setattr__")) &&
  (["words", "at"] : List Str).all (fun f => PySem.W.findIn K (.ref D) f == some none) &&
  PySem.W.makesIn K D &&
  PySem.W.findIn K (.ref D) "__init__" == some (some (.ref fUInit)) &&
  PySem.W.isFn K (.ref fUInit) &&
  PySem.W.keepIn K (.ref D) &&
  PySem.W.findIn K (.ref D) "peek" == some (some (.ref fPeek)) &&
  PySem.W.isFn K (.ref fPeek) &&
  PySem.W.findIn K (.ref D) "take" == some (some (.ref fTake)) &&
  PySem.W.isFn K (.ref fTake) &&
  PySem.W.findIn K (.ref D) "expect" == some (some (.ref fExpect)) &&
  PySem.W.isFn K (.ref fExpect) &&
  PySem.W.findIn K (.ref D) "finish" == some (some (.ref fFinish)) &&
  PySem.W.isFn K (.ref fFinish)
/-- what is looked up of Move -/
def movB (K : PySem.W.Frag) (CM fRead : Addr) : Bool := PySem.W.readsIn K CM (.type "type") &&
  PySem.W.specialIn K (.ref CM) "__getattribute__" == some (some (.builtin "type.__getattribute__")) &&
  PySem.W.fnIn K fRead
/-- the answers about the error classes -/
def errB (K : PySem.W.Frag) (CF CX : Addr) : Bool := PySem.W.exmOne K (.ref CX) (.ref CF) == some true &&
  PySem.W.kitOne K (.ref CX) (.ref CX) == some true
section
variable {P : Program} {w : World} {K : PySem.W.Frag} {mg : Str → Option Value} {base : Heap}
theorem iniBadText {f : Addr} {fd : FuncData} (F : Fun K "__init__" "BadText.__init__" (inClass (topR 5) 0) f fd) : FnOk P w K mg base CX0 1 f fd ["self", "line", "word"] (spI2 K "line" "word") := by
  refine F.ok (N := ["self", "line", "word"]) ⟨rfl, rfl, rfl, by decide +kernel, rfl, by decide +kernel, by decide +kernel⟩ (fun vs H Q E h => ?_) (fun cdv A outer s H vs Q E hr h => ?_)
  · obtain ⟨_, _, _, _, rfl, _⟩ := h
    rfl
  · obtain ⟨a, C, y, z, rfl, T, no, no2, ha, k⟩ := h
    exact ⟨_, pss_cons (ps_ost (pv 0) (pv 1)) (pss_one (ps_ost (pv 0) (pv 2))), init2_reads (E := E) (N := ["self", "line", "word"]) rfl ⟨a, C, y, z, rfl, T, no, no2, ha, k⟩⟩
theorem clBadText {C : Addr} (gb : getB K = true) (Z : ClF K mg "BadText" "BadText.__init__" (inClass (topR 5) 0) C ["line", "word"]) : Cl P w K mg base "BadText" C ["line", "word"] (spI2 K "line" "word") :=
  cl2_of gb Z (fun F => iniBadText F) (fun _ _ _ _ _ _ us hl => match us, hl with | [_, _, _], _ => rfl) fun _ _ _ _ _ _ _ _ _ => rfl
end
theorem law_of {P : Program} {w : World} {K : PySem.W.Frag} {h : Heap} {mg : Str → Option Value} {fa : Addr} (X : K.In h) (G : h.Ns mainGlobals mg) (hfa : mg "law" = some (.ref fa)) {C CP CM D CF CBadText pOf : Addr} {rest : List Value} {fIsText : Addr} {fdIsText : FuncData} {fIsWord : Addr} {fdIsWord : FuncData} {fIsSign : Addr} {fdIsSign : FuncData} {fBeginsAlike : Addr} {fdBeginsAlike : FuncData} {fCheckWords : Addr} {fdCheckWords : FuncData} {fTakeCodeWord : Addr} {fdTakeCodeWord : FuncData} {fTakeCode : Addr} {fdTakeCode : FuncData} {fTakeMove : Addr} {fdTakeMove : FuncData} {fLawPen : Addr} {fdLawPen : FuncData} {fLawDraw : Addr} {fdLawDraw : FuncData} {fLawPick : Addr} {fdLawPick : FuncData} {fLawMixed : Addr} {fdLawMixed : FuncData} {fLawCode : Addr} {fdLawCode : FuncData} {fLawCodeText : Addr} {fdLawCodeText : FuncData} {fLawIsSign : Addr} {fdLawIsSign : FuncData} {fLawIsWord : Addr} {fdLawIsWord : FuncData} {fLawMeets : Addr} {fdLawMeets : FuncData} {fLawWrong : Addr} {fdLawWrong : FuncData} {fLawHeard : Addr} {fdLawHeard : FuncData} {fLawRight : Addr} {fdLawRight : FuncData} {fLawBent : Addr} {fdLawBent : FuncData} {fCInit : Addr} {fdCInit : FuncData} {fCEq : Addr} {fdCEq : FuncData} {fCStr : Addr} {fdCStr : FuncData} {fCLen : Addr} {fdCLen : FuncData} {fPInit : Addr} {fdPInit : FuncData} {fPEq : Addr} {fdPEq : FuncData} {fPStr : Addr} {fdPStr : FuncData} {fUInit : Addr} {fdUInit : FuncData} {fPeek : Addr} {fdPeek : FuncData} {fTake : Addr} {fdTake : FuncData} {fExpect : Addr} {fdExpect : FuncData} {fFinish : Addr} {fdFinish : FuncData} {fRead : Addr} {fdRead : FuncData} {t0 t1 : Tok}
    {fLaw : Addr} {oc kV dc pm cd ct : Value} {od an : Option Addr} {osl : Array (Option Value)}
    (fr : freeB K = true) (aS : PySem.W.nsIn K mainGlobals "SIGNS" = some (some (.str "0123456789abcdefghijklmnopqrstuvwxyz" t0))) (aMS : PySem.W.nsIn K mainGlobals "MOST_SIGNS" = some (some (.int 3 t1)))
    (aC : PySem.W.nsIn K mainGlobals "Code" = some (some (.ref C))) (aP : PySem.W.nsIn K mainGlobals "Put" = some (some (.ref CP))) (aM : PySem.W.nsIn K mainGlobals "Move" = some (some (.ref CM))) (aD : PySem.W.nsIn K mainGlobals "Cursor" = some (some (.ref D))) (aF : PySem.W.nsIn K mainGlobals "FlagError" = some (some (.ref CF)))
    (cCInit : PySem.W.findIn K (.ref C) "__init__" = some (some (.ref fCInit))) (cCEq : PySem.W.findIn K (.ref C) "__eq__" = some (some (.ref fCEq))) (cCStr : PySem.W.findIn K (.ref C) "__str__" = some (some (.ref fCStr))) (cCLen : PySem.W.findIn K (.ref C) "__len__" = some (some (.ref fCLen))) (cPInit : PySem.W.findIn K (.ref CP) "__init__" = some (some (.ref fPInit))) (cPEq : PySem.W.findIn K (.ref CP) "__eq__" = some (some (.ref fPEq))) (cPStr : PySem.W.findIn K (.ref CP) "__str__" = some (some (.ref fPStr))) (cUInit : PySem.W.findIn K (.ref D) "__init__" = some (some (.ref fUInit))) (cPeek : PySem.W.findIn K (.ref D) "peek" = some (some (.ref fPeek))) (cTake : PySem.W.findIn K (.ref D) "take" = some (some (.ref fTake))) (cExpect : PySem.W.findIn K (.ref D) "expect" = some (some (.ref fExpect))) (cFinish : PySem.W.findIn K (.ref D) "finish" = some (some (.ref fFinish))) (cf : PySem.W.findCls K (.ref CM) (.type "type") "read" = some (.get (.builtin "classmethod.__get__") (.ref pOf) .none (.ref CM))) (cr : PySem.W.recIn K pOf "classmethod" = some (.ref fRead :: rest))
    (cB : codeB K C fCInit fCEq fCStr fCLen = true) (pB : putB K CP fPInit fPEq fPStr = true) (uB : curB K D fUInit fPeek fTake fExpect fFinish = true) (vB : movB K CM fRead = true) (gb : getB K = true) (eB : errB K CF CBadText = true)
    (ZBadText : ClF K mg "BadText" "BadText.__init__" (inClass (topR 5) 0) CBadText ["line", "word"])
    (HIsText : FnF K mg "is_text" sIsText fIsText fdIsText) (HIsWord : FnF K mg "is_word" sIsWord fIsWord fdIsWord) (HIsSign : FnF K mg "is_sign" sIsSgn fIsSign fdIsSign) (HBeginsAlike : FnF K mg "begins_alike" sBegins fBeginsAlike fdBeginsAlike) (HCheckWords : FnF K mg "check_words" sCheck fCheckWords fdCheckWords) (HTakeCodeWord : FnF K mg "take_code_word" sTcw fTakeCodeWord fdTakeCodeWord) (HTakeCode : FnF K mg "take_code" sTc fTakeCode fdTakeCode) (HTakeMove : FnF K mg "take_move" sTm fTakeMove fdTakeMove) (HLawPen : FnF K mg "_law_pen" sPen fLawPen fdLawPen) (HLawDraw : FnF K mg "_law_draw" sDraw fLawDraw fdLawDraw) (HLawPick : FnF K mg "_law_pick" sPick fLawPick fdLawPick) (HLawMixed : FnF K mg "_law_mixed" sMixed fLawMixed fdLawMixed) (HLawCode : FnF K mg "_law_code" sLCode fLawCode fdLawCode) (HLawCodeText : FnF K mg "_law_code_text" sLCt fLawCodeText fdLawCodeText) (HLawIsSign : FnF K mg "_law_is_sign" sLSg fLawIsSign fdLawIsSign) (HLawIsWord : FnF K mg "_law_is_word" sLWd fLawIsWord fdLawIsWord) (HLawMeets : FnF K mg "_law_meets" sLMt fLawMeets fdLawMeets) (HLawWrong : FnF K mg "_law_wrong" sLWr fLawWrong fdLawWrong) (HLawHeard : FnF K mg "_law_heard" sHeard fLawHeard fdLawHeard) (HLawRight : FnF K mg "_law_right" sRight fLawRight fdLawRight) (HLawBent : FnF K mg "_law_bent" sBent fLawBent fdLawBent)
    (MCInit : Fun K "__init__" "Code.__init__" (codeM 0) fCInit fdCInit) (MCEq : Fun K "__eq__" "Code.__eq__" (codeM 4) fCEq fdCEq) (MCStr : Fun K "__str__" "Code.__str__" (codeM 5) fCStr fdCStr) (MCLen : Fun K "__len__" "Code.__len__" (codeM 6) fCLen fdCLen) (MPInit : Fun K "__init__" "Put.__init__" (putM 0) fPInit fdPInit) (MPEq : Fun K "__eq__" "Put.__eq__" (putM 1) fPEq fdPEq) (MPStr : Fun K "__str__" "Put.__str__" (putM 2) fPStr fdPStr) (MUInit : Fun K "__init__" "Cursor.__init__" (curM 0) fUInit fdUInit) (MPeek : Fun K "peek" "Cursor.peek" (curM 1) fPeek fdPeek) (MTake : Fun K "take" "Cursor.take" (curM 2) fTake fdTake) (MExpect : Fun K "expect" "Cursor.expect" (curM 3) fExpect fdExpect) (MFinish : Fun K "finish" "Cursor.finish" (curM 4) fFinish fdFinish) (MRead : Fun K "read" "Move.read" (moveM 0) fRead fdRead)
    (aL : PySem.W.nsIn K mainGlobals "law" = some (some (.ref fLaw))) (lL : K.lookup fLaw = some ⟨oc, od, .func (PySem.W.fnOf "law" "law" (defArgs sLaw) (defBody sLaw) (defScope sLaw) .none kV dc pm an cd ct), osl⟩) (bL : (PySem.W.codeIn K cd "law" && PySem.W.keepIn K (.ref fLaw)) = true) :
    ∃ fd : FuncData, (∀ (s : Shared) (u : Value), BindsTo s fd ⟨[u], []⟩ [("_law_script", u)]) ∧ ∀ base : Heap, K.In base → base.Ns mainGlobals mg → FnG P w K mg base CX0 13 fa fd ["_law_script"] (spLawK K) := by
  have HLaw := fnf_mk (st := sLaw) X G aL lL bL
  have e := hfa.symm.trans HLaw.g
  cases e
  have fn := free_of X G fr
  unfold codeB at cB
  simp only [Bool.and_eq_true, beq_iff_eq, List.all_eq_true] at cB
  obtain ⟨⟨⟨⟨⟨⟨⟨⟨⟨⟨⟨⟨⟨⟨⟨⟨⟨⟨⟨⟨bpg, bhd⟩, bpo⟩, bsa⟩, bno⟩, bcA⟩, bcG⟩, bcT⟩, bcM⟩, bcI⟩, bmk1⟩, bmk2⟩, bmk3⟩, bmk4⟩, beq1⟩, beq2⟩, bst1⟩, bst2⟩, bln1⟩, bln2⟩, bne⟩ := cB
  unfold putB at pB
  simp only [Bool.and_eq_true, beq_iff_eq, List.all_eq_true] at pB
  obtain ⟨⟨⟨⟨⟨⟨⟨⟨⟨⟨⟨⟨⟨⟨⟨⟨⟨⟨⟨⟨upg, uhd⟩, upo⟩, usa⟩, uno⟩, ucA⟩, ucG⟩, ucT⟩, ucM⟩, ucI⟩, umk1⟩, umk2⟩, umk3⟩, umk4⟩, ueq1⟩, ueq2⟩, ust1⟩, ust2⟩, une⟩, uks⟩, unf⟩ := pB
  unfold curB at uB
  simp only [Bool.and_eq_true, beq_iff_eq, List.all_eq_true] at uB
  obtain ⟨⟨⟨⟨⟨⟨⟨⟨⟨⟨⟨⟨⟨⟨⟨⟨dpg, dhd⟩, dpo⟩, dsa⟩, dno⟩, dmk1⟩, dmk2⟩, dmk3⟩, dmk4⟩, dPeek1⟩, dPeek2⟩, dTake1⟩, dTake2⟩, dExpect1⟩, dExpect2⟩, dFinish1⟩, dFinish2⟩ := uB
  unfold movB at vB
  simp only [Bool.and_eq_true, beq_iff_eq, List.all_eq_true] at vB
  obtain ⟨⟨vrd1, vrd2⟩, vrd3⟩ := vB
  unfold errB at eB
  simp only [Bool.and_eq_true, beq_iff_eq, List.all_eq_true] at eB
  obtain ⟨e0, e1⟩ := eB
  have TF : Free mg := ⟨fn _ (by decide +kernel), fn _ (by decide +kernel), fn _ (by decide +kernel), fn _ (by decide +kernel), fn _ (by decide +kernel), fn _ (by decide +kernel), fn _ (by decide +kernel), fn _ (by decide +kernel), fn _ (by decide +kernel), fn _ (by decide +kernel), fn _ (by decide +kernel)⟩
  have gD : mg "dict" = none := fn _ (by decide +kernel)
  have CC : ClsCd K mg C := { pg := bpg, hd := bhd, po := bpo, sa := bsa, cA := bcA, cG := bcG, cT := bcT, cM := bcM, cI := bcI, nWords := bno _ (by decide +kernel), nOf := bno _ (by decide +kernel), gC := PySem.W.mg_of X G aC }
  have CU : ClsPu K mg CP := { pg := upg, hd := uhd, po := upo, sa := usa, cA := ucA, cG := ucG, cT := ucT, cM := ucM, cI := ucI, nSign := uno _ (by decide +kernel), gP := PySem.W.mg_of X G aP }
  have CD : ClsC K mg D := { pg := dpg, hd := dhd, po := dpo, sa := dsa, nWords := dno _ (by decide +kernel), nAt := dno _ (by decide +kernel), gC := PySem.W.mg_of X G aD }
  have MC : Mk K C fCInit := ⟨bmk1, bmk2, bmk3, bmk4⟩
  have MP : Mk K CP fPInit := ⟨umk1, umk2, umk3, umk4⟩
  have MD : Mk K D fUInit := ⟨dmk1, dmk2, dmk3, dmk4⟩
  have bIsText := HIsText.F.binds (ps := ["value", "signs"]) fun _ _ _ _ _ _ us hl => match us, hl with | [_, _], _ => rfl
  have bIsWord := HIsWord.F.binds (ps := ["value", "signs", "most"]) fun _ _ _ _ _ _ us hl => match us, hl with | [_, _, _], _ => rfl
  have bIsSign := HIsSign.F.binds (ps := ["value", "signs"]) fun _ _ _ _ _ _ us hl => match us, hl with | [_, _], _ => rfl
  have bBeginsAlike := HBeginsAlike.F.binds (ps := ["word", "others"]) fun _ _ _ _ _ _ us hl => match us, hl with | [_, _], _ => rfl
  have bCheckWords := HCheckWords.F.binds (ps := ["words"]) fun _ _ _ _ _ _ us hl => match us, hl with | [_], _ => rfl
  have bTakeCodeWord := HTakeCodeWord.F.binds (ps := ["cursor", "words", "signs"]) fun _ _ _ _ _ _ us hl => match us, hl with | [_, _, _], _ => rfl
  have bTakeCode := HTakeCode.F.binds (ps := ["cursor"]) fun _ _ _ _ _ _ us hl => match us, hl with | [_], _ => rfl
  have bTakeMove := HTakeMove.F.binds (ps := ["cursor"]) fun _ _ _ _ _ _ us hl => match us, hl with | [_], _ => rfl
  have bLawPen := HLawPen.F.binds (ps := ["_law_script"]) fun _ _ _ _ _ _ us hl => match us, hl with | [_], _ => rfl
  have bLawDraw := HLawDraw.F.binds (ps := ["_law_pen_here", "_law_many"]) fun _ _ _ _ _ _ us hl => match us, hl with | [_, _], _ => rfl
  have bLawPick := HLawPick.F.binds (ps := ["_law_pen_here", "_law_some"]) fun _ _ _ _ _ _ us hl => match us, hl with | [_, _], _ => rfl
  have bLawMixed := HLawMixed.F.binds (ps := ["_law_pen_here", "_law_some"]) fun _ _ _ _ _ _ us hl => match us, hl with | [_, _], _ => rfl
  have bLawCode := HLawCode.F.binds (ps := ["_law_pen_here", "_law_signs"]) fun _ _ _ _ _ _ us hl => match us, hl with | [_, _], _ => rfl
  have bLawCodeText := HLawCodeText.F.binds (ps := ["_law_words"]) fun _ _ _ _ _ _ us hl => match us, hl with | [_], _ => rfl
  have bLawIsSign := HLawIsSign.F.binds (ps := ["_law_word"]) fun _ _ _ _ _ _ us hl => match us, hl with | [_], _ => rfl
  have bLawIsWord := HLawIsWord.F.binds (ps := ["_law_word"]) fun _ _ _ _ _ _ us hl => match us, hl with | [_], _ => rfl
  have bLawMeets := HLawMeets.F.binds (ps := ["_law_word", "_law_told"]) fun _ _ _ _ _ _ us hl => match us, hl with | [_, _], _ => rfl
  have bLawWrong := HLawWrong.F.binds (ps := ["_law_words"]) fun _ _ _ _ _ _ us hl => match us, hl with | [_], _ => rfl
  have bLawHeard := HLawHeard.F.binds (ps := ["_law_text_so"]) fun _ _ _ _ _ _ us hl => match us, hl with | [_], _ => rfl
  have bLawRight := HLawRight.F.binds (ps := ["_law_text_so"]) fun _ _ _ _ _ _ us hl => match us, hl with | [_], _ => rfl
  have bLawBent := HLawBent.F.binds (ps := ["_law_pen_here", "_law_text_so"]) fun _ _ _ _ _ _ us hl => match us, hl with | [_, _], _ => rfl
  have qCInit := MCInit.binds (ps := ["self", "words"]) fun _ _ _ _ _ _ us hl => match us, hl with | [_, _], _ => rfl
  have qCEq := MCEq.binds (ps := ["self", "other"]) fun _ _ _ _ _ _ us hl => match us, hl with | [_, _], _ => rfl
  have qCStr := MCStr.binds (ps := ["self"]) fun _ _ _ _ _ _ us hl => match us, hl with | [_], _ => rfl
  have qCLen := MCLen.binds (ps := ["self"]) fun _ _ _ _ _ _ us hl => match us, hl with | [_], _ => rfl
  have qPInit := MPInit.binds (ps := ["self", "sign"]) fun _ _ _ _ _ _ us hl => match us, hl with | [_, _], _ => rfl
  have qPEq := MPEq.binds (ps := ["self", "other"]) fun _ _ _ _ _ _ us hl => match us, hl with | [_, _], _ => rfl
  have qPStr := MPStr.binds (ps := ["self"]) fun _ _ _ _ _ _ us hl => match us, hl with | [_], _ => rfl
  have qUInit := MUInit.binds (ps := ["self", "text"]) fun _ _ _ _ _ _ us hl => match us, hl with | [_, _], _ => rfl
  have qPeek := MPeek.binds (ps := ["self"]) fun _ _ _ _ _ _ us hl => match us, hl with | [_], _ => rfl
  have qTake := MTake.binds (ps := ["self", "stands"]) fun _ _ _ _ _ _ us hl => match us, hl with | [_, _], _ => rfl
  have qExpect := MExpect.binds (ps := ["self", "word"]) fun _ _ _ _ _ _ us hl => match us, hl with | [_, _], _ => rfl
  have qFinish := MFinish.binds (ps := ["self"]) fun _ _ _ _ _ _ us hl => match us, hl with | [_], _ => rfl
  have qRead := MRead.binds (ps := ["cls", "text"]) fun _ _ _ _ _ _ us hl => match us, hl with | [_, _], _ => rfl
  have gS : ∃ t, mg "SIGNS" = some (.str "0123456789abcdefghijklmnopqrstuvwxyz" t) := ⟨_, PySem.W.mg_of X G aS⟩
  have gMS : ∃ t, mg "MOST_SIGNS" = some (.int 3 t) := ⟨_, PySem.W.mg_of X G aMS⟩
  have TD : Draws K mg fLawDraw fLawPick := { toFree := TF, gDraw := HLawDraw.g, kDraw := HLawDraw.F.kp, gPick := HLawPick.g, kPick := HLawPick.F.kp }
  refine ⟨(PySem.W.fnOf "law" "law" (defArgs sLaw) (defBody sLaw) (defScope sLaw) .none kV dc pm an cd ct), fun s u => .of_eq rfl, fun base _ _ => ?_⟩
  have ZX : Cl P w K mg base "BadText" CBadText ["line", "word"] (spI2 K "line" "word") := clBadText gb ZBadText
  have GT : FnOk P w K mg base CX0 1 fIsText fdIsText ["value", "signs"] (spIsText K) := ok_is_text HIsText.F TF
  have GWd : FnOk P w K mg base CX0 2 fIsWord fdIsWord ["value", "signs", "most"] (spIsWord K) := ok_is_wordT HIsWord.F TF GT bIsText HIsText.g HIsText.F.kp
  have GG : FnOk P w K mg base CX0 1 fIsSign fdIsSign ["value", "signs"] (spIsSgn K) := ok_isSgn HIsSign.F TF
  have GBg : FnOk P w K mg base CX0 1 fBeginsAlike fdBeginsAlike ["word", "others"] (spBegins K) := ok_begins HBeginsAlike.F TF
  have GK : FnOk P w K mg base CX0 3 fCheckWords fdCheckWords ["words"] spCheck := ok_check HCheckWords.F TF gD gS gMS GG bIsSign HIsSign.g HIsSign.F.kp GWd bIsWord HIsWord.g HIsWord.F.kp GBg bBeginsAlike HBeginsAlike.g HBeginsAlike.F.kp
  have FC : FnOk P w K mg base CX0 4 fCInit fdCInit ["self", "words"] (spCInit C) := ok_cinit MCInit TF CC GK bCheckWords HCheckWords.g HCheckWords.F.kp
  have FP : FnOk P w K mg base CX0 2 fPInit fdPInit ["self", "sign"] (spPInit CP) := ok_pinit MPInit CU gS GG bIsSign HIsSign.g HIsSign.F.kp
  have mPeek : Meth K D "peek" fPeek := ⟨dPeek1, dPeek2, MPeek.kp⟩
  have mTake : Meth K D "take" fTake := ⟨dTake1, dTake2, MTake.kp⟩
  have mExpect : Meth K D "expect" fExpect := ⟨dExpect1, dExpect2, MExpect.kp⟩
  have mFinish : Meth K D "finish" fFinish := ⟨dFinish1, dFinish2, MFinish.kp⟩
  have GTake : FnOk P w K mg base (L2.CX P w) 3 fTake fdTake ["self", "stands"] (spTake D CBadText) := ok_take MTake CD ZX
  have GPeek : FnOk P w K mg base CX0 1 fPeek fdPeek ["self"] (spPeek D) := ok_peek MPeek TF CD
  have GExp : FnOk P w K mg base (L2.CX P w) 4 fExpect fdExpect ["self", "word"] (spExpect D CBadText) := ok_expect MExpect CD GTake qTake mTake GPeek qPeek mPeek
  have GFin : FnOk P w K mg base (L2.CX P w) 3 fFinish fdFinish ["self"] (spFinish D CBadText) := ok_finish MFinish TF CD ZX
  have GTw : FnOk P w K mg base (L2.CX P w) 5 fTakeCodeWord fdTakeCodeWord ["cursor", "words", "signs"] (spTcw D CBadText) := ok_tcw HTakeCodeWord.F TF CD gMS GTake qTake mTake GPeek qPeek mPeek GWd bIsWord HIsWord.g HIsWord.F.kp GBg bBeginsAlike HBeginsAlike.g HBeginsAlike.F.kp
  have GTc : FnOk P w K mg base (L2.CX P w) 6 fTakeCode fdTakeCode ["cursor"] (spTc D CBadText C) := ok_tc HTakeCode.F CD CC gS GExp qExpect mExpect GTake qTake mTake GPeek qPeek mPeek GG bIsSign HIsSign.g HIsSign.F.kp GTw bTakeCodeWord HTakeCodeWord.g HTakeCodeWord.F.kp MC FC qCInit
  have GTm : FnOk P w K mg base (L2.CX P w) 7 fTakeMove fdTakeMove ["cursor"] (spTm D CBadText C CP) := ok_tm HTakeMove.F CD CU gS GExp qExpect mExpect GTake qTake mTake GPeek qPeek mPeek GG bIsSign HIsSign.g HIsSign.F.kp GTc bTakeCode HTakeCode.g HTakeCode.F.kp MP FP qPInit
  have GR : FnOk P w K mg base (L2.CX P w) 8 fRead fdRead ["cls", "text"] (spMRead CM CBadText C CP) := ok_mread MRead CD MD (ok_curInit MUInit TF CD) qUInit GTm bTakeMove HTakeMove.g HTakeMove.F.kp GFin qFinish mFinish
  have GRX : FnOk P w K mg base (L2.CX P w) 8 fRead fdRead ["cls", "text"] (spMReadX K CM CBadText) := ok_mreadX MRead CD MD (ok_curInitX MUInit TF ZX) qUInit
  have crM : ClX.CRead K CM (.type "type") := ⟨vrd1, vrd2⟩
  have cmM : ClX.CMet K CM (.type "type") "read" pOf fRead := ⟨cf, ⟨_, cr⟩, vrd3⟩
  have HE : HErr11 K mg CF CBadText := { gF := PySem.W.mg_of X G aF, gX := ZX.gC, xX := ZX.exc, nX1 := ZX.no _ List.mem_cons_self, nX2 := ZX.no _ (List.mem_cons_of_mem _ List.mem_cons_self), tX := e0, iXX := e1 }
  have GHd : FnOk P w K mg base CX0 10 fLawHeard fdLawHeard ["_law_text_so"] (spHeard K C CP) := ok_heard (fdR := fdRead) HLawHeard.F HE TF.isinstance (PySem.W.mg_of X G aM) crM cmM (fnr_of GR qRead) (fnr_of GRX qRead)
  have GSg : FnOk P w K mg base CX0 1 fLawIsSign fdLawIsSign ["_law_word"] spLSg := ok_lsg HLawIsSign.F TF
  have GWr : FnOk P w K mg base CX0 3 fLawWrong fdLawWrong ["_law_words"] spLWr := ok_lwr HLawWrong.F TF GSg bLawIsSign HLawIsSign.g HLawIsSign.F.kp (ok_lwd HLawIsWord.F TF GSg bLawIsSign HLawIsSign.g HLawIsSign.F.kp) bLawIsWord HLawIsWord.g HLawIsWord.F.kp (ok_lmt HLawMeets.F TF) bLawMeets HLawMeets.g HLawMeets.F.kp
  have GC : FnR P w K mg base CX0 1 fCStr (spCStr C) := fnr_of (ok_cstr MCStr CC) qCStr
  have GPs : FnR P w K mg base CX0 1 fPStr (spPStr CP) := fnr_of (ok_pstr MPStr CU) qPStr
  have gRe : mg "repr" = none := fn _ (by decide +kernel)
  have GRt : FnG P w K mg base CX0 11 fLawRight fdLawRight ["_law_text_so"] spRight := ok_right HLawRight.F TF gRe CC CU GWr bLawWrong HLawWrong.g HLawWrong.F.kp GHd bLawHeard HLawHeard.g HLawHeard.F.kp bst1 bst2 GC ust1 ust2 GPs
  have U : Uses11 P w K mg base C CP CM CBadText fCInit fPInit fCStr fPStr fCLen fCEq fPEq fRead fLawHeard fLawCode fLawCodeText fLawPick fLawRight fLawBent fLawPen pOf (.type "type") fdCInit fdPInit fdRead fdLawHeard fdLawCode fdLawCodeText fdLawPick fdLawRight fdLawBent fdLawPen :=
    { T := TF, gRepr := gRe, CC := CC, CPu := CU, kP := uks, gM := PySem.W.mg_of X G aM
      MC := MC, FC := FC, bFC := qCInit, MP := MP, FP := FP, bFP := qPInit
      hC := bst1, iC := bst2, GC := GC, hP := ust1, iP := ust2, GP := GPs, hL := bln1, iL := bln2, GL := fnr_of (ok_clen MCLen TF CC) qCLen
      hNeC := bne, hEqC := beq1, iEqC := beq2, GEqC := fnr_of (ok_ceq MCEq TF CC) qCEq, hNeP := une, hEqP := ueq1, iEqP := ueq2, GEqP := fnr_of (ok_peq MPEq TF CU) qPEq, nfP := unf
      cr := crM, cm := cmM, GR := GR, bR := qRead
      bRK := fun s' ws hs hl => by
        obtain ⟨oc2, od2, kV2, doc2, pm2, an2, cdv2, ct2, osl2, rfl, _, _⟩ := MRead.ex
        exact match ws, hl with | [_], _ => .of_eq rfl
      gHeard := HLawHeard.g, kHeard := HLawHeard.F.kp, GHeard := GHd, bHeard := bLawHeard
      gCode := HLawCode.g, kCode := HLawCode.F.kp, GCode := ok_lcode HLawCode.F TD HLawDraw.F bLawDraw HLawPick.F bLawPick HLawMixed.F bLawMixed HLawMixed.g HLawMixed.F.kp gD, bCode := bLawCode
      gCt := HLawCodeText.g, kCt := HLawCodeText.F.kp, GCt := ok_lct HLawCodeText.F TF, bCt := bLawCodeText
      gPick := HLawPick.g, kPick := HLawPick.F.kp, GPick := ok_pick HLawPick.F TD HLawDraw.F bLawDraw, GPickS := ok_pickS HLawPick.F TD HLawDraw.F bLawDraw, bPick := bLawPick
      gRt := HLawRight.g, kRt := HLawRight.F.kp, GRt := GRt, bRt := bLawRight
      gBt := HLawBent.g, kBt := HLawBent.F.kp, GBt := ok_bent HLawBent.F TD HLawPick.F bLawPick HLawDraw.F bLawDraw, bBt := bLawBent
      gPen := HLawPen.g, kPen := HLawPen.F.kp, GPen := ok_pen HLawPen.F TF, bPen := bLawPen }
  exact ok_law11 HLaw.F U
end K02

set_option Elab.async false
set_option linter.all false
set_option maxRecDepth 100000
open PySem PySem.W PyProof.Rows
set_option maxRecDepth 100000 in
set_option maxHeartbeats 0 in
theorem PySem.Challenge.cw_flagfree_k11_texts_of_moves_holds : PySem.Challenge.rw_flagfree_k11_texts_of_moves.Holds := by
  w_on; o_law; k_head; (case hw => w_witness2)
  k_fill
  refine KU.end_of (l := PySem.Challenge.rw_flagfree_k11_texts_of_moves) (n := 63) (k := 13) (x := "_law_script") (sp := K02.spLawK) rfl (by decide) rfl ⟨rfl, by decide, by decide⟩ (fun w h Y => PySem.W.kIn_of Y) ?F (fun K H a ns hl hO hS => ⟨a, ns, rfl, hS, hl, fun _ => rfl⟩)
  case F =>
    intro w mg fa h KX G hmg
    refine' K02.law_of KX G hmg ?fr ?aS ?aMS ?aC ?aP ?aM ?aD ?aF ?cCInit ?cCEq ?cCStr ?cCLen ?cPInit ?cPEq ?cPStr ?cUInit ?cPeek ?cTake ?cExpect ?cFinish ?cf ?cr ?cB ?pB ?uB ?vB ?gb ?eB (KU.clf_mk KX G ?eaBadText ?exBadText ?eiBadText ?elBadText ?ehBadText ?ebBadText) (K02.fnf_mk KX G ?aIsText ?lIsText ?bIsText) (K02.fnf_mk KX G ?aIsWord ?lIsWord ?bIsWord) (K02.fnf_mk KX G ?aIsSign ?lIsSign ?bIsSign) (K02.fnf_mk KX G ?aBeginsAlike ?lBeginsAlike ?bBeginsAlike) (K02.fnf_mk KX G ?aCheckWords ?lCheckWords ?bCheckWords) (K02.fnf_mk KX G ?aTakeCodeWord ?lTakeCodeWord ?bTakeCodeWord) (K02.fnf_mk KX G ?aTakeCode ?lTakeCode ?bTakeCode) (K02.fnf_mk KX G ?aTakeMove ?lTakeMove ?bTakeMove) (K02.fnf_mk KX G ?aLawPen ?lLawPen ?bLawPen) (K02.fnf_mk KX G ?aLawDraw ?lLawDraw ?bLawDraw) (K02.fnf_mk KX G ?aLawPick ?lLawPick ?bLawPick) (K02.fnf_mk KX G ?aLawMixed ?lLawMixed ?bLawMixed) (K02.fnf_mk KX G ?aLawCode ?lLawCode ?bLawCode) (K02.fnf_mk KX G ?aLawCodeText ?lLawCodeText ?bLawCodeText) (K02.fnf_mk KX G ?aLawIsSign ?lLawIsSign ?bLawIsSign) (K02.fnf_mk KX G ?aLawIsWord ?lLawIsWord ?bLawIsWord) (K02.fnf_mk KX G ?aLawMeets ?lLawMeets ?bLawMeets) (K02.fnf_mk KX G ?aLawWrong ?lLawWrong ?bLawWrong) (K02.fnf_mk KX G ?aLawHeard ?lLawHeard ?bLawHeard) (K02.fnf_mk KX G ?aLawRight ?lLawRight ?bLawRight) (K02.fnf_mk KX G ?aLawBent ?lLawBent ?bLawBent) (K02.met_mk ?mCInit ?nCInit) (K02.met_mk ?mCEq ?nCEq) (K02.met_mk ?mCStr ?nCStr) (K02.met_mk ?mCLen ?nCLen) (K02.met_mk ?mPInit ?nPInit) (K02.met_mk ?mPEq ?nPEq) (K02.met_mk ?mPStr ?nPStr) (K02.met_mk ?mUInit ?nUInit) (K02.met_mk ?mPeek ?nPeek) (K02.met_mk ?mTake ?nTake) (K02.met_mk ?mExpect ?nExpect) (K02.met_mk ?mFinish ?nFinish) (K02.met_mk ?mRead ?nRead) ?aL ?lL ?bL
    (case aS => k_is)
    (case aMS => k_is)
    (case aC => k_is)
    (case aP => k_is)
    (case aM => k_is)
    (case aD => k_is)
    (case aF => k_is)
    (case cCInit => k_is)
    (case cCEq => k_is)
    (case cCStr => k_is)
    (case cCLen => k_is)
    (case cPInit => k_is)
    (case cPEq => k_is)
    (case cPStr => k_is)
    (case cUInit => k_is)
    (case cPeek => k_is)
    (case cTake => k_is)
    (case cExpect => k_is)
    (case cFinish => k_is)
    (case cf => k_is)
    (case cr => k_is)
    (case eaBadText => k_is)
    (case exBadText => k_is)
    (case eiBadText => k_is)
    (case elBadText => k_is)
    (case ehBadText => rfl)
    (case aIsText => k_is)
    (case aIsWord => k_is)
    (case aIsSign => k_is)
    (case aBeginsAlike => k_is)
    (case aCheckWords => k_is)
    (case aTakeCodeWord => k_is)
    (case aTakeCode => k_is)
    (case aTakeMove => k_is)
    (case aLawPen => k_is)
    (case aLawDraw => k_is)
    (case aLawPick => k_is)
    (case aLawMixed => k_is)
    (case aLawCode => k_is)
    (case aLawCodeText => k_is)
    (case aLawIsSign => k_is)
    (case aLawIsWord => k_is)
    (case aLawMeets => k_is)
    (case aLawWrong => k_is)
    (case aLawHeard => k_is)
    (case aLawRight => k_is)
    (case aLawBent => k_is)
    (case lIsText => k_is)
    (case lIsWord => k_is)
    (case lIsSign => k_is)
    (case lBeginsAlike => k_is)
    (case lCheckWords => k_is)
    (case lTakeCodeWord => k_is)
    (case lTakeCode => k_is)
    (case lTakeMove => k_is)
    (case lLawPen => k_is)
    (case lLawDraw => k_is)
    (case lLawPick => k_is)
    (case lLawMixed => k_is)
    (case lLawCode => k_is)
    (case lLawCodeText => k_is)
    (case lLawIsSign => k_is)
    (case lLawIsWord => k_is)
    (case lLawMeets => k_is)
    (case lLawWrong => k_is)
    (case lLawHeard => k_is)
    (case lLawRight => k_is)
    (case lLawBent => k_is)
    (case mCInit => k_is)
    (case mCEq => k_is)
    (case mCStr => k_is)
    (case mCLen => k_is)
    (case mPInit => k_is)
    (case mPEq => k_is)
    (case mPStr => k_is)
    (case mUInit => k_is)
    (case mPeek => k_is)
    (case mTake => k_is)
    (case mExpect => k_is)
    (case mFinish => k_is)
    (case mRead => k_is)
    (case aL => k_is)
    (case lL => k_is)
    (case ebBadText => kernel_rfl)
    (case bIsText => kernel_rfl)
    (case bIsWord => kernel_rfl)
    (case bIsSign => kernel_rfl)
    (case bBeginsAlike => kernel_rfl)
    (case bCheckWords => kernel_rfl)
    (case bTakeCodeWord => kernel_rfl)
    (case bTakeCode => kernel_rfl)
    (case bTakeMove => kernel_rfl)
    (case bLawPen => kernel_rfl)
    (case bLawDraw => kernel_rfl)
    (case bLawPick => kernel_rfl)
    (case bLawMixed => kernel_rfl)
    (case bLawCode => kernel_rfl)
    (case bLawCodeText => kernel_rfl)
    (case bLawIsSign => kernel_rfl)
    (case bLawIsWord => kernel_rfl)
    (case bLawMeets => kernel_rfl)
    (case bLawWrong => kernel_rfl)
    (case bLawHeard => kernel_rfl)
    (case bLawRight => kernel_rfl)
    (case bLawBent => kernel_rfl)
    (case nCInit => kernel_rfl)
    (case nCEq => kernel_rfl)
    (case nCStr => kernel_rfl)
    (case nCLen => kernel_rfl)
    (case nPInit => kernel_rfl)
    (case nPEq => kernel_rfl)
    (case nPStr => kernel_rfl)
    (case nUInit => kernel_rfl)
    (case nPeek => kernel_rfl)
    (case nTake => kernel_rfl)
    (case nExpect => kernel_rfl)
    (case nFinish => kernel_rfl)
    (case nRead => kernel_rfl)
    (case bL => kernel_rfl)
    (case fr => kernel_rfl)
    (case cB => kernel_rfl)
    (case pB => kernel_rfl)
    (case uB => kernel_rfl)
    (case vB => kernel_rfl)
    (case gb => kernel_rfl)
    (case eB => kernel_rfl)
