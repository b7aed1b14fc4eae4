import PyProof.Rows.All
import Wide.All
import OpenK.AllK
import Wide.FinOn
import PyProof.EqAt
import PyProof.EqKinds
import PyProof.TupleCall
import HandS.ForExc
import HandS.ExcInit
import HandS.Defaults
import HandS.ForMost
import HandS.WordsExc
import KE.KExcIs
import HandS.IsInst
import HandS.ExcValue
import HandS.Exc
import PyProof.ReprRoads
import HandS.Evl
import HandS.DictComp
import HandS.Style
import HandS.Codes
import HandS.FStr
import HandS.Steps
import PyProof.Rows.StrSplitJoin
import PyProof.Rows.StrItems
import HandS.ClsMeth
import HandS.MakeKw
import HandS.OwnEq
import KE.KCallOwn
import PyProof.InstNe
import HandS.StrMore
import HandS.Text
import HandS.Property
import KE.KOpsOwn
import HandS.Wide
import HandS.Gcd
import KE.DataEq
import PyProof.Rows.StrStep
import HandS.Lambda
import PyProof.Rows.StrMul
import HandS.MakeKwOnly
import HandS.HeadHook1
import HandS.HeadHook2
import HandS.EndOwn
import KE.KNestM
import PySem.Challenge.RW_emptypulls_k02_rates_made_and_written
set_option Elab.async false
set_option linter.all false
set_option maxRecDepth 100000
set_option maxHeartbeats 4000000
namespace PySem
namespace OEXK
open PySem.W PySem.Calls PyProof.Rows PySem.HandSPX
section
variable {M : Model} {A : Around} {E : Value → Shared → Prop} {h : Heap} {g : Array GenState} {d : Drawn} {t : Nat} {os : OsState}
variable {nm q : Str} {C N : Addr} {bs bm bmB : List Value} {hdct : Bool} {sn : List Str} {sub : List Value} {ab : Bool} {col : Option Bool} {dd : Option Addr} {k0 k1 k2 k3 k5 : Option Value} {B newId initId : String}
theorem check_new_kw (F : ExcBaseFacts B newId initId bmB) (hT : ∀ X : String, bm.contains (.type X) = bmB.contains (.type X)) {rest : List Value} {kw : List (Str × Value)} {Q : Unit → Shared → Prop}
    (hC : h.get? C = some (excClassObj nm q C N bs bm hdct sn sub ab col dd k0 k1 k2 k3 k5 newId)) (hq : Q () ⟨h, g, d, t, os⟩) : wpAny M A (checkBuiltinCall newId ⟨.ref C :: rest, kw⟩) Q E ⟨h, g, d, t, os⟩ := by
  have hcont : (Value.ref C :: bm).contains (.type B) = true := by rw [List.contains_cons, hT, F.hasB, Bool.or_true]
  have hstar := F.noStar
  simp only [checkBuiltinCall, F.newKind, F.newSplit, F.newRow]
  repeat (first | refine wpAny_loadPart_at hC ?_ | (refine wpAny_isSubtype_exc hC ?_; rw [hcont]) | refine wpAny_staticBase_exc hC ?_ | refine wpAny_madeBy_exc hC ?_ | simp only [bne_self_eq_false, Bool.false_eq_true, if_false] | wp_step)
  exact hq
end
section
variable {prog : Program} {w : World} {A : Around} {E : Value → Shared → Prop} {R : Result → Shared → Prop} {h : Heap} {g : Array GenState} {d : Drawn} {t : Nat} {os : OsState}
variable {nm q : Str} {C N : Addr} {bs bm bmB : List Value} {hdct : Bool} {sn : List Str} {sub : List Value} {ab : Bool} {col : Option Bool} {dd : Option Addr} {k0 k1 k2 k3 k5 : Option Value} {B newId initId : String}
theorem new_kw (F : ExcBaseFacts B newId initId bmB) (hT : ∀ X : String, bm.contains (.type X) = bmB.contains (.type X)) {rest : List Value} {kw : List (Str × Value)}
    (hC : h.get? C = some (excClassObj nm q C N bs bm hdct sn sub ab col dd k0 k1 k2 k3 k5 newId))
    (hq : R (.ok (.ret (.ref (h.objs.size + 1)))) ⟨(h.push { cls := .type "tuple", data := .seq rest.toArray }).push
      { cls := .ref C, data := .fields #[.ref h.objs.size, .none, .none, .none, .bool false, .none] }, g, d, t, os⟩) (hrest : rest.length ≤ sizeLine) :
    codeAny (model prog w) A (.builtin newId ⟨.ref C :: rest, kw⟩) R ⟨h, g, d, t, os⟩ := by
  have hends := F.ends
  have hcB : (Value.ref C :: bm).contains (.type B) = true := by rw [List.contains_cons, hT, F.hasB, Bool.or_true]
  have hcA : (Value.ref C :: bm).contains (.type "AttributeError") = false := by rw [List.contains_cons, hT, F.noAttr]; rfl
  have hcN : (Value.ref C :: bm).contains (.type "NameError") = false := by rw [List.contains_cons, hT, F.noName]; rfl
  refine codeAny_builtinAt F.entry ?_
  unfold Builtin.«BaseException.__new__»
  refine wpAt_bind ?_
  show wpAt _ _ _ (stack >>= _) _ _ _
  refine wpAt_bind (wpAt_stack fun p below => wpAt_of_wpAny ?_)
  wp_walk
  refine wpAt_of_wpAny ?_
  rw [F.owner]
  repeat (first | with_reducible refine wpAny_madeHere_exc F.canon hC ?_ | with_reducible refine wpAny_loadPart_at hC ?_ | (with_reducible refine wpAny_isSubtype_exc hC ?_; first | rw [hcB] | rw [hcA] | rw [hcN]) | wp_step)
  show R _ _
  rw [Heap.size_push]
  exact hq

theorem type_call_kw (F : ExcBaseFacts B newId initId bmB) (hT : ∀ X : String, bm.contains (.type X) = bmB.contains (.type X)) {rest : List Value} {kw : List (Str × Value)} {fI : Addr} {Q : Fin → Shared → Prop}
    (hC : h.get? C = some (excClassObj nm q C N bs bm hdct sn sub ab col dd k0 k1 k2 k3 k5 newId))
    (hi : W.Looks (model prog w) h (typeLookup (.ref C) "__init__") (some (.ref fI))) (hb : ∀ self, W.Looks (model prog w) h (bindSpecial (.ref fI) self) (.ref fI, [self])) (hrest : rest.length ≤ sizeLine)
    (hq : codeAny (model prog w) A (.call (.ref fI) ⟨.ref (h.objs.size + 1) :: rest, kw⟩)
      (fun r s' => match r with | .ok (.ret v) => v = .none ∧ Q (.done (.ret (.ref (h.objs.size + 1)))) s' | .ok _ => False | .error e => E e s')
      ⟨(h.push (W.kdv_tup rest)).push (excO C h.objs.size), g, d, t, os⟩) :
    wpAny (model prog w) A (Builtin.«type.__call__» ⟨.ref C :: rest, kw⟩) Q E ⟨h, g, d, t, os⟩ := by
  repeat (first | with_reducible refine wpAny_loadPart_at hC ?_ | with_reducible refine wpAny_madeBy_exc hC ?_ | wp_step)
  refine codeAny_call_builtin_code (Code.quiet_builtin _ F.quiet) (check_new_kw F hT hC ?_)
  refine new_kw F hT hC ?_ hrest
  show wpAny _ _ _ _ _ _
  have k : ∀ b o, h.get? b = some o → ((h.push (W.kdv_tup rest)).push (excO C h.objs.size)).get? b = some o := fun b o e => Heap.get?_push_of_some _ (Heap.get?_push_of_some _ e)
  have hC₁ := k _ _ hC
  have hget : ((h.push (W.kdv_tup rest)).push (excO C h.objs.size)).get? (h.objs.size + 1) = some (excO C h.objs.size) := by heap_get
  have hcC : (Value.ref C :: bm).contains (.ref C) = true := by simp
  have i1 := hi.keeps k
  have b1 := (hb (.ref (h.objs.size + 1))).keeps k
  unfold isInstance
  repeat (first | with_reducible refine wpAny_loadPart_at hget ?_ | (with_reducible refine wpAny_isSubtype_exc hC₁ ?_; rw [hcC]) | wp_step)
  show wpAny _ _ (typeLookup (.ref C) _) _ _ _
  refine i1.at ?_
  refine wpAny_holding (wpAny_bind (b1.at ?_))
  refine wpAny_bind (wpAny_call (codeAny_mono hq fun r s' z => ?_))
  rcases r with e | (v | _ | _ | _) <;> first | exact z | exact z.elim | skip
  obtain ⟨rfl, z⟩ := z
  first
    | exact wpAny_pure (wpAny_pure z)
    | (wp_walk; exact z)

theorem call_kw (F : ExcBaseFacts B newId initId bmB) (hT : ∀ X : String, bm.contains (.type X) = bmB.contains (.type X)) {rest : List Value} {kw : List (Str × Value)} {fI : Addr}
    (hC : h.get? C = some (excClassObj nm q C N bs bm hdct sn sub ab col dd k0 k1 k2 k3 k5 newId))
    (hi : W.Looks (model prog w) h (typeLookup (.ref C) "__init__") (some (.ref fI))) (hb : ∀ self, W.Looks (model prog w) h (bindSpecial (.ref fI) self) (.ref fI, [self])) (hrest : rest.length ≤ sizeLine)
    (hq : codeAny (model prog w) (A.under (.builtin "type.__call__" ⟨.ref C :: rest, kw⟩)) (.call (.ref fI) ⟨.ref (h.objs.size + 1) :: rest, kw⟩) (W.InitBack (h.objs.size + 1) R)
      ⟨(h.push (W.kdv_tup rest)).push (excO C h.objs.size), g, d, t, os⟩) :
    codeAny (model prog w) A (.call (.ref C) ⟨rest, kw⟩) R ⟨h, g, d, t, os⟩ := by
  have f1 := tc_lookup
  have f2 := tc_bind (.ref C)
  have hTy : (⟨h, g, d, t, os⟩ : Shared).TypeIs (.ref C) "type" := ⟨_, hC, rfl⟩
  refine codeAny_of_tree ?_
  show wpAny _ _ (callAny (.ref C) _) _ _ _
  repeat (any_goals (first | assumption | with_reducible refine wpAny_loadPart_at hC ?_ | wp_step))
  refine ⟨rfl, ?_⟩
  refine codeAny_call_builtin_at (Code.quiet_builtin _ (by decide +kernel)) entry_typeCall (wpAny_check_type_call_sub hC (type_call_kw F hT hC hi hb hrest ?_))
  refine codeAny_mono hq fun r s' z => ?_
  rcases r with e | (v | _ | _ | _) <;> exact z
end
end OEXK
end PySem

set_option Elab.async false
set_option linter.all false
set_option maxRecDepth 100000
set_option maxHeartbeats 2000000
namespace GL
open PySem PySem.Spec PyProof.Rows L2
/-! promises of defs that are kept wherever nothing is being shown (so that repr of a list, a tuple, a dict may be asked in them) -/
def Quiet (A : Around) : Prop := A.guards = some []
theorem Quiet.deeper {A : Around} (h : Quiet A) (env : Env) : Quiet (A.deeper env) := h
theorem Quiet.make {A : Around} (h : Quiet A) (C : Addr) (us : List Value) (kw : List (Str × Value)) : Quiet (A.under (.builtin "type.__call__" ⟨.ref C :: us, kw⟩)) := by
  unfold Quiet at *
  first
  | exact h
  | simpa [Around.under, Code.guards, Code.isGuard, guardIds, pushGuards] using h
theorem Quiet.in1 {A : Around} (h : Quiet A) : Quiet A.in1 := h
theorem quiet_caller : Quiet callerA := rfl

structure FnG (P : Program) (w : World) (K : PySem.W.Frag) (mg : Str → Option Value) (base : Heap) (CX : CXT) (k : Nat) (f : Addr) (fd : FuncData) (ps : List Str) (sp : Sp) : Prop where
  ln : ∀ vs H Q E, sp vs H Q E → vs.length = ps.length
  go : ∀ (A : Around), Quiet A → Room k A → ∀ (outer : List Env) (s : Shared) (H : Hp), Env0 P w K mg base A outer s H → ∀ (args : Args) (us : List Value) (vs : List V), BindsTo s fd args (ps.zip us) → Vals vs us →
    ∀ (Q : VK) (E : XK), sp vs H Q E → codeAny (model P w) A (.call (.ref f) args) (CR CX outer P w H s Q E) s
theorem of_ok {P : Program} {w : World} {K : PySem.W.Frag} {mg : Str → Option Value} {base : Heap} {CX : CXT} {k : Nat} {f : Addr} {fd : FuncData} {ps : List Str} {sp : Sp} (F : FnOk P w K mg base CX k f fd ps sp) : FnG P w K mg base CX k f fd ps sp :=
  ⟨F.len, fun A _ hr outer s H e0 args us vs hb hv Q E h => F.run A outer s H args us vs Q E hr e0 hb hv h⟩
theorem FnG.up {P : Program} {w : World} {K : PySem.W.Frag} {mg : Str → Option Value} {base : Heap} {CX : CXT} {j k : Nat} {f : Addr} {fd : FuncData} {ps : List Str} {sp : Sp} (F : FnG P w K mg base CX j f fd ps sp) (h : j ≤ k) : FnG P w K mg base CX k f fd ps sp :=
  ⟨F.ln, fun A hq hr => F.go A hq (hr.mono h)⟩

/-- what comes back of a callee -/
theorem back {X : Cx} {CX : CXT} {pins : List (Addr × Obj)} {σ : L2.St} {H : Hp} {s s' : Shared} {Q : VK} {E : XK} {r : Result} (I : Inv X pins σ H s) (hx : Passes CX X E) (h : CR CX X.stack X.prog X.w H s Q E r s') :
    match r with | .ok (.ret u) => EP X pins σ Q u s' | .ok _ => False | .error e => X.xe e s' := by
  cases r with
  | error e => exact hx pins σ H s e s' I h
  | ok fl => cases fl with
    | ret u => exact I.after h
    | next | brk | cont => exact h

section
variable {X : Cx} {CX : CXT} {k : Nat} {f : Addr} {fd : FuncData} {ps : List Str} {sp : Sp} {dvs : List V} {ds : List Value} {E : XK} {x : Str} {p pos : Pos} {e : Expr} {es : List Expr} {t : TA}
theorem run_g {pins : List (Addr × Obj)} {σ : L2.St} {H : Hp} {s : Shared} {Q : VK} {us : List Value} {vs : List V} (F : FnG X.prog X.w X.K X.mg X.base CX k f fd ps sp) (hq : Quiet X.A) (hr : Room k X.A) (hb : Binds X.K fd ps ds) (hd : Vals dvs ds)
    (hx : Passes CX X E) (I : Inv X pins σ H s) (r : Vals vs us) (h : sp (vs ++ dvs) H Q E) : wpAny (model X.prog X.w) X.A (call (.ref f) us) (EP X pins σ Q) X.xe s := by
  have r2 := r.append hd
  have n : (us ++ ds).length = ps.length := r2.length.symm.trans (F.ln _ _ _ _ h)
  refine wpAny_call (codeAny_mono (F.go X.A hq hr X.stack s H I.env0 ⟨us, []⟩ _ _ (hb s us I.kIn n) r2 Q E h) fun r s' z => ?_)
  have z2 := back I hx z
  cases r with
  | error e => exact z2
  | ok fl => cases fl with
    | ret u => exact z2
    | next | brk | cont => exact z2
/-- f(e, ..) -/
theorem pe_cg (F : FnG X.prog X.w X.K X.mg X.base CX k f fd ps sp) (hq : Quiet X.A) (hr : Room k X.A) (hg : Gl X x) (hm : X.mg x = some (.ref f)) (hk : PySem.W.keepIn X.K (.ref f) = true) (hb : Binds X.K fd ps ds) (hd : Vals dvs ds) (hx : Passes CX X E)
    (ha : PA X (e :: es) t) (hdb : (x == ("__debug__" : Str)) = false := by decide) (he : starEach (e :: es) X.env = (false, eval e X.env) :: starEach es X.env := by rfl) (hpl : (backTo pos (starEach es X.env)).any (·.1) = false := by rfl) :
    PE X (.Call (.Name x p) (e :: es) [] pos) (tCall sp dvs E t) :=
  ⟨fun pins s σ H Q I h => wpAny_Call_Name_kw (ld_glob I hg hm (PySem.W.callWith_K (h₀ := X.base) I.ok.mod.kin hk (thn (ha.run pos pins s σ H _ I h) fun us s1 ⟨vs, H1, I1, r, q⟩ => ⟨I1.kIn, run_g F hq hr hb hd hx I1 r q⟩) he hpl) hdb)⟩
/-- f() -/
theorem pe_cg0 (F : FnG X.prog X.w X.K X.mg X.base CX k f fd ps sp) (hq : Quiet X.A) (hr : Room k X.A) (hg : Gl X x) (hm : X.mg x = some (.ref f)) (hk : PySem.W.keepIn X.K (.ref f) = true) (hb : Binds X.K fd ps ds) (hd : Vals dvs ds) (hx : Passes CX X E)
    (hdb : (x == ("__debug__" : Str)) = false := by decide) : PE X (.Call (.Name x p) [] [] pos) (tCall sp dvs E tNil) :=
  ⟨fun pins s σ H Q I h => wpAny_Call_Name_kw (ld_glob I hg hm (PySem.W.callWith_K0 I.kIn hk (run_g (us := []) (vs := []) F hq hr hb hd hx I .nil h)) hdb)⟩
end

/-- a def of the text by its body -/
theorem fn_g {CX : CXT} {P : Program} {w : World} {K : PySem.W.Frag} {mg : Str → Option Value} {base : Heap} {k : Nat} {f : Addr} {name qual : Str} {params : Arguments} {body : List Stmt} {scope : Scope} {dV kV doc pm cdv ct oc : Value} {an od : Option Addr}
    {osl : Array (Option Value)} {N ps : List Str} {sp : Sp} (lk : K.lookup f = some ⟨oc, od, .func (PySem.W.fnOf name qual params body scope dV kV doc pm an cdv ct), osl⟩) (hcd : PySem.W.codeIn K cdv qual = true) (S : FnScope N ps scope)
    (ln : ∀ vs H Q E, sp vs H Q E → vs.length = ps.length)
    (hb : ∀ (A : Around) (outer : List Env) (s : Shared) (H : Hp) (vs : List V) (Q : VK) (E : XK), Quiet A → Room k (A.deeper (envOfC qual scope s.heap.objs.size f cdv)) → sp vs H Q E →
      ∃ t, PSs (cxOf CX P w K mg base N qual scope f cdv A outer s H E) body t ∧ t { nx := fun _ H' => Q .non H', rt := Q } (start N vs) H) :
    FnG P w K mg base CX (k + 1) f (PySem.W.fnOf name qual params body scope dV kV doc pm an cdv ct) ps sp := by
  constructor
  · exact ln
  intro A hq hr outer s H e0 args us vs bd rv Q E h
  have hl := ln _ _ _ _ h
  have inK : K.In s.heap := e0.mod.kin.keeps fun b o z => (e0.bs b o z).1
  have nol : s.heap.NoLimit := e0.mod.nolimit.keeps fun b o z => (e0.bs b o z).1
  refine codeAny_call_function hr.depth (inK _ _ lk) rfl S.co S.gen rfl (PySem.W.codeRec_of inK hcd) (bd _ _ _ _ ?_)
  refine wpAny_newFunctionEnv_cells S.kind ?_ fun env he s1 x => ?_
  · rintro ⟨n, v⟩ hy
    rcases S.par n (List.of_mem_zip hy).1 with q | q
    · exact Or.inl q
    · exact Or.inr ⟨q, PySem.W.cellsFrom_some _ _ _ (Or.inl q)⟩
  cases he
  obtain ⟨t, ht, run⟩ := hb A outer s H vs Q E hq (hr.deeper _) h
  have J : Inv (cxOf CX P w K mg base N qual scope f cdv A outer s H E) [] (start N vs) H s1 := inv_start S hr.hd e0 hl rv x
  refine ⟨nol.keeps x.toInCall.keep, codeAny_func (wpAny_mono (ht.run [] s1 (start N vs) H _ J run) (fun fl s' z => ?_) fun e s' z => z)⟩
  cases fl with
  | ret u => obtain ⟨v, σ', H', J', r', q'⟩ := z; exact ⟨v, H', J'.os, J'.bare, J'.base, J'.hok, r', q'⟩
  | next => obtain ⟨σ', H', J', q'⟩ := z; exact ⟨V.non, H', J'.os, J'.bare, J'.base, J'.hok, rfl, q'⟩
  | brk => obtain ⟨_, _, _, q'⟩ := z; exact q'.elim
  | cont => obtain ⟨_, _, _, q'⟩ := z; exact q'.elim
/-- the same by the short word for a def; nothing is raised out of it -/
theorem okG {P : Program} {w : World} {K : PySem.W.Frag} {mg : Str → Option Value} {base : Heap} {x qual : Str} {st : Stmt} {f : Addr} {fd : FuncData} {N ps : List Str} {k : Nat} {sp : Sp} (F : Fun K x qual st f fd) (S : FnScope N ps (defScope st))
    (ln : ∀ vs H Q E, sp vs H Q E → vs.length = ps.length)
    (hb : ∀ (cdv : Value) (A : Around) (outer : List Env) (s : Shared) (H : Hp) (vs : List V) (Q : VK) (E : XK), Quiet A → Room k (A.deeper (envOfC qual (defScope st) s.heap.objs.size f cdv)) → sp vs H Q E →
      ∃ t, PSs (cxOf CX0 P w K mg base N qual (defScope st) f cdv A outer s H E).nox (defBody st) t ∧ t { nx := fun _ H' => Q .non H', rt := Q } (start N vs) H) : FnG P w K mg base CX0 (k + 1) f fd ps sp := by
  obtain ⟨oc, od, kV, doc, pm, an, cdv, ct, osl, rfl, lk, hcd⟩ := F.ex
  exact fn_g lk hcd S ln fun A outer s H vs Q E hq hr h => let ⟨t, ht, q⟩ := hb cdv A outer s H vs Q E hq hr h; ⟨t, ht.nox, q⟩

/-- the modules' own table stands in the heap, a dict -/
def SysAt (h : Heap) : Prop := ∃ m, h.Ns sysModules m
/-! the end of a law's row -/
section
variable {P : Program} {w : World} {K : PySem.W.Frag} {mg mb : Str → Option Value} {CX : CXT} {k : Nat} {fa a : Addr} {fd : FuncData} {x : Str} {sp : Sp} {s₁ : Shared} {vs : List Value} {ns : List Int}
theorem core_g (KX : K.In s₁.heap) (hns : s₁.heap.Ns mainGlobals mg) (hb : s₁.heap.Ns builtinsNs mb) (hbb : ∀ x : Str, x ≠ "__name__" → mb x = bootBuiltins x) (hlim : s₁.heap.NoLimit) (hg : s₁.gens = #[])
    (ha : s₁.heap.get? a = some { cls := .type "list", data := .seq vs.toArray }) (hr : Room k callerA)
    (hsy : SysAt s₁.heap) (F : ∀ base : Heap, K.In base → base.Ns mainGlobals mg → SysAt base → FnG P w K mg base CX k fa fd [x] sp) (bd : ∀ (s : Shared) (u : Value), BindsTo s fd ⟨[u], []⟩ [(x, u)])
    (hsp : ∀ H : Hp, Only H → SqL K H a (ns.map V.int) → sp [.ref a] H (fun v _ => v = .bl true) fun _ _ _ => False)
    (hCX : ∀ H e s', CX [] H s₁ (fun _ _ _ => False) e s' → False)
    (H : Hp) (hO : Only H) (hS : SqL K H a (ns.map V.int)) (ok : HOk P w H s₁.heap) (one : ∀ b u, H b = some u → b = a ∧ K.lookup a = none) :
    codeAny (model P w) callerA (.call (.ref fa) ⟨[.ref a], []⟩) (fun r s' => r = .ok (.ret (.bool true)) ∧ OldK s₁.heap s'.heap ∧ s'.os = s₁.os ∧ AllBare s'.gens) s₁ := by
  have free : ∀ b, (∀ u, H b ≠ some u) → H b = none := fun b h => by
    cases q : H b with
    | none => rfl
    | some u => exact absurd q (h u)
  have ns2 : ∀ {b : Addr} {m : Str → Option Value}, s₁.heap.Ns b m → (hidT s₁.heap H).Ns b m := by
    rintro b m ⟨o, es, ep, e, d, r⟩
    refine ⟨o, es, ep, hidT_get e (free b fun u q => ?_), d, r⟩
    obtain ⟨rfl, _⟩ := one b u q
    rw [ha] at e
    cases e
    simp at d
  have kin : K.In (hidT s₁.heap H) := fun b o e => hidT_get (KX b o e) (free b fun u q => by
    obtain ⟨rfl, z⟩ := one b u q
    rw [z] at e
    cases e)
  obtain ⟨mc, l1, l2⟩ := hlim
  have e0 : Env0 P w K mg (hidT s₁.heap H) callerA [] s₁ H :=
    { frames := rfl, mod := ⟨kin, ns2 hns, ⟨mb, ns2 hb, hbb⟩, ⟨mc, ns2 l1, l2⟩⟩, bs := fun b o e => of_hidT e, bsz := Nat.le_of_eq (hidT_size _ _), funs := trivial, frf := (fun b z => nomatch z), hok := ok, bare := .of_eq hg }
  have go := (F _ kin (ns2 hns) (hsy.elim fun m h => ⟨m, ns2 h⟩)).go callerA quiet_caller hr [] s₁ H e0 ⟨[.ref a], []⟩ [.ref a] [.ref a] (bd s₁ (.ref a)) (.cons rfl .nil) _ _ (hsp H hO hS)
  refine codeAny_mono go fun r s' z => ?_
  cases r with
  | error e => exact (hCX H e s' z).elim
  | ok fl => cases fl with
    | next | brk | cont => exact False.elim z
    | ret u =>
      obtain ⟨v, H', os, bare, un, ok', rv, q⟩ := z
      cases (show v = V.bl true from q)
      cases (show u = Value.bool true from rv)
      refine ⟨rfl, OldK.of_keep fun b o e => ?_, os, bare⟩
      cases q : H b with
      | none => exact un.keep b o e q (fun z => nomatch z) (fun z => nomatch z)
      | some u =>
        rcases hO b with z | ⟨ob, xs, z⟩
        · rw [z] at q; cases q
        · have e1 := (ok b _ z).1
          have e2 := (ok' b _ (un.frzs b ob _ z)).1
          rw [e] at e1
          cases e1
          exact e2
theorem law_g (KX : K.In s₁.heap) (hns : s₁.heap.Ns mainGlobals mg) (hb : s₁.heap.Ns builtinsNs mb) (hbb : ∀ x : Str, x ≠ "__name__" → mb x = bootBuiltins x) (hlim : s₁.heap.NoLimit) (hg : s₁.gens = #[])
    (ha : s₁.heap.get? a = some { cls := .type "list", data := .seq vs.toArray }) (hi : IntsAre vs ns) (hl : ns.length ≤ sizeLine) (hr : Room k callerA)
    (hsy : SysAt s₁.heap) (F : ∀ base : Heap, K.In base → base.Ns mainGlobals mg → SysAt base → FnG P w K mg base CX k fa fd [x] sp) (bd : ∀ (s : Shared) (u : Value), BindsTo s fd ⟨[u], []⟩ [(x, u)])
    (hsp : ∀ H : Hp, Only H → SqL K H a (ns.map V.int) → sp [.ref a] H (fun v _ => v = .bl true) fun _ _ _ => False)
    (hCX : ∀ H e s', CX [] H s₁ (fun _ _ _ => False) e s' → False) :
    codeAny (model P w) callerA (.call (.ref fa) ⟨[.ref a], []⟩) (fun r s' => r = .ok (.ret (.bool true)) ∧ OldK s₁.heap s'.heap ∧ s'.os = s₁.os ∧ AllBare s'.gens) s₁ := by
  have rv := vals_ints hi
  have core := core_g KX hns hb hbb hlim hg ha hr hsy F bd hsp hCX
  cases hk : K.lookup a with
  | some o =>
    have e := KX a o hk
    rw [ha] at e
    cases e
    exact core (fun _ => none) (fun _ => Or.inl rfl) (Or.inr ⟨_, vs.toArray, _, hk, rfl, rfl, rfl, by rw [List.size_toArray, hi.length]; exact hl, by simpa using rv⟩) (fun b u z => nomatch z) (fun b u z => nomatch z)
  | none =>
    have at1 : ∀ b u, (fun b => if b = a then some (HO.frz { cls := .type "list", data := .seq vs.toArray } (.lst (ns.map V.int))) else none : Hp) b = some u → b = a ∧ u = HO.frz { cls := .type "list", data := .seq vs.toArray } (.lst (ns.map V.int)) := fun b u z => by
      by_cases q : b = a
      · have z' := (if_pos q).symm.trans z
        cases z'
        exact ⟨q, rfl⟩
      · have z' := (if_neg q).symm.trans z
        cases z'
    refine core _ (fun b => ?_) (Or.inl (Or.inr ⟨{ cls := .type "list", data := .seq vs.toArray }, if_pos rfl⟩)) (fun b u z => ?_) (fun b u z => ⟨(at1 b u z).1, hk⟩)
    · by_cases q : b = a
      · exact Or.inr ⟨_, _, if_pos q⟩
      · exact Or.inl (if_neg q)
    · obtain ⟨rfl, rfl⟩ := at1 b u z
      exact ⟨ha, by rw [List.length_map]; exact hl, vs, _, rv, ha⟩
end
theorem walk_g {l : PySem.W.OpenLaw} {n k : Nat} {q : Program} {loose : List Str} {XP : (Str → Option Value) → Heap → Prop} {YP : World → Heap → Prop} {d : DefRec} {K : Params → PySem.W.Frag} {CX : World → CXT} {sp : World → Sp} {x : Str}
    (hn : l.most = some n) (hn2 : n ≤ sizeLine) (hdf : d.params.defaults = []) (hr : Room k callerA) (hY : ∀ (w : World) (h : Heap), YP w h → (K w.params).In h) (hi : importsNone q = true)
    (F : ∀ (w : World) (mg : Str → Option Value) (fa : Addr) (h : Heap), (K w.params).In h → h.Ns mainGlobals mg → mg d.name = some (.ref fa) →
      ∃ fd : FuncData, (∀ (s : Shared) (u : Value), BindsTo s fd ⟨[u], []⟩ [(x, u)]) ∧ ∀ base : Heap, (K w.params).In base → base.Ns mainGlobals mg → SysAt base → FnG l.prog w (K w.params) mg base (CX w) k fa fd [x] (sp w))
    (hsp : ∀ (w : World) (H : Hp) (a : Addr) (ns : List Int), ns.length ≤ n → Only H → SqL (K w.params) H a (ns.map V.int) → sp w [.ref a] H (fun v _ => v = .bl true) fun _ _ _ => False)
    (hCX : ∀ (w : World) (H : Hp) (s : Shared) (e : Value) (s' : Shared), CX w [] H s (fun _ _ _ => False) e s' → False) :
    PySem.W.WalkO q loose XP YP l.row.toRowW d [] (fun f vs => PySem.call f vs) := by
  refine Att.attach_call hn hdf fun w s₀ s₁ mg mb fa o pm cd doc a vs ns G Y ho hd hcd hmg hobj hints hlen hg => ?_
  have KX := hY w _ Y
  obtain ⟨fd, bd, hF⟩ := F w mg fa _ KX G.T.g hmg
  exact law_g KX G.T.g G.T.b G.T.builtins G.T.nolimit hg hobj hints (Nat.le_trans hlen hn2) hr ((G.T.seer hi).2.elim fun m h => ⟨m, h.1⟩) hF bd (fun H hO hS => hsp w H a ns hlen hO hS) fun H e s' => hCX w H s₁ e s'
end GL

set_option Elab.async false
set_option linter.all false
set_option maxRecDepth 100000
set_option maxHeartbeats 4000000
namespace L2
open PySem PySem.Spec PyProof.Rows
/-- the class at C is an own error whose own __init__ stands at fI -/
structure OMk (K : PySem.W.Frag) (C fI : Addr) : Prop where
  o : OexC K C
  i : PySem.W.findIn K (.ref C) "__init__" = some (some (.ref fI))
  t : PySem.W.typeIn K (.ref fI) = some (.type "function")
/-- C(e, .., k = v, ..), a new error as a value -/
def tOex (C : Addr) (n m : Nat) (sp : Sp) (gV : List V → List V → List V) (E : XK) (t tk : TA) : TE := fun σ H Q => t σ H fun vs H1 => tk σ H1 fun zs H2 => vs.length = n ∧ zs.length = m ∧ ∀ a, H2 a = none →
  sp (gV (.ref a :: vs) zs) (upd H2 a (exo a C none)) (fun v H3 => v = .non ∧ Q (.ref a) H3) E
section
variable {X : Cx} {CX : CXT} {k n : Nat} {fI C : Addr} {fd : FuncData} {ps ks : List Str} {sp : Sp} {E : XK} {x : Str} {p pos : Pos} {e : Expr} {es : List Expr} {kws : List Keyword} {t tk : TA} {g : List Value → List Value → List Value} {gV : List V → List V → List V}
theorem run_oex {pins : List (Addr × Obj)} {σ : St} {H : Hp} {s : Shared} {Q : VK} {us ws : List Value} {vs zs : List V} (M : OMk X.K C fI) (F1 : GL.FnG X.prog X.w X.K X.mg X.base CX k fI fd ps sp) (hq : GL.Quiet X.A) (hr : Room (k + 1) X.A) (hb : KBn X.K fd ps (n + 1) ks g gV)
    (hx : Passes CX X E) (I : Inv X pins σ H s) (r : Vals vs us) (rz : Vals zs ws) (l1 : vs.length = n) (l2 : zs.length = ks.length) (hz : n ≤ 1000)
    (h : ∀ a, H a = none → sp (gV (.ref a :: vs) zs) (upd H a (exo a C none)) (fun v H2 => v = .non ∧ Q (.ref a) H2) E) :
    wpAny (model X.prog X.w) X.A (call (.ref C) us (ks.zip ws)) (EP X pins σ Q) X.xe s := by
  obtain ⟨nm, q, N, bs, bm, sn, sub, ab, col, dd, k0, k1, k2, k3, k5, hC, hbm⟩ := M.o.cls
  obtain ⟨hp, g', dr, tk, os⟩ := s
  have hsz : hp.objs.size ≤ hp.objs.size + 1 := Nat.le_succ _
  have hn : H (hp.objs.size + 1) = none := I.hok.fresh hsz
  have hsp := h (hp.objs.size + 1) hn
  have kk : ∀ b o, hp.get? b = some o → ((hp.push (PySem.W.kdv_tup us)).push (PySem.HandSPX.excO C hp.objs.size)).get? b = some o := fun b o e => Heap.get?_push_of_some _ (Heap.get?_push_of_some _ e)
  have hget : ((hp.push (PySem.W.kdv_tup us)).push (PySem.HandSPX.excO C hp.objs.size)).get? (hp.objs.size + 1) = some (PySem.HandSPX.excO C hp.objs.size) := by heap_get
  have I2 : Inv X pins σ (upd H (hp.objs.size + 1) (exo (hp.objs.size + 1) C none)) ⟨(hp.push (PySem.W.kdv_tup us)).push (PySem.HandSPX.excO C hp.objs.size), g', dr, tk, os⟩ :=
    I.laid (t' := tk) (a := hp.objs.size + 1) (o := exo (hp.objs.size + 1) C none) (h' := (hp.push (PySem.W.kdv_tup us)).push (PySem.HandSPX.excO C hp.objs.size)) kk hsz (exo_ok hget)
  have r1 : Vals (V.ref (hp.objs.size + 1) :: vs) (Value.ref (hp.objs.size + 1) :: us) := .cons rfl r
  have r2 := hb.rel r1 rz
  have e1 : (Value.ref (hp.objs.size + 1) :: us).length = n + 1 := r1.length.symm.trans (congrArg Nat.succ l1)
  have e2 : ws.length = ks.length := rz.length.symm.trans l2
  have hus : us.length ≤ sizeLine := by
    rw [← Paired.length r, l1, sizeLine_eq]
    omega
  refine wpAny_call (PySem.OEXK.call_kw F.excBase_ValueError (fun Y => PySem.HandSPX.refsVE_contains Y bm hbm) (I.kIn _ _ hC) (PySem.W.looks_findIn I.kIn M.i) (fun self => PySem.W.bind_fn I.kIn self M.t) hus
    (codeAny_mono (F1.go _ (hq.make C us (ks.zip ws)) (hr.make C us (ks.zip ws)) X.stack _ _ (I2.env0.make C us (ks.zip ws)) ⟨Value.ref (hp.objs.size + 1) :: us, ks.zip ws⟩ (g (Value.ref (hp.objs.size + 1) :: us) ws) _ (hb.to _ (Value.ref (hp.objs.size + 1) :: us) ws I2.kIn e1 e2) r2 _ E hsp) fun r s' hq' => ?_))
  cases r with
  | error er => exact hx pins σ _ _ er s' I2 hq'
  | ok fl =>
    cases fl with
    | ret u =>
      obtain ⟨v, H', I3, rv, ev, q3⟩ := I2.after hq'
      subst ev
      exact ⟨rv, ⟨V.ref (hp.objs.size + 1), H', I3, rfl, q3⟩⟩
    | next => exact False.elim hq'
    | brk => exact False.elim hq'
    | cont => exact False.elim hq'
/-- C(k = v, ..) -/
theorem pe_oexK0 (M : OMk X.K C fI) (F1 : GL.FnG X.prog X.w X.K X.mg X.base CX k fI fd ps sp) (hq : GL.Quiet X.A) (hr : Room (k + 1) X.A) (hg : Gl X x) (hm : X.mg x = some (.ref C)) (hb : KBn X.K fd ps 1 ks g gV) (hx : Passes CX X E) (hkw : PK X kws tk)
    (hall : (backToKw pos (keywordEach kws X.env)).all (·.1.isSome) = true := by rfl) (hks : (backToKw pos (keywordEach kws X.env)).filterMap (·.1) = ks := by rfl) (hdb : (x == ("__debug__" : Str)) = false := by decide)
    (hpl : ((backTo pos (starEach [] X.env)).any (·.1) || (backToKw pos (keywordEach kws X.env)).any (·.1.isNone)) = false := by rfl) :
    PE X (.Call (.Name x p) [] kws pos) (tOex C 0 ks.length sp gV E tNil tk) := by
  refine ⟨fun pins s σ H Q I h => ?_⟩
  refine wpAny_Call_Name_kw (ld_glob I hg hm ?_ hdb)
  refine PySem.W.callWith_KW0 (h₀ := X.base) I.ok.mod.kin M.o.kC hall ?_ hpl
  refine thn (hkw.run pos pins s σ H _ I h) fun ws s2 ⟨zs, H2, I2, rz, l1, l2, q2⟩ => ⟨I2.kIn, ?_⟩
  rw [hks]
  exact run_oex (us := []) (vs := []) M F1 hq hr hb hx I2 .nil rz rfl l2 (Nat.zero_le _) q2
/-- C(e, ..) -/
theorem pe_oex (M : OMk X.K C fI) (F1 : GL.FnG X.prog X.w X.K X.mg X.base CX k fI fd ps sp) (hq : GL.Quiet X.A) (hr : Room (k + 1) X.A) (hg : Gl X x) (hm : X.mg x = some (.ref C)) (hb : KBn X.K fd ps (n + 1) [] g gV) (hx : Passes CX X E) (hz : n ≤ 1000) (ha : PA X (e :: es) t)
    (hdb : (x == ("__debug__" : Str)) = false := by decide) (he : starEach (e :: es) X.env = (false, eval e X.env) :: starEach es X.env := by rfl) (hpl : (backTo pos (starEach es X.env)).any (·.1) = false := by rfl) :
    PE X (.Call (.Name x p) (e :: es) [] pos) (tOex C n 0 sp gV E t tNil) := by
  refine ⟨fun pins s σ H Q I h => ?_⟩
  refine wpAny_Call_Name_kw (ld_glob I hg hm ?_ hdb)
  refine PySem.W.callWith_K (h₀ := X.base) I.ok.mod.kin M.o.kC (thn (ha.run pos pins s σ H _ I h) fun us s1 ⟨vs, H1, I1, r, l1, l2, q⟩ => ⟨I1.kIn, ?_⟩) he hpl
  exact run_oex (ks := []) (ws := []) (zs := []) M F1 hq hr hb hx I1 r .nil l1 l2 hz q
/-- an own error class without an own __init__, called with nothing: a new error -/
theorem pe_exc0 {bmB : List Value} {B newId initId : String} (F : ExcBaseFacts B newId initId bmB) (q : PySem.W.excIn X.K C bmB newId = true) (gC : X.mg x = some (.ref C)) (kC : PySem.W.keepIn X.K (.ref C) = true) (hg : Gl X x)
    (hdb : (x == ("__debug__" : Str)) = false := by decide) :
    PE X (.Call (.Name x p) [] [] pos) (fun σ H Q => ∀ a, H a = none → Q (.ref a) (upd H a (exo a C none))) := by
  refine ⟨fun pins s σ H Q I h => ?_⟩
  refine wpAny_Call_Name_kw (ld_glob I hg gC ?_ hdb)
  refine PySem.W.callWith_K0 I.kIn kC ?_
  show wpAny _ _ (call (.ref C) []) _ _ _
  obtain ⟨bm, N, nm, qn, bs, hdct, sn, sub, ab, col, dd, k0, k1, k2, k3, k5, mN, hC, hN, hni, T⟩ := exc_obj I.kIn q
  refine wpAny_call_exc_subT F T hC hN hni (fun h' a hm => ?_) (by show 0 ≤ sizeLine; exact Nat.zero_le _)
  have hn : H a = none := I.hok.gone hm.new
  obtain ⟨t, ht, _, _⟩ := hm.there
  exact ⟨.ref a, upd H a (exo a C none), I.laidN hm.keeps hm.new hn (exo_ok ht), rfl, h a hn⟩
end

/-! ### what is read off such an error -/
/-- what its class must say besides -/
structure OGet (K : PySem.W.Frag) (C : Addr) : Prop where
  hg : PySem.W.findIn K (.ref C) "__getattribute__" = some (some (.builtin "BaseException.__getattribute__"))
  hk : PySem.W.findIn K (.ref C) "__getattr__" = some none
  hs : PySem.W.subIn K (.ref C) (.type "BaseException") = some true
  hc : (PySem.W.clsIn K C).isSome = true
  hd : PySem.W.hasDictIn K C = true
  ha : PySem.W.findIn K (.ref C) "__class__" = some (some (.builtin "object.__class__"))
  hn : PySem.W.specialIn K (.builtin "object.__class__") "__get__" = some (some (.builtin "getset_descriptor.__get__"))
  ht : PySem.W.takesIn K (.builtin "object.__class__") = some true
  hm : PySem.W.mroIn K C (.type "object") = some true
/-- e.f, e an error of the class at C with the dict at dx -/
def tOfl (K : PySem.W.Frag) (f : Str) (te : TE) : TE := fun σ H Q => te σ H fun x H1 => ∃ (a C dx : Addr) (fs : List (Str × V)) (v : V), x = .ref a ∧ OGet K C ∧ PySem.W.findIn K (.ref C) f = some none ∧
  H1 a = some (exo a C (some dx)) ∧ H1 dx = some (exd dx fs) ∧ fs.lookup f = some v ∧ Q v H1
section
variable {X : Cx} {e : Expr} {te : TE} {f : Str} {pos : Pos}
theorem pe_ofl (he : PE X e te) (hb : attributeBase e f X.env (eval e X.env) = eval e X.env := by rfl) : PE X (.Attribute e f pos) (tOfl X.K f te) := by
  refine ⟨fun pins s σ H Q I h => ?_⟩
  refine attr_of hb (thn (he.run pins s σ H _ I h) fun u s1 hh => ?_)
  obtain ⟨x, H1, I1, rx, a, C, dx, fs, v, ex, T, hno, ea, ed, hl, q⟩ := hh
  subst ex
  obtain rfl : u = Value.ref a := rx
  obtain ⟨t1, ho⟩ := exo_at I1.hok ea
  obtain ⟨mA, hns, rel⟩ := exd_at I1.hok ed
  obtain ⟨od, hod, hlk⟩ := lookIn_ns hns
  obtain ⟨u, hu, ru⟩ := RelO.some_of (v := v) (o := mA f) (by rw [← hl]; exact rel f)
  have J : PySem.W.InstAt s1.heap a { cls := .ref C, dict := some dx, data := .fields #[.ref t1, .none, .none, .none, .bool false, .none] } C (some od) := ⟨ho, rfl, rfl, hod⟩
  exact HandSPX.exc_get I1.kIn J T.hg T.hk T.hs (PySem.W.findObj_own T.hd hno rfl (by rw [hlk, hu])) (handed_of ru) ⟨v, H1, I1.tok _, ru, q⟩
/-- isinstance(e, c) -/
def rIsO (K : PySem.W.Frag) : List V → Hp → VK → Prop := fun xs H Q => ∃ (a C : Addr) (d : Option Addr) (c : V) (u : Value) (b : Bool), xs = [.ref a, c] ∧ ClsV c u ∧ OGet K C ∧ H a = some (exo a C d) ∧ (∀ dx, d = some dx → ∃ fs, H dx = some (exd dx fs)) ∧
  PySem.W.kitOne K (.ref C) u = some b ∧ Q (.bl b) H
theorem call_isO : CallR X (.builtin "isinstance") (rIsO X.K) := by
  intro pins s σ H xs us Q I r h
  obtain ⟨a, C, d, c, u, b, rfl, kc, T, ea, ed, e, q⟩ := h
  obtain ⟨u1, u2, rfl, r1, r2⟩ := vals2 r
  have e2 := kc.eq r2
  subst e2
  obtain rfl : u1 = Value.ref a := r1
  obtain ⟨t1, ho⟩ := exo_at I.hok ea
  have J : ∃ od, PySem.W.InstAt s.heap a { cls := .ref C, dict := d, data := .fields #[.ref t1, .none, .none, .none, .bool false, .none] } C od := by
    cases d with
    | none => exact ⟨none, ho, rfl, rfl, trivial⟩
    | some dx =>
      obtain ⟨fs, hd⟩ := ed dx rfl
      obtain ⟨mA, hns, rel⟩ := exd_at I.hok hd
      obtain ⟨od, hod, hlk⟩ := lookIn_ns hns
      exact ⟨some od, ho, rfl, rfl, hod⟩
  obtain ⟨od, J⟩ := J
  exact PySem.W.kia_one (PySem.W.kitx_exc T.hc T.hg T.hk T.hs T.ha T.hn T.ht T.hm) I.kIn J e (fun z => nomatch z) fun tk => ⟨.bl b, H, I.tok tk, rfl, q⟩
end
end L2

set_option Elab.async false
set_option linter.all false
set_option maxRecDepth 100000
set_option maxHeartbeats 2000000
namespace GL
open PySem PySem.Spec PyProof.Rows L2
/-! an error that was caught and is kept behind the clause: tracked from then on by its class and its dict -/
def exk (e C : Addr) (d : Option Addr) : HO := .ext fun g => ∃ (ob : Obj) (vs : Array Value), g.get? e = some ob ∧ ob.cls = .ref C ∧ ob.dict = d ∧ ob.data = .fields vs
theorem exk_ok {P : Program} {w : World} {H : Hp} {g : Heap} {e C : Addr} {d : Option Addr} {ob : Obj} {vs : Array Value} (h : g.get? e = some ob) (h1 : ob.cls = .ref C) (h2 : ob.dict = d) (h3 : ob.data = .fields vs) : ObjOk P w H g e (exk e C d) :=
  ⟨⟨ob, vs, h, h1, h2, h3⟩, ⟨ob, h⟩, fun g1 g2 ⟨u, us, k, k1, k2, k3⟩ st => ⟨u, us, st u k, k1, k2, k3⟩⟩
theorem exk_at {P : Program} {w : World} {H : Hp} {g : Heap} {e C : Addr} {d : Option Addr} (ok : HOk P w H g) (h : H e = some (exk e C d)) : ∃ (ob : Obj) (vs : Array Value), g.get? e = some ob ∧ ob.cls = .ref C ∧ ob.dict = d ∧ ob.data = .fields vs :=
  (show (∃ (ob : Obj) (vs : Array Value), g.get? e = some ob ∧ ob.cls = .ref C ∧ ob.dict = d ∧ ob.data = .fields vs) ∧ _ from ok e _ h).1
section
variable {X : Cx} {pins : List (Addr × Obj)} {σ : L2.St} {H : Hp} {s : Shared} {a : Addr} {o : HO}
/-- an object that came since the def's entry, untracked so far, is tracked -/
theorem track (I : Inv X pins σ H s) (na : H a = none) (ns : X.s_0.heap.get? a = none) (new : ObjOk X.prog X.w (upd H a o) s.heap a o) (nL : a ≠ X.env.locals) (nC : ∀ x c, X.env.cells.lookup x = some c → c ≠ a) (nP : ∀ p ∈ X.pn ++ pins, p.1 ≠ a) : Inv X pins σ (upd H a o) s := by
  have up : ∀ {b : Addr} {u : HO}, H b = some u → upd H a o b = some u := fun {b u} z => by rw [upd_ne (ne_of_none z na)]; exact z
  refine ⟨I.ok, I.os, I.bare, ⟨I.base.keep, I.base.slot, fun b u z n hx => ?_, I.base.there, fun b xs z => up (I.base.tups b xs z), fun b u v z => up (I.base.frzs b u v z), fun b ps z => ?_⟩, I.loc, I.cell, ?_, fun x c z => ?_, fun p hp => ?_, fun b u z => ?_, I.len⟩
  · have hb : b ≠ a := fun e => by rw [e, ns] at z; cases z
    rw [upd_ne hb]
    exact I.base.free b u z n hx
  · obtain ⟨more, hm⟩ := I.base.tbls b ps z
    exact ⟨more, up hm⟩
  · rw [upd_ne (Ne.symm nL)]; exact I.free
  · rw [upd_ne (nC x c z)]; exact I.freeC x c z
  · obtain ⟨p1, p2, p3⟩ := I.pin p hp
    exact ⟨p1, by rw [upd_ne (nP p hp)]; exact p2, p3⟩
  · by_cases hb : b = a
    · subst hb; rw [upd_same] at z; cases z; exact new
    · rw [upd_ne hb] at z
      exact (I.hok b u z).stay (fun _ _ _ q => q) (fun c q => up q) fun c xs q => up q
end
/-- what the clause 'except x as n' wishes, the error kept: slot i is n's -/
def wKp (K : PySem.W.Frag) (c : Value) (i : Nat) (ts : Addr → Value → Option Addr → TS) (Wout : WX) (D : Ends) : WX := fun cls d σ H =>
  ∃ b, PySem.W.exmOne K cls c = some b ∧ (b = true → ∃ C : Addr, cls = .ref C ∧ ∀ a, H a = none → ts a cls d { nx := fun σ' H' => H' a = none → D.nx (σ'.set i none) (upd H' a (exk a C d)), rt := fun _ _ => False, bk := fun _ _ => False, ct := fun _ _ => False } (σ.set i (some (.ref a))) H) ∧
    (b = false → Wout cls d σ H)
section
variable {X : Cx} {x n : Str} {c : Value} {i : Nat} {body suite : List Stmt} {b₀ : Stmt} {np pos pos' : Pos} {tb : WX → TS} {ts : Addr → Value → Option Addr → TS} {Wout : WX}
theorem ps_try_kept (sk : X.stack = X.env :: X.outer) (fr : X.env.frame = some X.env.locals) (xx0 : X.ex = []) (nd : X.N.Nodup) (iN : X.N[i]? = some n) (lc : X.env.kindOf n = some .local) (nm : Names X x c) (tk : Takes X Wout)
    (bd : ∀ (W : WX) (pn : List (Addr × Obj)) (xe : Value → Shared → Prop), Takes (X.tr pn xe) W → PassesOwn (model X.prog X.w) X.A X.env xe → PSs (X.tr pn xe) body (tb W))
    (su : ∀ (a : Addr) (oe : Obj) (cls : Value) (d : Option Addr) (pn : List (Addr × Obj)), Zc cls d oe → (∃ vs, oe.data = .fields vs) → PSs (X.suite a ((a, oe) :: pn)) (b₀ :: suite) (ts a cls d)) :
    PS X (.Try body [.ExceptHandler (some (.Name x np)) (some n) (b₀ :: suite) pos'] [] [] pos) (fun D σ H => tb (wKp X.K c i ts Wout D) D σ H) := by
  refine ⟨fun pins s σ H D I start => ?_⟩
  have okX := I.ok
  have frs2 : X.A.frames = some (X.env :: X.outer) := by rw [okX.frames, sk]
  have lc2 : Loc X.env.scope n := Or.inl lc
  refine wpAny_Try_except (wpAny_mono ((bd (wKp X.K c i ts Wout D) (X.pn ++ pins) (fun e t1 => wpAny (model X.prog X.w) X.A (noteFrame e X.env) (fun _ t2 => wpAny (model X.prog X.w) X.A (setFlight e none) (fun _ t3 =>
    wpAny (model X.prog X.w) X.A (handleBy e X.env [.ExceptHandler (some (.Name x np)) (some n) (b₀ :: suite) pos']) (SP X pins D) X.xe t3) X.xe t2) X.xe t1) (fun u t' xe => ?_) PassesOwn.looking).run [] s σ H D (I.toTry _) start) (fun f t1 z => ?_) fun e t1 z => z)
  · obtain ⟨a, B, sI, pins0, σ0, H0, cls, d, rfl, J0, grd, up0, sky0, na, os0, ag0, b, mt, yes, no⟩ := xe
    have J : Inv X pins σ0 H0 sI := J0.ofTry okX
    have sky1 : Sky B (X.env :: X.outer) a (Zc cls d) X.env.locals t'.heap := by rw [← sk]; exact sky0
    show wpAny (model X.prog X.w) X.A (noteFrame (.ref a) X.env) _ _ _
    refine Sky.land Zc.steady frs2 fr sky1 fun g3 fly up3 => ?_
    have J3 : Inv X pins σ0 H0 { t' with heap := g3 } := J.landed grd fly.1 (up0.trans up3) os0 ag0
    obtain ⟨oe, vs, he, hz, hd⟩ := fly.there
    have nfr : a ∉ frs (X.env :: X.outer) := fun hm => by
      obtain ⟨_, o', e', hnf⟩ := fly.2.2.1.mem hm
      rw [he] at e'; cases e'
      exact hnf _ hd
    have nL : a ≠ X.env.locals := fun z => nfr (List.mem_filterMap.mpr ⟨X.env, List.mem_cons_self, by rw [fr, z]⟩)
    have nF : a ∉ X.fs := fun hm => by
      obtain ⟨e, h1, h2⟩ := List.mem_filterMap.mp hm
      exact nfr (List.mem_filterMap.mpr ⟨e, List.mem_cons_of_mem _ h1, h2⟩)
    have nI : sI.heap.get? a = none := by
      cases q : sI.heap.get? a with
      | none => rfl
      | some o =>
        have z := grd a o q (by rw [sk]; exact nfr)
        rw [fly.2.1] at z
        cases z
    have n0 : X.s_0.heap.get? a = none := by
      cases q : X.s_0.heap.get? a with
      | none => rfl
      | some o =>
        obtain ⟨o', z⟩ := J.base.there a o q (by rw [xx0]; exact List.not_mem_nil)
        rw [nI] at z
        cases z
    have nC : ∀ y c, X.env.cells.lookup y = some c → c ≠ a := fun y c hc e => by
      obtain ⟨v, o, z, _⟩ := J.cell y c hc
      rw [e, nI] at z
      cases z
    have nP : ∀ p ∈ X.pn ++ pins, p.1 ≠ a := fun p hp e => by
      have z := (J.pin p hp).1
      rw [e, nI] at z
      cases z
    have S3 := J3.suite he hd na nL nF
    refine wpAny_handleBy_cons (codeAny_handlers_test ?_) (by intro q; cases q)
    have LM := PySem.W.exm_one (M := model X.prog X.w) J3.kIn (fun A Q E s k q => wpAny_typeOf_ref (k _ _ he) (by rw [hz.1]; exact q)) mt
    have look : ∀ {Q E : Value → Shared → Prop}, Q c { t' with heap := g3 } → wpAny (model X.prog X.w) (X.A.mark (some (.ref a))) (eval (.Name x np) X.env) Q E { t' with heap := g3 } := fun {Q E} q => by
      obtain ⟨hg, hdb, hm | ⟨hm, hv, hn⟩⟩ := nm
      · exact ld_glob (X := X.suite a ((a, oe) :: (X.pn ++ pins))) S3 hg hm q hdb
      · exact ld_blt (X := X.suite a ((a, oe) :: (X.pn ++ pins))) S3 hg hm hv q hn hdb
    refine look (LM.here ?_)
    cases b with
    | true =>
      obtain ⟨C, ec, yes⟩ := yes rfl
      refine codeAny_handlers_suite_as (HandSPX.lands_againZ fly fun g4 fly4 up4 => ?_)
      have J4 : Inv X pins σ0 H0 { t' with heap := g4 } := J.landed grd fly4.1 ((up0.trans up3).trans up4) os0 ag0
      obtain ⟨ou, us, hu, zu, du⟩ := fly4.there
      have S4 := J4.suite hu du na nL nF
      refine store_ok (X := X.suite a ((a, ou) :: (X.pn ++ pins))) (v := .ref a) S4 nd iN lc2 rfl (fun t5 S5 => ?_) (.inr lc)
      refine wpAny_mono ((su a ou cls d (X.pn ++ pins) zu ⟨_, du⟩).run [] t5 _ H0 _ S5 (yes a na)) (fun f t6 z => ?_) (fun _ _ z => False.elim z)
      cases f with
      | next =>
        obtain ⟨σ6, H6, S6, q6⟩ := z
        obtain ⟨p1, p2, _⟩ := S6.pin (a, ou) (by simp)
        have I6 : Inv X pins σ6 (upd H6 a (exk a C d)) t6 := track (S6.unsuite okX) p2 n0 (exk_ok p1 (zu.1.trans ec) zu.2 du) nL nC nP
        exact gone_ok I6 nd iN lc fun t7 J7 => ⟨_, _, J7, q6 p2⟩
      | brk => obtain ⟨_, _, _, q6⟩ := z; exact q6.elim
      | cont => obtain ⟨_, _, _, q6⟩ := z; exact q6.elim
      | ret u => obtain ⟨_, _, _, _, _, q6⟩ := z; exact q6.elim
    | false =>
      show wpAny _ X.A (handleBy (.ref a) X.env []) _ _ _
      refine wpAny_handleBy_nil ?_
      obtain ⟨_, _, _, ov, ws, T, oT, ts', hv, _, hw, h1, _⟩ := id fly
      unfold PySem.passOn
      refine wpAny_bind (wpAny_field hv hw h1 ?_)
      rw [if_neg (show ¬ ((Value.ref T == Value.none) = true) by simp)]
      have fin : wpAny (model X.prog X.w) X.A (setFlight (.ref a) X.env.frame) (fun _ t4 => wpAny (model X.prog X.w) X.A (throw (.ref a) : Sem Flow) (SP X pins D) X.xe t4) X.xe { t' with heap := g3 } := by
        rw [fr]
        refine HandSPX.setFlight_upZ fly fun g4 hh4 up4 => wpAny_throw (tk _ _ ?_)
        exact ⟨a, B, sI, pins, σ0, H0, cls, d, rfl, J, grd, (up0.trans up3).trans up4, .inr (.inr (by rw [sk]; exact hh4)), na, os0, ag0, no rfl⟩
      first
        | exact wpAny_bind (wpAny_pure (wpAny_bind fin))
        | exact wpAny_bind fin
  · cases f with
    | next => obtain ⟨σ1, H1, J1, q⟩ := z; exact wpAny_execs_nil ⟨σ1, H1, J1.ofTry okX, q⟩
    | brk => obtain ⟨σ1, H1, J1, q⟩ := z; exact ⟨σ1, H1, J1.ofTry okX, q⟩
    | cont => obtain ⟨σ1, H1, J1, q⟩ := z; exact ⟨σ1, H1, J1.ofTry okX, q⟩
    | ret u => obtain ⟨v, σ1, H1, J1, r, q⟩ := z; exact ⟨v, σ1, H1, J1.ofTry okX, r, q⟩
end
end GL

set_option Elab.async false
set_option linter.all false
set_option maxRecDepth 100000
set_option maxHeartbeats 2000000
namespace GL
open PySem PySem.Spec PyProof.Rows L2
/-! data of any kind, dicts (keys ints and texts) among it, and repr of it -/
def kD : Key → PyData
  | .inl i => .int i
  | .inr x => .str x
mutual
inductive Dq (K : PySem.W.Frag) (H : Hp) : V → PyData → Prop
  | non : Dq K H .non .none
  | bl (b : Bool) : Dq K H (.bl b) (.bool b)
  | int (i : Int) : Dq K H (.int i) (.int i)
  | str (x : Str) : Dq K H (.str x) (.str x)
  | lst {a : Addr} {xs : List V} {ds : List PyData} : SqL K H a xs → DqAll K H xs ds → Dq K H (.ref a) (.list ds)
  | tup {a : Addr} {xs : List V} {ds : List PyData} : SqT K H a xs → DqAll K H xs ds → Dq K H (.ref a) (.tuple ds)
  | dct {a : Addr} {kvs : List (Key × V)} {ds : List (PyData × PyData)} : Rd H a (.dK kvs) → DqKv K H kvs ds → Dq K H (.ref a) (.dict ds)
inductive DqAll (K : PySem.W.Frag) (H : Hp) : List V → List PyData → Prop
  | nil : DqAll K H [] []
  | cons {v : V} {vs : List V} {d : PyData} {ds : List PyData} : Dq K H v d → DqAll K H vs ds → DqAll K H (v :: vs) (d :: ds)
inductive DqKv (K : PySem.W.Frag) (H : Hp) : List (Key × V) → List (PyData × PyData) → Prop
  | nil : DqKv K H [] []
  | cons {k : Key} {v : V} {vs : List (Key × V)} {d : PyData} {ds : List (PyData × PyData)} : Dq K H v d → DqKv K H vs ds → DqKv K H ((k, v) :: vs) ((kD k, d) :: ds)
end
section
variable {X : Cx} {pins : List (Addr × Obj)} {σ : L2.St} {H : Hp} {s : Shared}
theorem lst_ne (hs : SysAt X.base) (I : Inv X pins σ H s) {a : Addr} {xs : List V} (h : SqL X.K H a xs) : a ≠ sysModules := by
  rintro rfl
  obtain ⟨its, rv, ⟨o, n, ho, hc, _, hd⟩, _⟩ := I.list h
  obtain ⟨m, o', es, ep, e, d, _⟩ := hs
  have z := (I.bs _ _ e).1
  rw [ho] at z
  cases z
  rw [hd] at d
  cases d
theorem same_r {H H' : Hp} (e : Same H H') {a : Addr} {u : HO} (h : Rd H a u) : Rd H' a u := h.elim (fun h => .inl (e _ _ h)) fun ⟨o, h⟩ => .inr ⟨o, e _ _ h⟩
theorem same_t {K : PySem.W.Frag} {H H' : Hp} (e : Same H H') {a : Addr} {xs : List V} (h : SqT K H a xs) : SqT K H' a xs := h.elim (fun h => .inl (same_r e h)) .inr
mutual
theorem Dq.reads (hs : SysAt X.base) (I : Inv X pins σ H s) : ∀ (d : PyData) (v : V) (u : Value), Dq X.K H v d → RelV v u → ∃ as, Reads s.heap u d as ∧ sysModules ∉ as
  | .none, _, _, h, r => by cases h; cases r; exact ⟨_, Reads.none, List.not_mem_nil⟩
  | .bool b, _, _, h, r => by cases h; cases r; exact ⟨_, Reads.bool b, List.not_mem_nil⟩
  | .int i, _, _, h, r => by cases h; obtain ⟨t, rfl⟩ := r; exact ⟨_, Reads.int i t, List.not_mem_nil⟩
  | .str x, _, _, h, r => by cases h; obtain ⟨t, rfl⟩ := r; exact ⟨_, Reads.str x t, List.not_mem_nil⟩
  | .list ds, _, _, h, r => by
    cases h with
    | lst hx ha =>
      cases r
      have ne := lst_ne hs I hx
      obtain ⟨its, rv, ⟨o, n, ho, hc, _, hd⟩, _⟩ := I.list hx
      obtain ⟨as, hr, hn⟩ := Dq.readsAll hs I ds _ its ha rv
      exact ⟨_, Reads.list ho hc hd hr, fun z => (List.mem_cons.mp z).elim (fun q => ne q.symm) hn⟩
  | .tuple ds, _, _, h, r => by
    cases h with
    | tup hx ha =>
      cases r
      obtain ⟨its, rv, ⟨o, ho, hc, n, hd⟩, _⟩ := I.tuple hx
      obtain ⟨as, hr, hn⟩ := Dq.readsAll hs I ds _ its ha rv
      exact ⟨_, Reads.tuple ho hc hd hr, hn⟩
  | .dict ds, _, _, h, r => by
    cases h with
    | @dct a kvs _ hx ha =>
      cases r
      obtain ⟨_, ne, vs, kv, o, es, ep, ho, hc, hd, _, hp, _⟩ := dk_rd I.hok hx
      obtain ⟨as, bs, h1, h2, n1, n2⟩ := Dq.readsKv hs I ds kvs es.toList vs ha kv hp
      refine ⟨_, Reads.dict ho hc.1 hd h1 h2, fun z => ?_⟩
      rcases List.mem_append.mp z with z | z
      · rcases List.mem_cons.mp z with z | z
        · exact absurd z.symm (beq_eq_false_iff_ne.mp ne)
        · exact n1 z
      · exact n2 z
theorem Dq.readsAll (hs : SysAt X.base) (I : Inv X pins σ H s) : ∀ (ds : List PyData) (vs : List V) (us : List Value), DqAll X.K H vs ds → Vals vs us → ∃ as, ReadsAll s.heap us ds as ∧ sysModules ∉ as
  | [], _, _, h, r => by cases h; cases r; exact ⟨_, ReadsAll.nil, List.not_mem_nil⟩
  | d :: ds, _, _, h, r => by
    cases h with
    | cons h1 h2 =>
      cases r with
      | cons r1 r2 =>
        obtain ⟨as, q1, n1⟩ := Dq.reads hs I d _ _ h1 r1
        obtain ⟨bs, q2, n2⟩ := Dq.readsAll hs I ds _ _ h2 r2
        exact ⟨_, ReadsAll.cons q1 q2, fun z => (List.mem_append.mp z).elim n1 n2⟩
theorem Dq.readsKv (hs : SysAt X.base) (I : Inv X pins σ H s) : ∀ (ds : List (PyData × PyData)) (kvs : List (Key × V)) (es : List DictEntry) (vs : List (Key × Value)), DqKv X.K H kvs ds → KV kvs vs → Pairs (mixKind X.prog X.w) es vs →
    ∃ as bs, ReadsAll s.heap (es.map (·.key)) (ds.map (·.1)) as ∧ ReadsAll s.heap (es.map (·.val)) (ds.map (·.2)) bs ∧ sysModules ∉ as ∧ sysModules ∉ bs
  | [], _, es, _, h, r, p => by
    cases h
    cases r
    cases p
    exact ⟨_, _, ReadsAll.nil, ReadsAll.nil, List.not_mem_nil, List.not_mem_nil⟩
  | d :: ds, _, es, _, h, r, p => by
    cases h with
    | @cons k v vs dd _ h1 h2 =>
      cases r with
      | cons r1 r2 =>
        cases p with
        | cons p1 p2 p3 =>
          obtain ⟨as, q1, n1⟩ := Dq.reads hs I dd _ _ h1 r1.2
          obtain ⟨bs1, bs2, q2, q3, n2, n3⟩ := Dq.readsKv hs I ds _ _ _ h2 r2 p3
          have kk : ∃ cs, Reads s.heap ‹DictEntry›.key (kD k) cs ∧ sysModules ∉ cs := by
            rw [← r1.1] at p1
            rcases keyIs_shape p1 with ⟨i, t, e1, e2⟩ | ⟨x, t, e1, e2⟩
            · cases (show k = _ from e1); rw [e2]; exact ⟨_, Reads.int i t, List.not_mem_nil⟩
            · cases (show k = _ from e1); rw [e2]; exact ⟨_, Reads.str x t, List.not_mem_nil⟩
          obtain ⟨cs, q4, n4⟩ := kk
          refine ⟨_, _, ReadsAll.cons q4 q2, ReadsAll.cons (by show Reads s.heap (DictEntry.val _) dd as; rw [p2]; exact q1) q3, fun z => (List.mem_append.mp z).elim n4 n2, fun z => (List.mem_append.mp z).elim n1 n3⟩
end
theorem Dq.ref_reads (hs : SysAt X.base) (I : Inv X pins σ H s) {d : PyData} {v : V} (h : Dq X.K H v d) {u : Value} (r : RelV v u) : ∃ as, Reads s.heap u d as ∧ sysModules ∉ as := Dq.reads hs I d v u h r
end
/-- repr(x) -/
def rRepr (K : PySem.W.Frag) : List V → Hp → VK → Prop := fun xs H Q => ∃ (x : V) (d : PyData), xs = [x] ∧ Dq K H x d ∧ d.showable = true ∧ d.shown.length ≤ sizeLine ∧ d.depth ≤ 60 ∧ Q (.str d.shown) H
theorem call_repr {X : Cx} (hs : SysAt X.base) (hq : Quiet X.A) (hu : X.A.units + 64 < cLine) : CallR X (.builtin "repr") (rRepr X.K) := by
  intro pins s σ H xs us Q I r h
  obtain ⟨x, d, rfl, hd, sh, sz, dp, q⟩ := h
  cases r with
  | cons r1 r2 =>
    cases r2
    rename_i u
    obtain ⟨as, rd, n⟩ := Dq.reads hs I d x u hd r1
    have fin : ∀ (tk : Nat) (t : Tok), EP X pins σ Q (.str d.shown t) { s with toks := tk } := fun tk t => ⟨.str d.shown, H, I.tok tk, ⟨t, rfl⟩, q⟩
    cases rd with
    | none => exact PySem.P.repr_of_none (fin _ _)
    | bool b => exact PySem.P.repr_of_bool (by simpa [PyData.shown] using fin _ _)
    | int i t => exact PySem.P.repr_of_int (by simpa [PyData.showable] using sh) (by simpa [PyData.shown] using fin _ _)
    | str y t => exact PySem.P.repr_of_str (by simpa [PyData.shown] using fin _ _) (by simpa [PyData.shown] using sz)
    | list h1 h2 h3 h4 => exact repr_of_reads' (.list h1 h2 h3 h4) sh (fun _ => n) hq (by omega) (fun _ _ e => e) (fun h' u tk k => ⟨.str _, H, I.kept k, ⟨u, rfl⟩, q⟩) sz
    | tuple h1 h2 h3 h4 => exact repr_of_reads' (.tuple h1 h2 h3 h4) sh (fun _ => n) hq (by omega) (fun _ _ e => e) (fun h' u tk k => ⟨.str _, H, I.kept k, ⟨u, rfl⟩, q⟩) sz
    | dict h1 h2 h3 h4 h5 => exact repr_of_reads' (.dict h1 h2 h3 h4 h5) sh (fun _ => n) hq (by omega) (fun _ _ e => e) (fun h' u tk k => ⟨.str _, H, I.kept k, ⟨u, rfl⟩, q⟩) sz
/-! what stands stays -/
mutual
theorem Dq.same {K : PySem.W.Frag} {H H' : Hp} (e : Same H H') : ∀ (d : PyData) {v : V}, Dq K H v d → Dq K H' v d
  | .none, _, h => by cases h; exact .non
  | .bool b, _, h => by cases h; exact .bl b
  | .int i, _, h => by cases h; exact .int i
  | .str x, _, h => by cases h; exact .str x
  | .list ds, _, h => by cases h with | lst h1 h2 => exact .lst (e.seq h1) (Dq.sameAll e ds h2)
  | .tuple ds, _, h => by cases h with | tup h1 h2 => exact .tup (same_t e h1) (Dq.sameAll e ds h2)
  | .dict ds, _, h => by cases h with | dct h1 h2 => exact .dct (same_r e h1) (Dq.sameKv e ds h2)
theorem Dq.sameAll {K : PySem.W.Frag} {H H' : Hp} (e : Same H H') : ∀ (ds : List PyData) {vs : List V}, DqAll K H vs ds → DqAll K H' vs ds
  | [], _, h => by cases h; exact .nil
  | d :: ds, _, h => by cases h with | cons h1 h2 => exact .cons (Dq.same e d h1) (Dq.sameAll e ds h2)
theorem Dq.sameKv {K : PySem.W.Frag} {H H' : Hp} (e : Same H H') : ∀ (ds : List (PyData × PyData)) {vs : List (Key × V)}, DqKv K H vs ds → DqKv K H' vs ds
  | [], _, h => by cases h; exact .nil
  | d :: ds, _, h => by cases h with | cons h1 h2 => exact .cons (Dq.same e _ h1) (Dq.sameKv e ds h2)
end
end GL

set_option Elab.async false
set_option linter.all false
set_option maxRecDepth 100000
set_option maxHeartbeats 2000000
namespace GL
open PySem PySem.Spec PyProof.Rows L2
/-! values as data: what never changes once it is made -/
inductive Da where
  | non | bl (b : Bool) | int (i : Int) | str (x : Str) | ty (n : String) | obj (a : Addr)
  | lst (xs : List Da) | tup (xs : List Da) | dct (ks : List Key) (ds : List Da)
  | ins (C : Addr) (ns : List Str) (ds : List Da) | exc (C : Addr) (ns : List Str) (ds : List Da)
mutual
inductive DR (K : PySem.W.Frag) (H : Hp) : V → Da → Prop
  | non : DR K H .non .non
  | bl (b : Bool) : DR K H (.bl b) (.bl b)
  | int (i : Int) : DR K H (.int i) (.int i)
  | str (x : Str) : DR K H (.str x) (.str x)
  | ty (n : String) : DR K H (.ty n) (.ty n)
  | obj (a : Addr) : DR K H (.ref a) (.obj a)
  | lst {a : Addr} {xs : List V} {ds : List Da} : H a = some (.lst xs) → DRs K H xs ds → DR K H (.ref a) (.lst ds)
  | tup {a : Addr} {xs : List V} {ds : List Da} : H a = some (.tup xs) → DRs K H xs ds → DR K H (.ref a) (.tup ds)
  | dct {a : Addr} {ks : List Key} {vs : List V} {ds : List Da} : H a = some (.dK (ks.zip vs)) → ks.length = vs.length → DRs K H vs ds → DR K H (.ref a) (.dct ks ds)
  | ins {a C dx : Addr} {ns : List Str} {vs : List V} {ds : List Da} : H a = some (.ins C dx (ns.zip vs)) → ns.length = vs.length → DRs K H vs ds → DR K H (.ref a) (.ins C ns ds)
  | exc {a C dx : Addr} {ns : List Str} {vs : List V} {ds : List Da} : H a = some (exo a C (some dx)) → H dx = some (exd dx (ns.zip vs)) → ns.length = vs.length → DRs K H vs ds → DR K H (.ref a) (.exc C ns ds)
  | exc0 {a C : Addr} : H a = some (exo a C none) → DR K H (.ref a) (.exc C [] [])
inductive DRs (K : PySem.W.Frag) (H : Hp) : List V → List Da → Prop
  | nil : DRs K H [] []
  | cons {v : V} {vs : List V} {d : Da} {ds : List Da} : DR K H v d → DRs K H vs ds → DRs K H (v :: vs) (d :: ds)
end
section
variable {K : PySem.W.Frag} {H H' : Hp}
mutual
theorem DR.same (e : Same H H') : ∀ (d : Da) {v : V}, DR K H v d → DR K H' v d
  | .non, _, h => by cases h; exact .non
  | .bl b, _, h => by cases h; exact .bl b
  | .int i, _, h => by cases h; exact .int i
  | .str x, _, h => by cases h; exact .str x
  | .ty n, _, h => by cases h; exact .ty n
  | .obj a, _, h => by cases h; exact .obj a
  | .lst ds, _, h => by cases h with | lst h1 h2 => exact .lst (e _ _ h1) (DRs.same e ds h2)
  | .tup ds, _, h => by cases h with | tup h1 h2 => exact .tup (e _ _ h1) (DRs.same e ds h2)
  | .dct ks ds, _, h => by cases h with | dct h1 h2 h3 => exact .dct (e _ _ h1) h2 (DRs.same e ds h3)
  | .ins C ns ds, _, h => by cases h with | ins h1 h2 h3 => exact .ins (e _ _ h1) h2 (DRs.same e ds h3)
  | .exc C ns ds, _, h => by
    cases h with
    | exc h1 h2 h3 h4 => exact .exc (e _ _ h1) (e _ _ h2) h3 (DRs.same e ds h4)
    | exc0 h1 => exact .exc0 (e _ _ h1)
theorem DRs.same (e : Same H H') : ∀ (ds : List Da) {vs : List V}, DRs K H vs ds → DRs K H' vs ds
  | [], _, h => by cases h; exact .nil
  | d :: ds, _, h => by cases h with | cons h1 h2 => exact .cons (DR.same e d h1) (DRs.same e ds h2)
end
theorem DR.up {v : V} {d : Da} (h : DR K H v d) (e : Same H H') : DR K H' v d := DR.same e d h
theorem DRs.up {vs : List V} {ds : List Da} (h : DRs K H vs ds) (e : Same H H') : DRs K H' vs ds := DRs.same e ds h
theorem DRs.len : ∀ {vs : List V} {ds : List Da}, DRs K H vs ds → vs.length = ds.length
  | _, [], h => by cases h; rfl
  | _, d :: ds, h => by cases h with | cons h1 h2 => simp [DRs.len h2]
theorem DRs.get : ∀ {vs : List V} {ds : List Da} {i : Nat} {v : V}, DRs K H vs ds → vs[i]? = some v → ∃ d, ds[i]? = some d ∧ DR K H v d
  | _, [], i, v, h, e => by cases h; simp at e
  | _, d :: ds, 0, v, h, e => by cases h with | cons h1 h2 => simp at e; subst e; exact ⟨d, rfl, h1⟩
  | _, d :: ds, i + 1, v, h, e => by
    cases h with
    | cons h1 h2 => exact DRs.get (i := i) h2 (by simpa using e)
theorem DRs.getD : ∀ {vs : List V} {ds : List Da} {i : Nat} {d : Da}, DRs K H vs ds → ds[i]? = some d → ∃ v, vs[i]? = some v ∧ DR K H v d
  | _, [], i, v, h, e => by simp at e
  | _, d :: ds, 0, v, h, e => by cases h with | cons h1 h2 => simp at e; subst e; exact ⟨_, rfl, h1⟩
  | _, d :: ds, i + 1, v, h, e => by
    cases h with
    | cons h1 h2 => exact DRs.getD (i := i) h2 (by simpa using e)
theorem DRs.app : ∀ {vs ws : List V} {ds es : List Da}, DRs K H vs ds → DRs K H ws es → DRs K H (vs ++ ws) (ds ++ es)
  | _, _, [], _, h, k => by cases h; exact k
  | _, _, d :: ds, _, h, k => by cases h with | cons h1 h2 => exact .cons h1 (DRs.app h2 k)
end
/-! the same without objects -/
mutual
def Da.toP : Da → Option PyData
  | .non => some .none
  | .bl b => some (.bool b)
  | .int i => some (.int i)
  | .str x => some (.str x)
  | .lst xs => (Da.toPs xs).map .list
  | .tup xs => (Da.toPs xs).map .tuple
  | .dct ks ds => (Da.toPs ds).map fun ps => .dict ((ks.map kD).zip ps)
  | .ty _ | .obj _ | .ins _ _ _ | .exc _ _ _ => none
def Da.toPs : List Da → Option (List PyData)
  | [] => some []
  | d :: ds => (Da.toP d).bind fun p => (Da.toPs ds).map (p :: ·)
end
section
variable {K : PySem.W.Frag} {H : Hp}
theorem kv_of : ∀ (ks : List Key) {vs : List V} {ps : List PyData}, ks.length = vs.length → DqAll K H vs ps → DqKv K H (ks.zip vs) ((ks.map kD).zip ps)
  | [], _, _, e, h => by cases h <;> simp_all <;> exact .nil
  | k :: ks, vs, ps, e, h => by
    cases h with
    | nil => simp at e
    | cons h1 h2 => exact .cons h1 (kv_of ks (by simpa using e) h2)
mutual
theorem DR.dq : ∀ (d : Da) {v : V} {p : PyData}, DR K H v d → d.toP = some p → Dq K H v p
  | .non, _, _, h, e => by cases h; simp only [Da.toP] at e; cases e; exact .non
  | .bl b, _, _, h, e => by cases h; simp only [Da.toP] at e; cases e; exact .bl b
  | .int i, _, _, h, e => by cases h; simp only [Da.toP] at e; cases e; exact .int i
  | .str x, _, _, h, e => by cases h; simp only [Da.toP] at e; cases e; exact .str x
  | .ty n, _, _, h, e => by simp only [Da.toP] at e; cases e
  | .obj a, _, _, h, e => by simp only [Da.toP] at e; cases e
  | .ins C ns ds, _, _, h, e => by simp only [Da.toP] at e; cases e
  | .exc C ns ds, _, _, h, e => by simp only [Da.toP] at e; cases e
  | .lst ds, _, _, h, e => by
    simp only [Da.toP] at e
    obtain ⟨ps, e1, rfl⟩ := Option.map_eq_some_iff.mp e
    cases h with | lst h1 h2 => exact .lst (SqL.of h1) (DRs.dq ds h2 e1)
  | .tup ds, _, _, h, e => by
    simp only [Da.toP] at e
    obtain ⟨ps, e1, rfl⟩ := Option.map_eq_some_iff.mp e
    cases h with | tup h1 h2 => exact .tup (SqT.of h1) (DRs.dq ds h2 e1)
  | .dct ks ds, _, _, h, e => by
    simp only [Da.toP] at e
    obtain ⟨ps, e1, rfl⟩ := Option.map_eq_some_iff.mp e
    cases h with | dct h1 h2 h3 => exact .dct (.inl h1) (kv_of ks h2 (DRs.dq ds h3 e1))
theorem DRs.dq : ∀ (ds : List Da) {vs : List V} {ps : List PyData}, DRs K H vs ds → Da.toPs ds = some ps → DqAll K H vs ps
  | [], _, _, h, e => by cases h; simp only [Da.toPs] at e; cases e; exact .nil
  | d :: ds, _, _, h, e => by
    simp only [Da.toPs] at e
    obtain ⟨p, e1, e2⟩ := Option.bind_eq_some_iff.mp e
    obtain ⟨ps, e3, rfl⟩ := Option.map_eq_some_iff.mp e2
    cases h with | cons h1 h2 => exact .cons (DR.dq d h1 e1) (DRs.dq ds h2 e3)
end
-- data without dicts
mutual
theorem dp_of : ∀ (p : PyData) {v : V}, Dq K H v p → p.hasDict = false → Dp K H v p
  | .none, _, h, _ => by cases h; exact .non
  | .bool b, _, h, _ => by cases h; exact .bl b
  | .int i, _, h, _ => by cases h; exact .int i
  | .str x, _, h, _ => by cases h; exact .str x
  | .list ds, _, h, e => by cases h with | lst h1 h2 => exact .lst h1 (dps_of ds h2 (by simpa [PyData.hasDict] using e))
  | .tuple ds, _, h, e => by cases h with | tup h1 h2 => exact .tup h1 (dps_of ds h2 (by simpa [PyData.hasDict] using e))
  | .dict ds, _, h, e => by simp [PyData.hasDict] at e
theorem dps_of : ∀ (ps : List PyData) {vs : List V}, DqAll K H vs ps → PyData.hasDictAll ps = false → DpAll K H vs ps
  | [], _, h, _ => by cases h; exact .nil
  | d :: ds, _, h, e => by
    simp only [PyData.hasDictAll, Bool.or_eq_false_iff] at e
    cases h with | cons h1 h2 => exact .cons (dp_of d h1 e.1) (dps_of ds h2 e.2)
end
end
end GL

set_option Elab.async false
set_option linter.all false
set_option maxRecDepth 100000
set_option maxHeartbeats 2000000
namespace GL
open PySem PySem.Spec PyProof.Rows L2
/-! A heap in two parts: G holds the data that is spoken of, H (all of it) may hold more, which may change behind the data's back.
Nw G H G' H': from (G, H) to (G', H'); all stays, new data may have come, and it leans on nothing that H held beyond G -/
structure Nw (G H G' H' : Hp) : Prop where
  s : Same H H'
  a : Same G G'
  b : Same G' H'
  n : ∀ p o, H p = some o → G p = none → G' p = none
theorem Nw.refl {G H : Hp} (h : Same G H) : Nw G H G H := ⟨Same.refl H, Same.refl G, h, fun _ _ _ z => z⟩
theorem Nw.trans {G H G' H' G2 H2 : Hp} (x : Nw G H G' H') (y : Nw G' H' G2 H2) : Nw G H G2 H2 := ⟨x.s.trans y.s, x.a.trans y.a, y.b, fun p o e z => y.n p o (x.s p o e) (x.n p o e z)⟩
theorem same_upd {H H' : Hp} {p : Addr} {o : HO} (e : Same H H') (h : H p = none) : Same H (upd H' p o) := fun a u z => by
  rw [upd_ne (ne_of_none z h)]
  exact e a u z
theorem Nw.new {G H : Hp} {p : Addr} {o : HO} (h : Same G H) (hp : H p = none) : Nw G H (upd G p o) (upd H p o) := by
  have hg : G p = none := h.free hp
  refine ⟨same_upd (Same.refl H) hp, same_upd (Same.refl G) hg, fun b u e => ?_, fun b u e z => ?_⟩
  · by_cases q : b = p
    · subst q; rw [upd_same] at e ⊢; exact e
    · rw [upd_ne q] at e ⊢; exact h b u e
  · rw [upd_ne (ne_of_none e hp)]; exact z
/-! what an expression gives, as data -/
def Evd (K : PySem.W.Frag) (te : TE) (σ : L2.St) (G : Hp) (d : Da) : Prop := ∀ H, Same G H → ∀ Q : VK, (∀ v G' H', Nw G H G' H' → DR K G' v d → Q v H') → te σ H Q
def Evs (K : PySem.W.Frag) (ta : TA) (σ : L2.St) (G : Hp) (ds : List Da) : Prop := ∀ H, Same G H → ∀ Q : List V → Hp → Prop, (∀ vs G' H', Nw G H G' H' → DRs K G' vs ds → Q vs H') → ta σ H Q
def Evt (tt : TT) (σ : L2.St) (G : Hp) (b : Bool) : Prop := ∀ H, Same G H → ∀ Q : Bool → Hp → Prop, (∀ G' H', Nw G H G' H' → Q b H') → tt σ H Q
section
variable {K : PySem.W.Frag} {σ : L2.St} {G H : Hp} {te ta tb : TE} {tA tB' : TA} {t u : TT} {d d1 d2 : Da} {ds es : List Da} {b : Bool}
theorem ed_var {i : Nat} {v : V} (h : σ[i]? = some (some v)) (r : DR K G v d) : Evd K (tVar i) σ G d := fun H e Q q => ⟨v, h, q v G H (Nw.refl e) r⟩
theorem ed_c {v : V} (r : ∀ H', DR K H' v d) : Evd K (tC v) σ G d := fun H e Q q => q v G H (Nw.refl e) (r G)
theorem es_nil : Evs K tNil σ G [] := fun H e Q q => q [] G H (Nw.refl e) .nil
theorem es_cons (h : Evd K te σ G d) (hr : ∀ G', Same G G' → Evs K tA σ G' ds) : Evs K (tCons te tA) σ G (d :: ds) := fun H e Q q =>
  h H e _ fun v G1 H1 n1 dv => hr G1 n1.a H1 n1.b _ fun vs G2 H2 n2 dvs => q (v :: vs) G2 H2 (n1.trans n2) (.cons (dv.up n2.a) dvs)
theorem sizeK {n : Nat} (h : n ≤ 1000) : n ≤ sizeLine := Nat.le_trans h (by decide)
theorem ed_tup (h : Evs K tA σ G ds) (hl : ds.length ≤ 1000 := by decide) : Evd K (tTup tA) σ G (.tup ds) := fun H e Q q => h H e _ fun vs G1 H1 n1 dvs =>
  ⟨by rw [dvs.len]; exact sizeK hl, fun p hp => let n2 := Nw.new (o := .tup vs) n1.b hp; q (.ref p) _ _ (n1.trans n2) (.tup upd_same (dvs.up n2.a))⟩
theorem ed_lst (h : Evs K tA σ G ds) (hl : ds.length ≤ 1000 := by decide) : Evd K (tLst tA) σ G (.lst ds) := fun H e Q q => h H e _ fun vs G1 H1 n1 dvs =>
  ⟨by rw [dvs.len]; exact sizeK hl, fun p hp => let n2 := Nw.new (o := .lst vs) n1.b hp; q (.ref p) _ _ (n1.trans n2) (.lst upd_same (dvs.up n2.a))⟩
/-- two operands, one behind the other -/
theorem ed_two {r : R2} (ha : Evd K ta σ G d1) (hb : ∀ G', Same G G' → Evd K tb σ G' d2)
    (hr : ∀ x y G' H', Same G G' → Same G' H' → DR K G' x d1 → DR K G' y d2 → ∀ Q : VK, (∀ v G2 H2, Nw G' H' G2 H2 → DR K G2 v d → Q v H2) → r x y H' Q) : Evd K (tOp r ta tb) σ G d := fun H e Q q =>
  ha H e _ fun v G1 H1 n1 dv => hb G1 n1.a H1 n1.b _ fun w G2 H2 n2 dw => hr v w G2 H2 (n1.a.trans n2.a) n2.b (dv.up n2.a) dw Q fun z G3 H3 n3 dz => q z G3 H3 ((n1.trans n2).trans n3) dz
/-- list + list -/
theorem ed_cat (ha : Evd K ta σ G (.lst ds)) (hb : ∀ G', Same G G' → Evd K tb σ G' (.lst es)) (hl : ds.length + es.length ≤ 1000 := by decide) : Evd K (tOp rCat ta tb) σ G (.lst (ds ++ es)) :=
  ed_two ha hb fun x y G' H' _ e dx dy Q q => by
    cases dx with
    | @lst _ xs _ h1 h2 =>
      cases dy with
      | @lst _ zs _ k1 k2 =>
        refine ⟨_, _, _, _, rfl, rfl, e _ _ h1, e _ _ k1, by rw [h2.len, k2.len]; exact sizeK hl, fun p hp => ?_⟩
        have n := Nw.new (o := .lst (xs ++ zs)) e hp
        exact q (.ref p) _ _ n (.lst upd_same (DRs.app (h2.up n.a) (k2.up n.a)))
/-- a def whose value is a function of its arguments' data -/
def Pd (K : PySem.W.Frag) (n : Nat) (g : List Da → Option Da) : Sp := fun vs H Q _ => ∃ G ds d, Same G H ∧ ds.length = n ∧ DRs K G vs ds ∧ g ds = some d ∧ ∀ v G' H', Nw G H G' H' → DR K G' v d → Q v H'
theorem Pd.len {n : Nat} {g : List Da → Option Da} (vs : List V) (H : Hp) (Q : VK) (E : XK) (h : Pd K n g vs H Q E) : vs.length = n := by
  obtain ⟨_, ds, d, _, hl, r, _⟩ := h
  rw [r.len, hl]
theorem ed_call {n : Nat} {g : List Da → Option Da} {E : XK} (h : Evs K tA σ G ds) (hl : ds.length = n) (hg : g ds = some d) : Evd K (tCall (Pd K n g) [] E tA) σ G d := fun H e Q q =>
  h H e _ fun vs G1 H1 n1 dvs => ⟨G1, ds, d, n1.b, hl, by rw [List.append_nil]; exact dvs, hg, fun v G2 H2 n2 dv => q v G2 H2 (n1.trans n2) dv⟩
/-- e.f of an error -/
theorem ed_ofl {C : Addr} {ns : List Str} {f : Str} (h : Evd K te σ G (.exc C ns ds)) (T : OGet K C) (no : PySem.W.findIn K (.ref C) f = some none) (hl : ∀ vs : List V, ns.length = vs.length → ∃ i : Nat, ds[i]? = some d ∧ List.lookup f (ns.zip vs) = vs[i]?) :
    Evd K (tOfl K f te) σ G d := fun H e Q q => h H e _ fun v G1 H1 n1 dv => by
  cases dv with
  | @exc a _ dx _ vs _ h1 h2 h3 h4 =>
    obtain ⟨i, e1, e3⟩ := hl vs h3
    obtain ⟨w, e4, e5⟩ := h4.getD e1
    exact ⟨a, C, dx, _, w, rfl, T, no, n1.b _ _ h1, n1.b _ _ h2, e3.trans e4, q w G1 H1 n1 e5⟩
  | exc0 h1 =>
    obtain ⟨i, e1, _⟩ := hl [] rfl
    simp at e1
/-- isinstance(e, c) of an error -/
theorem ed_isO {C : Addr} {ns : List Str} {c : Da} {cv : Value} (h : Evd K te σ G (.exc C ns ds)) (hc : ∀ G', Same G G' → Evd K ta σ G' c) (T : OGet K C) (kc : ∀ H' v, DR K H' v c → ClsV v cv) (hk : PySem.W.kitOne K (.ref C) cv = some b) :
    Evd K (tCB (rIsO K) (tCons te (tCons ta tNil))) σ G (.bl b) := fun H e Q q => h H e _ fun v G1 H1 n1 dv => hc G1 n1.a H1 n1.b _ fun w G2 H2 n2 dw => by
  have dv := dv.up n2.a
  have go : ∀ a dd, v = .ref a → H2 a = some (exo a C dd) → (∀ dx, dd = some dx → ∃ fs, H2 dx = some (exd dx fs)) → rIsO K [v, w] H2 Q := fun a dd ev h1 h2 => by
    subst ev
    exact ⟨a, C, dd, w, cv, b, rfl, kc G2 w dw, T, h1, h2, hk, q _ G2 H2 (n1.trans n2) (.bl b)⟩
  cases dv with
  | exc h1 h2 h3 h4 => exact go _ _ rfl (n2.b _ _ h1) fun dx z => by cases z; exact ⟨_, n2.b _ _ h2⟩
  | exc0 h1 => exact go _ _ rfl (n2.b _ _ h1) fun dx z => by cases z
theorem cls_obj {D : Addr} : ∀ (H' : Hp) v, DR K H' v (.obj D) → ClsV v (.ref D) := fun _ _ h => by cases h; exact .own D
theorem cls_ty {n : String} : ∀ (H' : Hp) v, DR K H' v (.ty n) → ClsV v (.type n) := fun _ _ h => by cases h; exact .ty n
/-- repr(e) -/
theorem ed_repr {p : PyData} (h : Evd K te σ G d) (hp : d.toP = some p) (hs : p.showable = true) (hl : p.shown.length ≤ sizeLine) (hd : p.depth ≤ 60) : Evd K (tCB (rRepr K) (tCons te tNil)) σ G (.str p.shown) := fun H e Q q =>
  h H e _ fun v G1 H1 n1 dv => ⟨v, p, rfl, DR.dq d (dv.up n1.b) hp, hs, hl, hd, q _ G1 H1 n1 (.str _)⟩
/-- a if t else b -/
theorem ed_if (h : Evt t σ G b) (h1 : b = true → ∀ G', Same G G' → Evd K ta σ G' d) (h2 : b = false → ∀ G', Same G G' → Evd K tb σ G' d) : Evd K (tIf t ta tb) σ G d := fun H e Q q => h H e _ fun G1 H1 n1 => by
  cases b with
  | true => exact h1 rfl G1 n1.a H1 n1.b Q fun v G2 H2 n2 dv => q v G2 H2 (n1.trans n2) dv
  | false => exact h2 rfl G1 n1.a H1 n1.b Q fun v G2 H2 n2 dv => q v G2 H2 (n1.trans n2) dv
/-- == and != of data without dicts -/
theorem ed_eq {p q : PyData} (ha : Evd K ta σ G d1) (hb : ∀ G', Same G G' → Evd K tb σ G' d2) (h1 : d1.toP = some p) (h2 : d2.toP = some q) (n1 : p.hasDict = false) (n2 : q.hasDict = false) (s1 : SeqAt.shaped p = true) (s2 : SeqAt.shaped q = true) (hz : PyData.eqv p q = b) :
    Evd K (tOp (rEqD K) ta tb) σ G (.bl b) := ed_two ha hb fun x y G' H' _ e dx dy Q k =>
  ⟨p, q, dp_of p (DR.dq d1 (dx.up e) h1) n1, dp_of q (DR.dq d2 (dy.up e) h2) n2, s1, s2, by rw [hz]; exact k _ G' H' (Nw.refl e) (.bl b)⟩
theorem ed_ne {p q : PyData} (ha : Evd K ta σ G d1) (hb : ∀ G', Same G G' → Evd K tb σ G' d2) (h1 : d1.toP = some p) (h2 : d2.toP = some q) (n1 : p.hasDict = false) (n2 : q.hasDict = false) (s1 : SeqAt.shaped p = true) (s2 : SeqAt.shaped q = true) (hz : (!PyData.eqv p q) = b) :
    Evd K (tOp (rNeD K) ta tb) σ G (.bl b) := ed_two ha hb fun x y G' H' _ e dx dy Q k =>
  ⟨p, q, dp_of p (DR.dq d1 (dx.up e) h1) n1, dp_of q (DR.dq d2 (dy.up e) h2) n2, s1, s2, by rw [hz]; exact k _ G' H' (Nw.refl e) (.bl b)⟩
/-- texts -/
theorem ed_eqs {x y : Str} (ha : Evd K ta σ G (.str x)) (hb : ∀ G', Same G G' → Evd K tb σ G' (.str y)) (hz : decide (x = y) = b) : Evd K (tOp rEq ta tb) σ G (.bl b) := ed_two ha hb fun v w G' H' _ e dv dw Q k => by
  cases dv; cases dw
  have z : decide (V.str x = V.str y) = b := by rw [← hz]; simp
  exact ⟨rfl, by rw [z]; exact k _ G' H' (Nw.refl e) (.bl b)⟩
theorem ed_nes {x y : Str} (ha : Evd K ta σ G (.str x)) (hb : ∀ G', Same G G' → Evd K tb σ G' (.str y)) (hz : (!decide (x = y)) = b) : Evd K (tOp rNe ta tb) σ G (.bl b) := ed_two ha hb fun v w G' H' _ e dv dw Q k => by
  cases dv; cases dw
  have z : (!decide (V.str x = V.str y)) = b := by rw [← hz]; simp
  exact ⟨rfl, by rw [z]; exact k _ G' H' (Nw.refl e) (.bl b)⟩
/-! tests -/
theorem et_of (h : Evd K te σ G (.bl b)) : Evt (tTest te) σ G b := fun H e Q q => h H e _ fun v G1 H1 n1 dv => by
  cases dv
  exact ⟨b, rfl, q G1 H1 n1⟩
theorem et_B (h : Evd K te σ G (.bl b)) : Evt (L2.tB te) σ G b := fun H e Q q => h H e _ fun v G1 H1 n1 dv => by
  cases dv
  exact ⟨b, rfl, q G1 H1 n1⟩
theorem et_not (h : Evt t σ G b) : Evt (tNot t) σ G (!b) := fun H e Q q => h H e _ fun G1 H1 n1 => q G1 H1 n1
theorem et_or {c : Bool} (h : Evt t σ G b) (h2 : b = false → ∀ G', Same G G' → Evt u σ G' c) : Evt (tOr t u) σ G (b || c) := fun H e Q q => h H e _ fun G1 H1 n1 => by
  cases b with
  | true => exact q G1 H1 n1
  | false => exact h2 rfl G1 n1.a H1 n1.b Q fun G2 H2 n2 => q G2 H2 (n1.trans n2)
theorem et_and {c : Bool} (h : Evt t σ G b) (h2 : b = true → ∀ G', Same G G' → Evt u σ G' c) : Evt (tAnd t u) σ G (b && c) := fun H e Q q => h H e _ fun G1 H1 n1 => by
  cases b with
  | false => exact q G1 H1 n1
  | true => exact h2 rfl G1 n1.a H1 n1.b Q fun G2 H2 n2 => q G2 H2 (n1.trans n2)
theorem et_is {c : Bool} (h : Evt t σ G b) (e : b = c) : Evt t σ G c := e ▸ h
theorem ed_is (h : Evd K te σ G d) (e : d = d1) : Evd K te σ G d1 := e ▸ h
/-! truth values by and -/
theorem ed_andV {c : Bool} (h : Evd K ta σ G (.bl b)) (h2 : b = true → ∀ G', Same G G' → Evd K tb σ G' (.bl c)) : Evd K (tAndV ta tb) σ G (.bl (b && c)) := fun H e Q q => h H e _ fun v G1 H1 n1 dv => by
  cases dv
  refine ⟨b, rfl, ?_⟩
  cases b with
  | false => exact q _ G1 H1 n1 (.bl false)
  | true => exact h2 rfl G1 n1.a H1 n1.b Q fun w G2 H2 n2 dw => q w G2 H2 (n1.trans n2) dw
/-! statements -/
variable {D : Ends} {ts tz : TS}
theorem sd_asg {i : Nat} (s : Same G H) (h : Evd K te σ G d) (k : ∀ v G1 H1, Nw G H G1 H1 → DR K G1 v d → D.nx (σ.set i (some v)) H1) : tAsg te (gName i) D σ H := h H s _ fun v G1 H1 e dv => k v G1 H1 e dv
theorem qd_asg {i : Nat} (s : Same G H) (h : Evd K te σ G d) (k : ∀ v G1 H1, Nw G H G1 H1 → DR K G1 v d → tz D (σ.set i (some v)) H1) : tSeq (tAsg te (gName i)) tz D σ H := h H s _ fun v G1 H1 e dv => k v G1 H1 e dv
theorem sd_ret (s : Same G H) (h : Evd K te σ G d) (k : ∀ v G1 H1, Nw G H G1 H1 → DR K G1 v d → D.rt v H1) : tRet te D σ H := h H s _ k
theorem qd_if {tu tw : TS} (s : Same G H) (h : Evt t σ G b) (h1 : b = true → ∀ G1 H1, Nw G H G1 H1 → tu { D with nx := tz D } σ H1) (h2 : b = false → ∀ G1 H1, Nw G H G1 H1 → tw { D with nx := tz D } σ H1) : tSeq (tIfS t tu tw) tz D σ H := h H s _ fun G1 H1 e => by
  cases b with
  | true => exact h1 rfl G1 H1 e
  | false => exact h2 rfl G1 H1 e
theorem sd_if {tu tw : TS} (s : Same G H) (h : Evt t σ G b) (h1 : b = true → ∀ G1 H1, Nw G H G1 H1 → tu D σ H1) (h2 : b = false → ∀ G1 H1, Nw G H G1 H1 → tw D σ H1) : tIfS t tu tw D σ H := h H s _ fun G1 H1 e => by
  cases b with
  | true => exact h1 rfl G1 H1 e
  | false => exact h2 rfl G1 H1 e
end
/-! a new error -/
/-- the promise of an own error's __init__: it keeps its arguments' data in the fields ns (the newest first), by g -/
def Pi (K : PySem.W.Frag) (C : Addr) (n : Nat) (ns : List Str) (g : List Da → Option (List Da)) : Sp := fun vs H Q _ => ∃ G a ws ds es, vs = .ref a :: ws ∧ ds.length = n ∧ Same G H ∧ G a = none ∧ H a = some (exo a C none) ∧ DRs K G ws ds ∧ g ds = some es ∧
  ∀ G' H', (∀ b o, b ≠ a → H b = some o → H' b = some o) → Same G G' → Same G' H' → (∀ b o, b ≠ a → H b = some o → G b = none → G' b = none) → DR K G' (.ref a) (.exc C ns es) → Q .non H'
section
variable {K : PySem.W.Frag} {σ : L2.St} {G : Hp} {tA tk : TA} {C : Addr} {n : Nat} {ns : List Str} {g : List Da → Option (List Da)} {ds zs es : List Da} {E : XK}
theorem Pi.len (vs : List V) (H : Hp) (Q : VK) (E : XK) (h : Pi K C n ns g vs H Q E) : vs.length = n + 1 := by
  obtain ⟨_, a, ws, ds, es, rfl, hl, _, _, _, r, _⟩ := h
  rw [List.length_cons, r.len, hl]
theorem ed_oex {m k : Nat} {gV : List V → List V → List V} (h : Evs K tA σ G ds) (hk : ∀ G', Same G G' → Evs K tk σ G' zs) (hm : ds.length = m) (hz : zs.length = k) (order : List Da) (ho : order.length = n)
    (hg : ∀ (a : Addr) (H' : Hp) (vs ws : List V), DRs K H' vs ds → DRs K H' ws zs → ∃ us, gV (.ref a :: vs) ws = .ref a :: us ∧ DRs K H' us order) (hq : g order = some es) :
    Evd K (tOex C m k (Pi K C n ns g) gV E tA tk) σ G (.exc C ns es) := fun H e Q q => h H e _ fun vs G1 H1 n1 dvs => hk G1 n1.a H1 n1.b _ fun ws G2 H2 n2 dws =>
  ⟨by rw [dvs.len]; exact hm, by rw [dws.len]; exact hz, fun a ha => by
    obtain ⟨us, e4, r⟩ := hg a G2 vs ws (dvs.up n2.a) dws
    rw [e4]
    have hga : G2 a = none := n2.b.free ha
    refine ⟨G2, a, us, order, es, rfl, ho, same_upd n2.b hga, hga, upd_same, r, hq, fun G' H' k1 k2 k3 k4 dd => ⟨rfl, q _ G' H' ((n1.trans n2).trans ⟨fun b o z => k1 b o (ne_of_none z ha) ?_, k2, k3, fun b o z w => k4 b o (ne_of_none z ha) ?_ w⟩) dd⟩⟩
    all_goals (rw [upd_ne (ne_of_none z ha)]; exact z)⟩
theorem ed_exc0 : Evd K (fun _ H Q => ∀ a, H a = none → Q (.ref a) (upd H a (exo a C none))) σ G (.exc C [] []) := fun H e Q q a ha => q _ _ _ (Nw.new e ha) (.exc0 upd_same)
end
end GL

set_option Elab.async false
set_option linter.all false
set_option maxRecDepth 100000
set_option maxHeartbeats 2000000
namespace GL
open PySem PySem.Spec PyProof.Rows L2
section
variable {K : PySem.W.Frag} {σ : L2.St} {G : Hp} {te ta tl : TE} {tt : TT} {d : Da} {ds : List Da} {g : TG} {vs : List Nat}
/-- a comprehension over a list of data -/
theorem ed_lc (p : Da → Bool) (f : Da → Da) (h : Evd K tl σ G (.lst ds)) (hz : ds.length ≤ 1000)
    (hs : ∀ x d G' H', Same G G' → Same G' H' → d ∈ ds → DR K G' x d → ∃ σ2, (∀ k : L2.St → Hp → Prop, k σ2 H' → g x (wipe σ vs) H' k) ∧ wipe σ2 vs = wipe σ vs ∧ Evt tt σ2 G' (p d) ∧ (p d = true → ∀ G2, Same G' G2 → Evd K te σ2 G2 (f d))) :
    Evd K (tLc (iList K tl) g tt te vs) σ G (.lst ((ds.filter p).map f)) := fun H e Q q => h H e _ fun v G1 H1 n1 dv => by
  cases dv with
  | @lst a xs _ h1 h2 =>
    refine ⟨a, rfl, ⟨xs, SqL.of (n1.b _ _ h1)⟩, fun D hD => ?_⟩
    have gD : G1 D = none := n1.b.free hD
    have lx := h2.len
    refine lc_list (K := K) (a := a) (xs := xs) (fun i H' => ∃ G' acc, Same H1 H' ∧ Same G1 G' ∧ Same G' H' ∧ G' D = none ∧ (∀ b o, H1 b = some o → G1 b = none → G' b = none) ∧ H' D = some (.lst acc) ∧ DRs K G' acc (((ds.take i).filter p).map f))
      ⟨G1, [], same_upd (Same.refl _) hD, Same.refl _, same_upd n1.b gD, gD, fun _ _ _ z => z, upd_same, by simpa using DRs.nil⟩ (fun i H' _ ⟨G', acc, s1, s2, s3, _⟩ => SqL.of (s3 _ _ (s2 _ _ h1))) ?_ ?_
    · rintro i x H' hi ⟨G', acc, s1, s2, s3, gd, nn, hd, dr⟩
      obtain ⟨d, hdi, dx⟩ := h2.get hi
      have hmem : d ∈ ds := List.mem_of_getElem? hdi
      have lacc : acc.length ≤ 1000 := by
        rw [dr.len, List.length_map]
        exact Nat.le_trans (Nat.le_trans (List.length_filter_le _ _) (by rw [List.length_take]; omega)) hz
      have step : (ds.take (i + 1)).filter p = (ds.take i).filter p ++ (if p d = true then [d] else []) := by
        rw [List.take_succ, hdi, List.filter_append]
        by_cases hp : p d = true
        · simp [hp]
        · simp [hp]
      obtain ⟨σ2, k1, k2, k3, k4⟩ := hs x d G' H' (n1.a.trans s2) s3 hmem (dx.up s2)
      refine k1 _ ⟨k2, k3 H' s3 _ fun G2 H2 n2 => ?_⟩
      have gd2 : G2 D = none := n2.n _ _ hd gd
      cases hp : p d with
      | true =>
        show te σ2 H2 _
        refine k4 hp G2 n2.a H2 n2.b _ fun y G3 H3 n3 dy => ⟨acc, n3.s _ _ (n2.s _ _ hd), small1000 lacc, G3, acc ++ [y], same_upd ((s1.trans n2.s).trans n3.s) hD, (s2.trans n2.a).trans n3.a, same_upd n3.b (n3.n _ _ (n2.s _ _ hd) gd2), n3.n _ _ (n2.s _ _ hd) gd2, fun b o z w => ?_, upd_same, ?_⟩
        · exact n3.n _ _ (n2.s _ _ (s1 _ _ z)) (n2.n _ _ (s1 _ _ z) (nn _ _ z w))
        · rw [step, if_pos hp, List.map_append]
          exact DRs.app ((dr.up n2.a).up n3.a) (.cons dy .nil)
      | false =>
        show ∃ G' acc, _
        refine ⟨G2, acc, s1.trans n2.s, s2.trans n2.a, n2.b, gd2, fun b o z w => n2.n _ _ (s1 _ _ z) (nn _ _ z w), n2.s _ _ hd, ?_⟩
        rw [step, if_neg (by rw [hp]; exact Bool.false_ne_true), List.append_nil]
        exact dr.up n2.a
    · rintro H' ⟨G', acc, s1, s2, s3, gd, nn, hd, dr⟩
      rw [lx, List.take_length] at dr
      have up1 : Same G' (upd G' D (.lst acc)) := same_upd (Same.refl _) gd
      refine q (.ref D) (upd G' D (.lst acc)) H' (n1.trans ⟨s1, s2.trans up1, fun b o z => ?_, fun b o z w => ?_⟩) (.lst upd_same (dr.up up1))
      · by_cases hb : b = D
        · subst hb; rw [upd_same] at z; cases z; exact hd
        · rw [upd_ne hb] at z; exact s3 _ _ z
      · rw [upd_ne (ne_of_none z hD)]
        exact nn _ _ z w
/-- the same over a tuple -/
theorem ed_lcT (p : Da → Bool) (f : Da → Da) (h : Evd K tl σ G (.tup ds)) (hz : ds.length ≤ 1000)
    (hs : ∀ x d G' H', Same G G' → Same G' H' → d ∈ ds → DR K G' x d → ∃ σ2, (∀ k : L2.St → Hp → Prop, k σ2 H' → g x (wipe σ vs) H' k) ∧ wipe σ2 vs = wipe σ vs ∧ Evt tt σ2 G' (p d) ∧ (p d = true → ∀ G2, Same G' G2 → Evd K te σ2 G2 (f d))) :
    Evd K (tLc (iTup K tl) g tt te vs) σ G (.lst ((ds.filter p).map f)) := fun H e Q q => h H e _ fun v G1 H1 n1 dv => by
  cases dv with
  | @tup a xs _ h1 h2 =>
    refine ⟨a, rfl, ⟨xs, SqT.of (n1.b _ _ h1)⟩, fun D hD => ?_⟩
    have gD : G1 D = none := n1.b.free hD
    have lx := h2.len
    refine lc_tup (K := K) (a := a) (xs := xs) (fun i H' => ∃ G' acc, Same H1 H' ∧ Same G1 G' ∧ Same G' H' ∧ G' D = none ∧ (∀ b o, H1 b = some o → G1 b = none → G' b = none) ∧ H' D = some (.lst acc) ∧ DRs K G' acc (((ds.take i).filter p).map f))
      ⟨G1, [], same_upd (Same.refl _) hD, Same.refl _, same_upd n1.b gD, gD, fun _ _ _ z => z, upd_same, by simpa using DRs.nil⟩ (fun i H' _ ⟨G', acc, s1, s2, s3, _⟩ => SqT.of (s3 _ _ (s2 _ _ h1))) ?_ ?_
    · rintro i x H' hi ⟨G', acc, s1, s2, s3, gd, nn, hd, dr⟩
      obtain ⟨d, hdi, dx⟩ := h2.get hi
      have hmem : d ∈ ds := List.mem_of_getElem? hdi
      have lacc : acc.length ≤ 1000 := by
        rw [dr.len, List.length_map]
        exact Nat.le_trans (Nat.le_trans (List.length_filter_le _ _) (by rw [List.length_take]; omega)) hz
      have step : (ds.take (i + 1)).filter p = (ds.take i).filter p ++ (if p d = true then [d] else []) := by
        rw [List.take_succ, hdi, List.filter_append]
        by_cases hp : p d = true
        · simp [hp]
        · simp [hp]
      obtain ⟨σ2, k1, k2, k3, k4⟩ := hs x d G' H' (n1.a.trans s2) s3 hmem (dx.up s2)
      refine k1 _ ⟨k2, k3 H' s3 _ fun G2 H2 n2 => ?_⟩
      have gd2 : G2 D = none := n2.n _ _ hd gd
      cases hp : p d with
      | true =>
        show te σ2 H2 _
        refine k4 hp G2 n2.a H2 n2.b _ fun y G3 H3 n3 dy => ⟨acc, n3.s _ _ (n2.s _ _ hd), small1000 lacc, G3, acc ++ [y], same_upd ((s1.trans n2.s).trans n3.s) hD, (s2.trans n2.a).trans n3.a, same_upd n3.b (n3.n _ _ (n2.s _ _ hd) gd2), n3.n _ _ (n2.s _ _ hd) gd2, fun b o z w => ?_, upd_same, ?_⟩
        · exact n3.n _ _ (n2.s _ _ (s1 _ _ z)) (n2.n _ _ (s1 _ _ z) (nn _ _ z w))
        · rw [step, if_pos hp, List.map_append]
          exact DRs.app ((dr.up n2.a).up n3.a) (.cons dy .nil)
      | false =>
        show ∃ G' acc, _
        refine ⟨G2, acc, s1.trans n2.s, s2.trans n2.a, n2.b, gd2, fun b o z w => n2.n _ _ (s1 _ _ z) (nn _ _ z w), n2.s _ _ hd, ?_⟩
        rw [step, if_neg (by rw [hp]; exact Bool.false_ne_true), List.append_nil]
        exact dr.up n2.a
    · rintro H' ⟨G', acc, s1, s2, s3, gd, nn, hd, dr⟩
      rw [lx, List.take_length] at dr
      have up1 : Same G' (upd G' D (.lst acc)) := same_upd (Same.refl _) gd
      refine q (.ref D) (upd G' D (.lst acc)) H' (n1.trans ⟨s1, s2.trans up1, fun b o z => ?_, fun b o z w => ?_⟩) (.lst upd_same (dr.up up1))
      · by_cases hb : b = D
        · subst hb; rw [upd_same] at z; cases z; exact hd
        · rw [upd_ne hb] at z; exact s3 _ _ z
      · rw [upd_ne (ne_of_none z hD)]
        exact nn _ _ z w
/-- what the target a name does -/
theorem go_name {j : Nat} {x : V} {H' : Hp} : ∀ k : L2.St → Hp → Prop, k ((wipe σ vs).set j (some x)) H' → gName j x (wipe σ vs) H' k := fun k h => h
theorem go_tup2 {i j : Nat} {a : Addr} {x y : V} {τ : L2.St} {H' : Hp} (h : H' a = some (.tup [x, y])) : ∀ k : L2.St → Hp → Prop, k ((τ.set i (some x)).set j (some y)) H' → gTup K 2 (gCons (gName i) (gCons (gName j) gNil)) (.ref a) τ H' k :=
  fun k q => ⟨a, [x, y], rfl, SqT.of h, rfl, x, [y], rfl, y, [], rfl, rfl, q⟩
theorem go_tup3 {i j l : Nat} {a : Addr} {x y z : V} {τ : L2.St} {H' : Hp} (h : H' a = some (.tup [x, y, z])) : ∀ k : L2.St → Hp → Prop, k (((τ.set i (some x)).set j (some y)).set l (some z)) H' → gTup K 3 (gCons (gName i) (gCons (gName j) (gCons (gName l) gNil))) (.ref a) τ H' k :=
  fun k q => ⟨a, [x, y, z], rfl, SqT.of h, rfl, x, [y, z], rfl, y, [z], rfl, z, [], rfl, rfl, q⟩
theorem yes_go {H : Hp} {Q : Bool → Hp → Prop} (h : Q true H) : tYes σ H Q := h
/-- no test -/
theorem et_yes : Evt tYes σ G true := fun H e Q q => q G H (Nw.refl e)
/-- an item of a list of data -/
theorem ed_ixL {i : Nat} {ti : TE} (h : Evd K ta σ G (.lst ds)) (hi : ∀ G', Same G G' → Evd K ti σ G' (.int (i : Int))) (hd : ds[i]? = some d) : Evd K (tOp (rIxL K) ta ti) σ G d := ed_two h hi fun x y G' H' _ e dx dy Q q => by
  cases dx with
  | lst h1 h2 =>
    cases dy
    obtain ⟨v, e1, e2⟩ := h2.getD hd
    exact ⟨_, _, _, v, rfl, rfl, SqL.of (e _ _ h1), atI_nat e1, q v G' H' (Nw.refl e) e2⟩
/-- isinstance of data against a built-in class -/
def tyD : Da → Option String
  | .non => some "NoneType" | .bl _ => some "bool" | .int _ => some "int" | .str _ => some "str"
  | .lst _ => some "list" | .tup _ => some "tuple" | .dct _ _ => some "dict"
  | _ => none
theorem ty_of {H : Hp} {v : V} {t : String} (e : DR K H v d) (h : tyD d = some t) : TyX K H v (.type t) := by
  cases e with
  | non => cases h; exact .base .non
  | bl b => cases h; exact .base (.bl b)
  | int i => cases h; exact .base (.int i)
  | str x => cases h; exact .base (.str x)
  | lst h1 h2 => cases h; exact .base (.lst h1)
  | tup h1 h2 => cases h; exact .base (.tup h1)
  | dct h1 h2 h3 => cases h; exact .base (.dK h1)
  | ty | obj | ins | exc | exc0 => cases h
theorem ed_isi {t T : String} {b : Bool} (h : Evd K ta σ G d) (ht : tyD d = some t) (hk : kitB t T = some b) : Evd K (tCB (rIsi K) (tCons ta (tCons (tC (.ty T)) tNil))) σ G (.bl b) := fun H e Q q => h H e _ fun v G1 H1 n1 dv =>
  ⟨v, .ty T, .type t, .type T, b, rfl, .ty T, ty_of (dv.up n1.b) ht, kit_ty hk, q _ G1 H1 n1 (.bl b)⟩
/-- tuple(list) -/
def rTup (K : PySem.W.Frag) : List V → Hp → VK → Prop := fun xs H Q => ∃ p ys, xs = [.ref p] ∧ ((SqL K H p ys ∧ ∀ l, H l = none → Q (.ref l) (upd H l (.tup ys))) ∨ (SqT K H p ys ∧ Q (.ref p) H))
theorem ed_tupL (h : Evd K ta σ G (.lst ds)) : Evd K (tCB (rTup K) (tCons ta tNil)) σ G (.tup ds) := fun H e Q q => h H e _ fun v G1 H1 n1 dv => by
  cases dv with
  | @lst a xs _ h1 h2 => exact ⟨a, xs, rfl, .inl ⟨SqL.of (n1.b _ _ h1), fun l hl => let n2 := Nw.new (o := .tup xs) n1.b hl; q (.ref l) _ _ (n1.trans n2) (.tup upd_same (h2.up n2.a))⟩⟩
/-- data that leans on no object -/
def flatD : Da → Bool
  | .non | .bl _ | .int _ | .str _ => true
  | _ => false
theorem flat_any {H H' : Hp} {v : V} {d : Da} (h : DR K H v d) (f : flatD d = true) : DR K H' v d := by
  cases h with
  | non => exact .non
  | bl b => exact .bl b
  | int i => exact .int i
  | str x => exact .str x
  | _ => cases f
theorem valV_zip {ks : List Key} {vs : List V} {i : Nat} {k : Key} {v : V} (nd : ks.Nodup) (h1 : ks[i]? = some k) (h2 : vs[i]? = some v) : valV (ks.zip vs) k = some v := by
  induction ks generalizing vs i with
  | nil => simp at h1
  | cons k0 ks ih =>
    cases vs with
    | nil => simp at h2
    | cons v0 vs =>
      rw [List.nodup_cons] at nd
      cases i with
      | zero =>
        simp at h1 h2
        subst h1 h2
        simp [valV]
      | succ i =>
        simp at h1 h2
        have ne : k0 ≠ k := fun z => nd.1 (by rw [z]; exact List.mem_of_getElem? h1)
        have := ih nd.2 h1 h2
        simpa [valV, ne] using this
/-- {key: f(value[key]) for key in value}, f a def that gives what it takes back, the values flat -/
theorem ed_dcopy {i j : Nat} {v : V} {ks : List Key} {g : List Da → Option Da} {E : XK} (hv : σ[i]? = some (some v)) (dv : DR K G v (.dct ks ds)) (nd : ks.Nodup) (hfl : ∀ d ∈ ds, flatD d = true ∧ g [d] = some d) (hz : ks.length ≤ 1000)
    (hw : ∀ x, wipe ((wipe σ [j]).set j (some x)) [j] = wipe σ [j]) (hi : ∀ x, ((wipe σ [j]).set j (some x))[i]? = some (some v)) (hj : ∀ x, ((wipe σ [j]).set j (some x))[j]? = some (some x)) :
    Evd K (tLockE (tDc (iKeys (tVar i)) (gName j) tYes (tVar j) (tCall (Pd K 1 g) [] E (tCons (tDGet (tVar i) (tVar j)) tNil)) [j])) σ G (.dct ks ds) := fun H e Q q => by
  cases dv with
  | @dct a _ vs _ h1 h2 h3 =>
    have ha := e _ _ h1
    have l3 := h3.len
    refine ⟨a, .dK (ks.zip vs), ha, trivial, fun od => ⟨_, hv, a, od, rfl, .inl ⟨ks.zip vs, upd_same, fun D hD => ?_⟩⟩⟩
    have Da : D ≠ a := fun z => by rw [z, upd_same] at hD; cases hD
    have hD' : H D = none := by rw [upd_ne Da] at hD; exact hD
    have klen : (ks.zip vs).length = ks.length := by rw [List.length_zip]; omega
    let Gl : Hp := fun b => if b = a then none else G b
    have gla : Gl a = none := if_pos rfl
    have glo : ∀ {b}, b ≠ a → Gl b = G b := fun hb => if_neg hb
    have sl : Same Gl (upd H a (.frz od (.dK (ks.zip vs)))) := fun b o z => by
      by_cases hb : b = a
      · rw [hb, gla] at z; cases z
      · rw [glo hb] at z; rw [upd_ne hb]; exact e _ _ z
    refine ⟨fun n m H' => m = ks.length - n ∧ n ≤ ks.length ∧ ∃ G' acc, Same (upd H a (.frz od (.dK (ks.zip vs)))) H' ∧ Same Gl G' ∧ Same G' H' ∧ G' D = none ∧ (∀ b o, upd H a (.frz od (.dK (ks.zip vs))) b = some o → Gl b = none → G' b = none) ∧
      H' D = some (.dK ((ks.take n).zip acc)) ∧ DRs K G' acc (ds.take n), ⟨ks.length, rfl, Nat.zero_le _, Gl, [], same_upd (Same.refl _) hD, Same.refl _, same_upd sl (sl.free hD), sl.free hD, fun _ _ _ z => z, by simpa using upd_same, by simpa using DRs.nil⟩, ?_⟩
    rintro n m H' ⟨rfl, hn, G', acc, s1, s2, s3, gd, nn, hd, dr⟩
    have fa := s1 _ _ (upd_same (H := H) (a := a) (o := .frz od (.dK (ks.zip vs))))
    by_cases hlt : n < ks.length
    · refine .inr ⟨⟨fa, by rw [klen]; exact hlt⟩, fun H2 => ∃ G' acc, Same (upd H a (.frz od (.dK (ks.zip vs)))) H2 ∧ Same Gl G' ∧ Same G' H2 ∧ G' D = none ∧ (∀ b o, upd H a (.frz od (.dK (ks.zip vs))) b = some o → Gl b = none → G' b = none) ∧
        H2 D = some (.dK ((ks.take (n + 1)).zip acc)) ∧ DRs K G' acc (ds.take (n + 1)), fun H2 p => ⟨ks.length - (n + 1), by omega, rfl, hlt, p⟩, ?_⟩
      rintro x H2 ⟨rfl, k, w, hk, rfl⟩
      obtain ⟨hk1, hk2⟩ : ks[n]? = some k ∧ vs[n]? = some w := by
        rw [List.getElem?_zip_eq_some] at hk
        exact hk
      obtain ⟨d, hdn, dw⟩ := h3.get hk2
      obtain ⟨fd, gd1⟩ := hfl d (List.mem_of_getElem? hdn)
      refine ⟨hw _, ?_⟩
      refine yes_go (iteT ?_)
      refine ⟨_, hj _, _, hi _, _, hj _, a, w, rfl, .inl ⟨ks.zip vs, k, .inr ⟨od, fa⟩, rfl, (valV_zip nd hk1 hk2).symm⟩, G', [d], d, s3, rfl, .cons (flat_any dw fd) .nil, gd1, fun y G2 H3 n2 dy => ?_⟩
      have la : acc.length = n := by rw [dr.len, List.length_take]; omega
      have lz : ((ks.take n).zip acc).length = n := by rw [List.length_zip, List.length_take, la]; omega
      refine ⟨(ks.take n).zip acc, k, rfl, n2.s _ _ hd, small1000 (by rw [lz]; omega), G2, acc ++ [y], same_upd (s1.trans n2.s) hD, s2.trans n2.a, same_upd n2.b (n2.n _ _ hd gd), n2.n _ _ hd gd, fun b o z w => n2.n _ _ (s1 _ _ z) (nn _ _ z w), ?_, ?_⟩
      · rw [upd_same]
        have no : ((ks.take n).zip acc).any (fun kv => decide (kv.1 = k)) = false := by
          rw [List.any_eq_false]
          rintro ⟨k', z⟩ hm
          have hk' := (List.of_mem_zip hm).1
          have ne : k' ≠ k := by
            rintro rfl
            obtain ⟨m, hm1, hm2⟩ := List.getElem_of_mem hk'
            rw [List.length_take] at hm1
            rw [List.getElem_take] at hm2
            have e1 : ks[m]? = some k' := by rw [List.getElem?_eq_getElem (by omega), hm2]
            have : m = n := (List.getElem?_inj (by omega) nd).mp (e1.trans hk1.symm)
            omega
          simpa using ne
        unfold putK
        rw [no, if_neg Bool.false_ne_true, List.take_succ, hk1]
        show _ = some (HO.dK ((List.take n ks ++ [k]).zip (acc ++ [y])))
        rw [List.zip_append (by rw [List.length_take, la]; omega)]
        rfl
      · rw [List.take_succ, hdn]
        exact DRs.app (dr.up n2.a) (.cons dy .nil)
    · have en : n = ks.length := by omega
      subst en
      refine .inl ⟨⟨fa, by rw [klen]; exact Nat.le_refl _⟩, fa, ?_⟩
      rw [List.take_length] at hd
      have dr : DRs K G' acc ds := by
        have : ds.take ks.length = ds := List.take_of_length_le (by omega)
        rw [this] at dr; exact dr
      have ga' : G' a = none := nn _ _ upd_same gla
      let G2 : Hp := upd (upd G' D (.dK (ks.zip acc))) a (.dK (ks.zip vs))
      have up1 : Same G' G2 := same_upd (same_upd (Same.refl _) gd) ga'
      refine q (.ref D) G2 _ ⟨fun b o z => ?_, fun b o z => ?_, fun b o z => ?_, fun b o z w => ?_⟩ (.dct (by show upd _ _ _ _ = _; rw [upd_ne Da, upd_same]) (by rw [dr.len]; omega) (dr.up up1))
      · by_cases hb : b = a
        · subst hb; rw [ha] at z; cases z; exact upd_same
        · rw [upd_ne hb]; exact s1 _ _ (by rw [upd_ne hb]; exact z)
      · by_cases hb : b = a
        · subst hb; rw [h1] at z; cases z; exact upd_same
        · exact up1 _ _ (s2 _ _ (by rw [glo hb]; exact z))
      · by_cases hb : b = a
        · subst hb
          rw [upd_same]
          have z' : upd _ b _ b = some o := z
          rw [upd_same] at z'
          exact z'
        · rw [upd_ne hb]
          have z' : upd (upd G' D _) a _ b = some o := z
          rw [upd_ne hb] at z'
          by_cases hb2 : b = D
          · subst hb2; rw [upd_same] at z'; cases z'; exact hd
          · rw [upd_ne hb2] at z'; exact s3 _ _ z'
      · have hb : b ≠ a := fun z2 => by rw [z2, h1] at w; cases w
        have hb2 : b ≠ D := ne_of_none z hD'
        show upd (upd G' D _) a _ b = none
        rw [upd_ne hb, upd_ne hb2]
        exact nn b o (by rw [upd_ne hb]; exact z) (by rw [glo hb]; exact w)
end
end GL

set_option Elab.async false
set_option linter.all false
set_option maxRecDepth 100000
set_option maxHeartbeats 2000000
namespace GL
open PySem PySem.Spec PyProof.Rows L2
open Classical in
/-- both heaps' objects -/
noncomputable def both (G' G1 : Hp) : Hp := fun b => if (G' b).isSome = true then G' b else G1 b
theorem both_l {G' G1 : Hp} {b : Addr} {o : HO} (h : G' b = some o) : both G' G1 b = some o := by
  unfold both
  rw [if_pos (by rw [h]; rfl)]
  exact h
theorem both_r {G' G1 : Hp} {b : Addr} (h : G' b = none) : both G' G1 b = G1 b := by
  unfold both
  rw [if_neg (by rw [h]; simp)]
theorem Nw.wide {G G' H G1 H1 : Hp} (n : Nw G H G1 H1) (s : Same G G') (sh : Same G' H) : Nw G' H (both G' G1) H1 ∧ Same G1 (both G' G1) := by
  have in1 : Same G' H1 := sh.trans n.s
  refine ⟨⟨n.s, fun b o e => both_l e, fun b o e => ?_, fun b o e z => ?_⟩, fun b o e => ?_⟩
  · cases q : G' b with
    | some u => rw [both_l q] at e; cases e; exact in1 _ _ q
    | none => rw [both_r q] at e; exact n.b _ _ e
  · rw [both_r z]; exact n.n b o e (s.free z)
  · cases q : G' b with
    | some u =>
      have z := in1 _ _ q
      rw [n.b _ _ e] at z
      rw [both_l q, z]
    | none => rw [both_r q]; exact e
section
variable {K : PySem.W.Frag} {σ : L2.St} {G G' : Hp} {te ta tb : TE} {tA : TA} {t u : TT} {d d1 d2 : Da} {ds es : List Da} {b : Bool}
theorem Evd.up (h : Evd K te σ G d) (s : Same G G') : Evd K te σ G' d := fun H e Q q => h H (s.trans e) Q fun v G1 H1 n dv => let w := n.wide s e; q v _ H1 w.1 (dv.up w.2)
theorem Evs.up (h : Evs K tA σ G ds) (s : Same G G') : Evs K tA σ G' ds := fun H e Q q => h H (s.trans e) Q fun v G1 H1 n dv => let w := n.wide s e; q v _ H1 w.1 (dv.up w.2)
theorem Evt.up (h : Evt t σ G b) (s : Same G G') : Evt t σ G' b := fun H e Q q => h H (s.trans e) Q fun G1 H1 n => q _ H1 (n.wide s e).1
theorem xs_cons (h : Evd K te σ G d) (hr : Evs K tA σ G ds) : Evs K (tCons te tA) σ G (d :: ds) := es_cons h fun _ s => hr.up s
theorem x_cat (ha : Evd K ta σ G (.lst ds)) (hb : Evd K tb σ G (.lst es)) (hl : ds.length + es.length ≤ 1000 := by decide) : Evd K (tOp rCat ta tb) σ G (.lst (ds ++ es)) := ed_cat ha (fun _ s => hb.up s) hl
theorem x_isO {C D : Addr} {ns : List Str} (h : Evd K te σ G (.exc C ns ds)) (T : OGet K C) (hk : PySem.W.kitOne K (.ref C) (.ref D) = some b) : Evd K (tCB (rIsO K) (tCons te (tCons (tC (.ref D)) tNil))) σ G (.bl b) :=
  ed_isO h (fun _ _ => ed_c fun _ => .obj D) T cls_obj hk
theorem x_isT {C : Addr} {ns : List Str} {n : String} (h : Evd K te σ G (.exc C ns ds)) (T : OGet K C) (hk : PySem.W.kitOne K (.ref C) (.type n) = some b) : Evd K (tCB (rIsO K) (tCons te (tCons (tC (.ty n)) tNil))) σ G (.bl b) :=
  ed_isO h (fun _ _ => ed_c fun _ => .ty n) T cls_ty hk
theorem x_eq {p q : PyData} (ha : Evd K ta σ G d1) (hb : Evd K tb σ G d2) (h1 : d1.toP = some p) (h2 : d2.toP = some q) (n1 : p.hasDict = false) (n2 : q.hasDict = false) (s1 : SeqAt.shaped p = true) (s2 : SeqAt.shaped q = true) (hz : PyData.eqv p q = b) : Evd K (tOp (rEqD K) ta tb) σ G (.bl b) :=
  ed_eq ha (fun _ s => hb.up s) h1 h2 n1 n2 s1 s2 hz
theorem x_ne {p q : PyData} (ha : Evd K ta σ G d1) (hb : Evd K tb σ G d2) (h1 : d1.toP = some p) (h2 : d2.toP = some q) (n1 : p.hasDict = false) (n2 : q.hasDict = false) (s1 : SeqAt.shaped p = true) (s2 : SeqAt.shaped q = true) (hz : (!PyData.eqv p q) = b) : Evd K (tOp (rNeD K) ta tb) σ G (.bl b) :=
  ed_ne ha (fun _ s => hb.up s) h1 h2 n1 n2 s1 s2 hz
theorem x_nes {x y : Str} (ha : Evd K ta σ G (.str x)) (hb : Evd K tb σ G (.str y)) (hz : (!decide (x = y)) = b) : Evd K (tOp rNe ta tb) σ G (.bl b) := ed_nes ha (fun _ s => hb.up s) hz
theorem x_eqs {x y : Str} (ha : Evd K ta σ G (.str x)) (hb : Evd K tb σ G (.str y)) (hz : decide (x = y) = b) : Evd K (tOp rEq ta tb) σ G (.bl b) := ed_eqs ha (fun _ s => hb.up s) hz
theorem x_if (h : Evt t σ G b) (h1 : b = true → Evd K ta σ G d) (h2 : b = false → Evd K tb σ G d) : Evd K (tIf t ta tb) σ G d := ed_if h (fun e _ s => (h1 e).up s) fun e _ s => (h2 e).up s
theorem x_or {c : Bool} (h : Evt t σ G b) (h2 : Evt u σ G c) : Evt (tOr t u) σ G (b || c) := et_or h fun _ _ s => h2.up s
theorem x_and {c : Bool} (h : Evt t σ G b) (h2 : Evt u σ G c) : Evt (tAnd t u) σ G (b && c) := et_and h fun _ _ s => h2.up s
theorem x_andV {c : Bool} (h : Evd K ta σ G (.bl b)) (h2 : Evd K tb σ G (.bl c)) : Evd K (tAndV ta tb) σ G (.bl (b && c)) := ed_andV h fun _ _ s => h2.up s
theorem x_oex {C : Addr} {n m k : Nat} {ns : List Str} {g : List Da → Option (List Da)} {tk : TA} {zs : List Da} {E : XK} {gV : List V → List V → List V} (h : Evs K tA σ G ds) (hk : Evs K tk σ G zs) (hm : ds.length = m) (hz : zs.length = k) (order : List Da) (ho : order.length = n)
    (hg : ∀ (a : Addr) (H' : Hp) (vs ws : List V), DRs K H' vs ds → DRs K H' ws zs → ∃ us, gV (.ref a :: vs) ws = .ref a :: us ∧ DRs K H' us order) (hq : g order = some es) :
    Evd K (tOex C m k (Pi K C n ns g) gV E tA tk) σ G (.exc C ns es) := ed_oex h (fun _ s => hk.up s) hm hz order ho hg hq
/-- the fields of an error with one, with two -/
theorem x_f1 {C : Addr} {f : Str} (h : Evd K te σ G (.exc C [f] [d])) (T : OGet K C) (no : PySem.W.findIn K (.ref C) f = some none) : Evd K (tOfl K f te) σ G d := ed_ofl h T no fun vs e => by
  match vs, e with
  | [v], _ => exact ⟨0, rfl, by simp [List.lookup]⟩
theorem x_f2a {C : Addr} {f g : Str} (h : Evd K te σ G (.exc C [f, g] [d, d1])) (T : OGet K C) (no : PySem.W.findIn K (.ref C) f = some none) : Evd K (tOfl K f te) σ G d := ed_ofl h T no fun vs e => by
  match vs, e with
  | [v, w], _ => exact ⟨0, rfl, by simp [List.lookup]⟩
theorem x_f2b {C : Addr} {f g : Str} (h : Evd K te σ G (.exc C [f, g] [d1, d])) (T : OGet K C) (no : PySem.W.findIn K (.ref C) g = some none) (ne : (g == f) = false) : Evd K (tOfl K g te) σ G d := ed_ofl h T no fun vs e => by
  match vs, e with
  | [v, w], _ => exact ⟨1, rfl, by simp [List.lookup, ne]⟩
/-! several names at once -/
variable {D : Ends} {tz : TS} {H : Hp}
theorem qd_par2 {i j : Nat} (s : Same G H) (h : Evs K tA σ G [d1, d2]) (k : ∀ v w G1 H1, Nw G H G1 H1 → DR K G1 v d1 → DR K G1 w d2 → tz D ((σ.set i (some v)).set j (some w)) H1) : tSeq (tPar i j tA) tz D σ H := h H s _ fun vs G1 H1 n r => by
  cases r with
  | cons r1 r => cases r with
    | cons r2 r => cases r; exact ⟨_, _, rfl, k _ _ G1 H1 n r1 r2⟩
theorem qd_par3 {i j l : Nat} {d3 : Da} (s : Same G H) (h : Evs K tA σ G [d1, d2, d3]) (k : ∀ v w x G1 H1, Nw G H G1 H1 → DR K G1 v d1 → DR K G1 w d2 → DR K G1 x d3 → tz D (((σ.set i (some v)).set j (some w)).set l (some x)) H1) : tSeq (tPar3 i j l tA) tz D σ H := h H s _ fun vs G1 H1 n r => by
  cases r with
  | cons r1 r => cases r with
    | cons r2 r => cases r with
      | cons r3 r => cases r; exact ⟨_, _, _, rfl, k _ _ _ G1 H1 n r1 r2 r3⟩
/-- what a body of data gives back -/
theorem ret_d {Q : VK} (k : ∀ v G' H', Nw G H G' H' → DR K G' v d → Q v H') {G1 H1 : Hp} (n : Nw G H G1 H1) (h : Evd K te σ G1 d) {D : Ends} (hD : D.rt = Q) : tRet te D σ H1 := by
  refine sd_ret n.b h fun v G2 H2 n2 dv => ?_
  rw [hD]
  exact k v G2 H2 (n.trans n2) dv
end
/-! an __init__ of an own error that copies what it is given -/
section
variable {K : PySem.W.Frag} {C : Addr} {f f2 : Str} {gC : List Da → Option Da} {E : XK} {Q : VK} {a : Addr} {w w2 : V} {d d2 : Da} {G H : Hp} {D : Ends}
theorem rd_init1 (s : Same G H) (ga : G a = none) (ha : H a = some (exo a C none)) (dw : DR K G w d) (T : OexC K C) (no : PySem.W.findIn K (.ref C) f = some none) (hg : gC [d] = some d)
    (k : ∀ G' H', (∀ b o, b ≠ a → H b = some o → H' b = some o) → Same G G' → Same G' H' → (∀ b o, b ≠ a → H b = some o → G b = none → G' b = none) → DR K G' (.ref a) (.exc C [f] [d]) → Q .non H') (hD : D.nx = fun _ H' => Q .non H') :
    tOst K f (tVar 0) (tCall (Pd K 1 gC) [] E (tCons (tVar 1) tNil)) D [some (.ref a), some w] H := by
  have ev : Evd K (tCall (Pd K 1 gC) [] E (tCons (tVar 1) tNil)) [some (.ref a), some w] G d := ed_call (xs_cons (ed_var rfl dw) es_nil) rfl hg
  refine ev H s _ fun y G1 H1 n1 dy => ⟨.ref a, rfl, a, C, rfl, T, no, .inl ⟨n1.s _ _ ha, fun dx nd ne => ?_⟩⟩
  rw [hD]
  have gd : G1 dx = none := n1.b.free nd
  have g1 : G1 a = none := n1.n _ _ ha ga
  have up : Same G1 (upd (upd G1 dx (exd dx [(f, y)])) a (exo a C (some dx))) := same_upd (same_upd (Same.refl _) gd) g1
  refine k (upd (upd G1 dx (exd dx [(f, y)])) a (exo a C (some dx))) _ (fun b o hb z => ?_) (n1.a.trans up) (fun b o z => ?_) (fun b o hb z w => ?_) (.exc upd_same (by rw [upd_ne ne, upd_same]; rfl) rfl (.cons (dy.up up) .nil))
  · rw [upd_ne hb, upd_ne (ne_of_none (n1.s _ _ z) nd)]; exact n1.s _ _ z
  · by_cases hb : b = a
    · subst hb; rw [upd_same] at z ⊢; exact z
    · rw [upd_ne hb] at z ⊢
      by_cases hb2 : b = dx
      · subst hb2; rw [upd_same] at z ⊢; exact z
      · rw [upd_ne hb2] at z ⊢; exact n1.b _ _ z
  · rw [upd_ne hb, upd_ne (ne_of_none (n1.s _ _ z) nd)]; exact n1.n _ _ z w
theorem rd_init2 (s : Same G H) (ga : G a = none) (ha : H a = some (exo a C none)) (dw : DR K G w d) (dw2 : DR K G w2 d2) (T : OexC K C) (no : PySem.W.findIn K (.ref C) f = some none) (no2 : PySem.W.findIn K (.ref C) f2 = some none) (hg : gC [d] = some d) (hg2 : gC [d2] = some d2)
    (k : ∀ G' H', (∀ b o, b ≠ a → H b = some o → H' b = some o) → Same G G' → Same G' H' → (∀ b o, b ≠ a → H b = some o → G b = none → G' b = none) → DR K G' (.ref a) (.exc C [f2, f] [d2, d]) → Q .non H') (hD : D.nx = fun _ H' => Q .non H') :
    tSeq (tOst K f (tVar 0) (tCall (Pd K 1 gC) [] E (tCons (tVar 1) tNil))) (tOst K f2 (tVar 0) (tCall (Pd K 1 gC) [] E (tCons (tVar 2) tNil))) D [some (.ref a), some w, some w2] H := by
  have ev : Evd K (tCall (Pd K 1 gC) [] E (tCons (tVar 1) tNil)) [some (.ref a), some w, some w2] G d := ed_call (xs_cons (ed_var rfl dw) es_nil) rfl hg
  refine ev H s _ fun y G1 H1 n1 dy => ⟨.ref a, rfl, a, C, rfl, T, no, .inl ⟨n1.s _ _ ha, fun dx nd ne => ?_⟩⟩
  have gd : G1 dx = none := n1.b.free nd
  have g1 : G1 a = none := n1.n _ _ ha ga
  have s2 : Same G1 (upd (upd H1 dx (exd dx [(f, y)])) a (exo a C (some dx))) := same_upd (same_upd n1.b gd) g1
  have ev2 : Evd K (tCall (Pd K 1 gC) [] E (tCons (tVar 2) tNil)) [some (.ref a), some w, some w2] G1 d2 := ed_call (xs_cons (ed_var rfl (dw2.up n1.a)) es_nil) rfl hg2
  refine ev2 _ s2 _ fun y2 G2 H2 n2 dy2 => ?_
  have ha2 : H2 a = some (exo a C (some dx)) := n2.s _ _ upd_same
  have hd2 : H2 dx = some (exd dx [(f, y)]) := n2.s _ _ (by rw [upd_ne ne, upd_same])
  have g2 : G2 a = none := n2.n _ _ upd_same g1
  have gd2 : G2 dx = none := n2.n dx _ (by rw [upd_ne ne, upd_same]) gd
  refine ⟨.ref a, rfl, a, C, rfl, T, no2, .inr ⟨dx, _, ha2, hd2, (by show 1 ≤ 900; decide), ?_⟩⟩
  rw [hD]
  have up : Same G2 (upd (upd G2 dx (exd dx [(f2, y2), (f, y)])) a (exo a C (some dx))) := same_upd (same_upd (Same.refl _) gd2) g2
  refine k (upd (upd G2 dx (exd dx [(f2, y2), (f, y)])) a (exo a C (some dx))) _ (fun b o hb z => ?_) ((n1.a.trans n2.a).trans up) (fun b o z => ?_) (fun b o hb z w => ?_)
    (.exc upd_same (by rw [upd_ne ne, upd_same]; rfl) rfl (.cons (dy2.up up) (.cons ((dy.up n2.a).up up) .nil)))
  · have q1 : b ≠ dx := ne_of_none (n1.s _ _ z) nd
    rw [upd_ne q1]; exact n2.s _ _ (by rw [upd_ne hb, upd_ne q1]; exact n1.s _ _ z)
  · by_cases hb : b = a
    · subst hb; rw [upd_same] at z; cases z; rw [upd_ne ne.symm]; exact ha2
    · rw [upd_ne hb] at z
      by_cases hb2 : b = dx
      · subst hb2; rw [upd_same] at z ⊢; exact z
      · rw [upd_ne hb2] at z ⊢; exact n2.b _ _ z
  · have q1 : b ≠ dx := ne_of_none (n1.s _ _ z) nd
    rw [upd_ne hb, upd_ne q1]
    exact n2.n b o (by rw [upd_ne hb, upd_ne q1]; exact n1.s _ _ z) (n1.n _ _ z w)
end
end GL

set_option Elab.async false
set_option linter.all false
set_option maxRecDepth 100000
set_option maxHeartbeats 2000000
namespace GL
open PySem PySem.Spec PyProof.Rows L2
/-- a def that may be called by its name -/
structure CalG (P : Program) (w : World) (K : PySem.W.Frag) (mg : Str → Option Value) (base : Heap) (k : Nat) (x : Str) (ps : List Str) (sp : Sp) : Prop where
  ex : ∃ f fd, FnG P w K mg base CX0 k f fd ps sp ∧ mg x = some (.ref f) ∧ PySem.W.keepIn K (.ref f) = true ∧ L2.Binds K fd ps []
section
variable {X : Cx} {k : Nat} {x : Str} {ps : List Str} {sp : Sp} {p pos : Pos} {e : Expr} {es : List Expr} {t : TA}
theorem pe_cal (c : CalG X.prog X.w X.K X.mg X.base k x ps sp) (hq : Quiet X.A) (hr : Room k X.A) (hg : Gl X x) (ha : PA X (e :: es) t) (hdb : (x == ("__debug__" : Str)) = false := by decide)
    (he : starEach (e :: es) X.env = (false, eval e X.env) :: starEach es X.env := by rfl) (hpl : (backTo pos (starEach es X.env)).any (·.1) = false := by rfl) : PE X (.Call (.Name x p) (e :: es) [] pos) (tCall sp [] E0 t) := by
  obtain ⟨f, fd, F, hm, hk, hb⟩ := c.ex
  exact pe_cg F hq hr hg hm hk hb .nil pass0 ha hdb he hpl
end
/-! rules that name the written part, so that a block's own context may stand in them -/
section
variable {X : Cx} {K : PySem.W.Frag} {x f : Str} {C : Addr} {p pos : Pos} {e a b : Expr} {es : List Expr} {te ta tb : TE} {t : TA}
theorem pe_own (hm : X.mg x = some (.ref C)) (hg : Gl X x) (hd : (x == ("__debug__" : Str)) = false := by decide) : PE X (.Name x pos) (tC (.ref C)) := pe_glob hg hm rfl hd
theorem pe_oflK (hK : X.K = K) (he : PE X e te) (hb : attributeBase e f X.env (eval e X.env) = eval e X.env := by rfl) : PE X (.Attribute e f pos) (tOfl K f te) := by subst hK; exact pe_ofl he hb
theorem pe_repr (hK : X.K = K) (hs : SysAt X.base) (hq : Quiet X.A) (hu : X.A.units + 64 < cLine) (hm : X.mg "repr" = none) (hg : Gl X "repr") (ha : PE X e te) (hst : starEach [e] X.env = (false, eval e X.env) :: starEach [] X.env := by rfl) (hpl : (backTo pos (starEach [] X.env)).any (·.1) = false := by rfl) :
    PE X (.Call (.Name "repr" p) [e] [] pos) (tCB (rRepr K) (tCons te tNil)) := by
  subst hK
  exact pe_callB (call_repr hs hq hu) hg hm (by decide +kernel) (pa_cons ha pa_nil hst) (by decide) (by decide) hst hpl
theorem pe_isO (hK : X.K = K) (hm : X.mg "isinstance" = none) (hg : Gl X "isinstance") (ha : PA X (e :: es) t) (he : starEach (e :: es) X.env = (false, eval e X.env) :: starEach es X.env := by rfl) (hpl : (backTo pos (starEach es X.env)).any (·.1) = false := by rfl) :
    PE X (.Call (.Name "isinstance" p) (e :: es) [] pos) (tCB (rIsO K) t) := by
  subst hK
  exact pe_callB call_isO hg hm PyProof.Rows.boot_isinstance ha (by decide) (by decide) he hpl
theorem pe_eqD (hK : X.K = K) (hu : X.A.units + 64 < cLine) (ha : PE X a ta) (hb : PE X b tb) : PE X (.Compare a [.Eq] [b] pos) (tOp (rEqD K) ta tb) := by subst hK; exact pe_cmpR (op_eqD hu) ha hb (nomark _)
theorem pe_neD (hK : X.K = K) (hu : X.A.units + 64 < cLine) (ha : PE X a ta) (hb : PE X b tb) : PE X (.Compare a [.NotEq] [b] pos) (tOp (rNeD K) ta tb) := by subst hK; exact pe_cmpR (op_neD hu) ha hb (nomark _)
theorem pt_eqD (hK : X.K = K) (hu : X.A.units + 64 < cLine) (ha : PE X a ta) (hb : PE X b tb) : PT X (.Compare a [.Eq] [b] pos) (tTest (tOp (rEqD K) ta tb)) := by subst hK; exact pt_cmpR (op_eqD hu) ha hb (nomark _)
theorem pt_neD (hK : X.K = K) (hu : X.A.units + 64 < cLine) (ha : PE X a ta) (hb : PE X b tb) : PT X (.Compare a [.NotEq] [b] pos) (tTest (tOp (rNeD K) ta tb)) := by subst hK; exact pt_cmpR (op_neD hu) ha hb (nomark _)
end
/-- a def whose value has to do with its arguments' data -/
def Pr (K : PySem.W.Frag) (n : Nat) (R : List Da → Da → Prop) : Sp := fun vs H Q _ => ∃ G ds d, Same G H ∧ ds.length = n ∧ DRs K G vs ds ∧ R ds d ∧ ∀ v G' H', Nw G H G' H' → DR K G' v d → Q v H'
theorem Pr.len {K : PySem.W.Frag} {n : Nat} {R : List Da → Da → Prop} (vs : List V) (H : Hp) (Q : VK) (E : XK) (h : Pr K n R vs H Q E) : vs.length = n := by
  obtain ⟨_, ds, d, _, hl, r, _⟩ := h
  rw [r.len, hl]
section
variable {K : PySem.W.Frag} {σ : L2.St} {G : Hp} {te ta tb : TE} {tA : TA} {t u : TT} {d d1 d2 : Da} {ds es : List Da} {b : Bool} {E : XK}
theorem x_callR {n : Nat} {R : List Da → Da → Prop} (h : Evs K tA σ G ds) (hl : ds.length = n) (hR : R ds d) : Evd K (tCall (Pr K n R) [] E tA) σ G d := fun H e Q q =>
  h H e _ fun vs G1 H1 n1 dvs => ⟨G1, ds, d, n1.b, hl, by rw [List.append_nil]; exact dvs, hR, fun v G2 H2 n2 dv => q v G2 H2 (n1.trans n2) dv⟩
theorem xc_str {x : Str} : Evd K (tC (.str x)) σ G (.str x) := ed_c fun _ => .str x
theorem xc_int {i : Int} : Evd K (tC (.int i)) σ G (.int i) := ed_c fun _ => .int i
theorem xc_bl {b : Bool} : Evd K (tC (.bl b)) σ G (.bl b) := ed_c fun _ => .bl b
theorem xc_non : Evd K (tC .non) σ G .non := ed_c fun _ => .non
theorem x_tup (h : Evs K tA σ G ds) (hl : Nat.ble ds.length 1000 = true := by rfl) : Evd K (tTup tA) σ G (.tup ds) := ed_tup h (Nat.le_of_ble_eq_true hl)
theorem x_lst (h : Evs K tA σ G ds) (hl : Nat.ble ds.length 1000 = true := by rfl) : Evd K (tLst tA) σ G (.lst ds) := ed_lst h (Nat.le_of_ble_eq_true hl)
theorem x_catb (ha : Evd K ta σ G (.lst ds)) (hb : Evd K tb σ G (.lst es)) (hl : Nat.ble (ds.length + es.length) 1000 = true := by rfl) : Evd K (tOp rCat ta tb) σ G (.lst (ds ++ es)) := x_cat ha hb (Nat.le_of_ble_eq_true hl)
end
theorem two_of {K : PySem.W.Frag} {H : Hp} {vs : List V} {a b : Da} (h : DRs K H vs [a, b]) : ∃ v w, vs = [v, w] ∧ DR K H v a ∧ DR K H w b := by
  cases h with | cons h1 h => cases h with | cons h2 h => cases h; exact ⟨_, _, rfl, h1, h2⟩
theorem three_of {K : PySem.W.Frag} {H : Hp} {vs : List V} {a b c : Da} (h : DRs K H vs [a, b, c]) : ∃ v u x, vs = [v, u, x] ∧ DR K H v a ∧ DR K H u b ∧ DR K H x c := by
  cases h with | cons h1 h => cases h with | cons h2 h => cases h with | cons h3 h => cases h; exact ⟨_, _, _, rfl, h1, h2, h3⟩
theorem one_of {K : PySem.W.Frag} {H : Hp} {vs : List V} {a : Da} (h : DRs K H vs [a]) : ∃ v, vs = [v] ∧ DR K H v a := by
  cases h with | cons h1 h => cases h; exact ⟨_, rfl, h1⟩
theorem none_of {K : PySem.W.Frag} {H : Hp} {vs : List V} (h : DRs K H vs []) : vs = [] := by
  cases h; rfl
end GL

set_option Elab.async false
set_option linter.all false
set_option maxRecDepth 100000
set_option maxHeartbeats 2000000
namespace GL
open PySem PySem.Spec PyProof.Rows L2
/-! an own error that is raised: its __init__ copies its arguments into the fields ns (the newest first) -/
def Pk (K : PySem.W.Frag) (C : Addr) (n : Nat) (ns : List Str) (g : List Da → Option (List Da)) : Sp := fun vs H Q _ => ∃ G a ws ds es, vs = .ref a :: ws ∧ ds.length = n ∧ Same G H ∧ G a = none ∧ H a = some (exo a C none) ∧ DRs K G ws ds ∧ g ds = some es ∧
  ∀ G' H' dx us, (∀ b o, b ≠ a → H b = some o → H' b = some o) → Same G G' → Same G' H' → (∀ b o, H b = some o → G b = none → G' b = none) → H' a = some (exo a C (some dx)) → H' dx = some (exd dx (ns.zip us)) → H dx = none → dx ≠ a → G' dx = none → ns.length = us.length → DRs K G' us es → Q .non H'
theorem Pk.len {K : PySem.W.Frag} {C : Addr} {n : Nat} {ns : List Str} {g : List Da → Option (List Da)} (vs : List V) (H : Hp) (Q : VK) (E : XK) (h : Pk K C n ns g vs H Q E) : vs.length = n + 1 := by
  obtain ⟨_, a, ws, ds, es, rfl, hl, _, _, _, r, _⟩ := h
  rw [List.length_cons, r.len, hl]
section
variable {K : PySem.W.Frag} {C : Addr} {f f2 : Str} {gC : List Da → Option Da} {E : XK} {Q : VK} {a : Addr} {w w2 : V} {d d2 : Da} {G H : Hp} {D : Ends}
theorem rk_init1 (s : Same G H) (ga : G a = none) (ha : H a = some (exo a C none)) (dw : DR K G w d) (T : OexC K C) (no : PySem.W.findIn K (.ref C) f = some none) (hg : gC [d] = some d)
    (k : ∀ G' H' dx us, (∀ b o, b ≠ a → H b = some o → H' b = some o) → Same G G' → Same G' H' → (∀ b o, H b = some o → G b = none → G' b = none) → H' a = some (exo a C (some dx)) → H' dx = some (exd dx ([f].zip us)) → H dx = none → dx ≠ a → G' dx = none → [f].length = us.length → DRs K G' us [d] → Q .non H') (hD : D.nx = fun _ H' => Q .non H') :
    tOst K f (tVar 0) (tCall (Pd K 1 gC) [] E (tCons (tVar 1) tNil)) D [some (.ref a), some w] H := by
  have ev : Evd K (tCall (Pd K 1 gC) [] E (tCons (tVar 1) tNil)) [some (.ref a), some w] G d := ed_call (xs_cons (ed_var rfl dw) es_nil) rfl hg
  refine ev H s _ fun y G1 H1 n1 dy => ⟨.ref a, rfl, a, C, rfl, T, no, .inl ⟨n1.s _ _ ha, fun dx nd ne => ?_⟩⟩
  rw [hD]
  have gd : G1 dx = none := n1.b.free nd
  have g1 : G1 a = none := n1.n _ _ ha ga
  refine k G1 _ dx [y] (fun b o hb z => ?_) n1.a (fun b o z => ?_) n1.n upd_same (by rw [upd_ne ne, upd_same]; rfl) (n1.s.free nd) ne gd rfl (.cons dy .nil)
  · rw [upd_ne hb, upd_ne (ne_of_none (n1.s _ _ z) nd)]; exact n1.s _ _ z
  · rw [upd_ne (ne_of_none z g1), upd_ne (ne_of_none z gd)]; exact n1.b _ _ z
theorem rk_init2 (s : Same G H) (ga : G a = none) (ha : H a = some (exo a C none)) (dw : DR K G w d) (dw2 : DR K G w2 d2) (T : OexC K C) (no : PySem.W.findIn K (.ref C) f = some none) (no2 : PySem.W.findIn K (.ref C) f2 = some none) (hg : gC [d] = some d) (hg2 : gC [d2] = some d2)
    (k : ∀ G' H' dx us, (∀ b o, b ≠ a → H b = some o → H' b = some o) → Same G G' → Same G' H' → (∀ b o, H b = some o → G b = none → G' b = none) → H' a = some (exo a C (some dx)) → H' dx = some (exd dx ([f2, f].zip us)) → H dx = none → dx ≠ a → G' dx = none → [f2, f].length = us.length → DRs K G' us [d2, d] → Q .non H') (hD : D.nx = fun _ H' => Q .non H') :
    tSeq (tOst K f (tVar 0) (tCall (Pd K 1 gC) [] E (tCons (tVar 1) tNil))) (tOst K f2 (tVar 0) (tCall (Pd K 1 gC) [] E (tCons (tVar 2) tNil))) D [some (.ref a), some w, some w2] H := by
  have ev : Evd K (tCall (Pd K 1 gC) [] E (tCons (tVar 1) tNil)) [some (.ref a), some w, some w2] G d := ed_call (xs_cons (ed_var rfl dw) es_nil) rfl hg
  refine ev H s _ fun y G1 H1 n1 dy => ⟨.ref a, rfl, a, C, rfl, T, no, .inl ⟨n1.s _ _ ha, fun dx nd ne => ?_⟩⟩
  have gd : G1 dx = none := n1.b.free nd
  have g1 : G1 a = none := n1.n _ _ ha ga
  have s2 : Same G1 (upd (upd H1 dx (exd dx [(f, y)])) a (exo a C (some dx))) := same_upd (same_upd n1.b gd) g1
  have ev2 : Evd K (tCall (Pd K 1 gC) [] E (tCons (tVar 2) tNil)) [some (.ref a), some w, some w2] G1 d2 := ed_call (xs_cons (ed_var rfl (dw2.up n1.a)) es_nil) rfl hg2
  refine ev2 _ s2 _ fun y2 G2 H2 n2 dy2 => ?_
  have ha2 : H2 a = some (exo a C (some dx)) := n2.s _ _ upd_same
  have hd2 : H2 dx = some (exd dx [(f, y)]) := n2.s _ _ (by rw [upd_ne ne, upd_same])
  have g2 : G2 a = none := n2.n _ _ upd_same g1
  have gd2 : G2 dx = none := n2.n dx _ (by rw [upd_ne ne, upd_same]) gd
  refine ⟨.ref a, rfl, a, C, rfl, T, no2, .inr ⟨dx, _, ha2, hd2, (by show 1 ≤ 900; decide), ?_⟩⟩
  rw [hD]
  refine k G2 _ dx [y2, y] (fun b o hb z => ?_) (n1.a.trans n2.a) (fun b o z => ?_) (fun b o z w => ?_) (by rw [upd_ne (Ne.symm ne)]; exact ha2) upd_same (n1.s.free nd) ne gd2 rfl (.cons dy2 (.cons (dy.up n2.a) .nil))
  · have q1 : b ≠ dx := ne_of_none (n1.s _ _ z) nd
    rw [upd_ne q1]; exact n2.s _ _ (by rw [upd_ne hb, upd_ne q1]; exact n1.s _ _ z)
  · rw [upd_ne (ne_of_none z gd2)]; exact n2.b _ _ z
  · have q1 : b ≠ dx := ne_of_none (n1.s _ _ z) nd
    by_cases hb : b = a
    · subst hb; exact g2
    · exact n2.n b o (by rw [upd_ne hb, upd_ne q1]; exact n1.s _ _ z) (n1.n _ _ z w)
end
/-- an error with the fields ns, their data es, flies to E -/
def ErrTo (K : PySem.W.Frag) (G H : Hp) (E : XK) (C : Addr) (ns : List Str) (es : List Da) : Prop := ∀ G' H' dx us, Nw G H G' H' → H' dx = some (.xd (ns.zip us)) → ns.length = us.length → DRs K G' us es → E (.ref C) (some dx) H'
theorem ErrTo.of {K : PySem.W.Frag} {G H G1 H1 : Hp} {E : XK} {C : Addr} {ns : List Str} {es : List Da} (h : ErrTo K G H E C ns es) (n : Nw G H G1 H1) : ErrTo K G1 H1 E C ns es := fun G' H' dx us m a b c => h G' H' dx us (n.trans m) a b c
/-- raise C(e, ..) -/
theorem rz_mk {K : PySem.W.Frag} {σ : L2.St} {G H : Hp} {C : Addr} {n : Nat} {ns : List Str} {g : List Da → Option (List Da)} {ta : TA} {ds es : List Da} {Q : XK} (s : Same G H) (h : Evs K ta σ G ds) (hn : ds.length = n) (h1 : n ≤ 1000) (hg : g ds = some es) (k : ErrTo K G H Q C ns es) :
    tMkO C (Pk K C n ns g) [] ta σ H Q := h H s _ fun vs G1 H1 n1 dvs => ⟨by rw [dvs.len, hn]; exact h1, fun a ha => by
  have g1 : G1 a = none := n1.b.free ha
  rw [List.append_nil]
  refine ⟨G1, a, vs, ds, es, rfl, hn, same_upd n1.b g1, g1, upd_same, dvs, hg, fun G' H' dx us k1 k2 k3 k4 e1 e2 e3 ne e4 e5 dd => ⟨rfl, dx, ns.zip us, e1, e2, ?_, ?_⟩⟩
  · rw [upd_ne ne] at e3; exact e3
  · have h1d : H1 dx = none := by rw [upd_ne ne] at e3; exact e3
    have ga : G' a = none := k4 a _ upd_same g1
    refine k G' _ dx us (n1.trans ⟨fun b o z => ?_, k2, fun b o z => ?_, fun b o z w => k4 b o (by rw [upd_ne (ne_of_none z ha)]; exact z) w⟩) upd_same e5 dd
    · rw [upd_ne (ne_of_none z h1d), del_ne (ne_of_none z ha)]
      exact k1 b o (ne_of_none z ha) (by rw [upd_ne (ne_of_none z ha)]; exact z)
    · rw [upd_ne (ne_of_none z e4), del_ne (ne_of_none z ga)]
      exact k3 _ _ z⟩
/-! a kept error: its fields, its class -/
def tOfk (K : PySem.W.Frag) (f : Str) (te : TE) : TE := fun σ H Q => te σ H fun x H1 => ∃ (a C dx : Addr) (fs : List (Str × V)) (v : V), x = .ref a ∧ OGet K C ∧ PySem.W.findIn K (.ref C) f = some none ∧ H1 a = some (exk a C (some dx)) ∧ H1 dx = some (.xd fs) ∧ fs.lookup f = some v ∧ Q v H1
def rIsK (K : PySem.W.Frag) : List V → Hp → VK → Prop := fun xs H Q => ∃ (a C dx : Addr) (fs : List (Str × V)) (c : V) (u : Value) (b : Bool), xs = [.ref a, c] ∧ ClsV c u ∧ OGet K C ∧ H a = some (exk a C (some dx)) ∧ H dx = some (.xd fs) ∧ PySem.W.kitOne K (.ref C) u = some b ∧ Q (.bl b) H
section
variable {X : Cx} {K : PySem.W.Frag} {e : Expr} {es : List Expr} {te : TE} {t : TA} {f : Str} {p pos : Pos}
theorem xd_at {P : Program} {w : World} {H : Hp} {h : Heap} {dx : Addr} {fs : List (Str × V)} (ok : HOk P w H h) (e : H dx = some (.xd fs)) : ∃ mA, h.Ns1 dx mA ∧ ∀ f, RelO (fs.lookup f) (mA f) := ok dx _ e
theorem pe_ofk (hK : X.K = K) (he : PE X e te) (hb : attributeBase e f X.env (eval e X.env) = eval e X.env := by rfl) : PE X (.Attribute e f pos) (tOfk K f te) := by
  subst hK
  refine ⟨fun pins s σ H Q I h => attr_of hb (thn (he.run pins s σ H _ I h) fun u s1 ⟨x, H1, I1, rx, a, C, dx, fs, v, ex, T, hno, ea, ed, hl, q⟩ => ?_)⟩
  subst ex
  obtain rfl : u = Value.ref a := rx
  obtain ⟨ob, vs, ho, hc, hd, hf⟩ := exk_at I1.hok ea
  obtain ⟨mA, hns, rel⟩ := xd_at I1.hok ed
  obtain ⟨od, hod, hlk⟩ := lookIn_ns hns
  obtain ⟨u, hu, ru⟩ := RelO.some_of (v := v) (o := mA f) (by rw [← hl]; exact rel f)
  have J : PySem.W.InstAt s1.heap a ob C (some od) := ⟨ho, hc, by unfold PySem.W.notCls; rw [hf], by rw [hd]; exact hod⟩
  exact HandSPX.exc_get I1.kIn J T.hg T.hk T.hs (PySem.W.findObj_own T.hd hno rfl (by rw [hlk, hu])) (handed_of ru) ⟨v, H1, I1.tok _, ru, q⟩
theorem pe_isK (hK : X.K = K) (hm : X.mg "isinstance" = none) (hg : Gl X "isinstance") (ha : PA X (e :: es) t) (he : starEach (e :: es) X.env = (false, eval e X.env) :: starEach es X.env := by rfl) (hpl : (backTo pos (starEach es X.env)).any (·.1) = false := by rfl) :
    PE X (.Call (.Name "isinstance" p) (e :: es) [] pos) (tCB (rIsK K) t) := by
  subst hK
  refine pe_callB (fun pins s σ H xs us Q I r h => ?_) hg hm PyProof.Rows.boot_isinstance ha (by decide) (by decide) he hpl
  obtain ⟨a, C, dx, fs, c, u, b, rfl, kc, T, ea, ed, e, q⟩ := h
  obtain ⟨u1, u2, rfl, r1, r2⟩ := vals2 r
  have e2 := kc.eq r2
  subst e2
  obtain rfl : u1 = Value.ref a := r1
  obtain ⟨ob, vs, ho, hc, hd, hf⟩ := exk_at I.hok ea
  obtain ⟨mA, hns, rel⟩ := xd_at I.hok ed
  obtain ⟨od, hod, hlk⟩ := lookIn_ns hns
  have J : PySem.W.InstAt s.heap a ob C (some od) := ⟨ho, hc, by unfold PySem.W.notCls; rw [hf], by rw [hd]; exact hod⟩
  exact PySem.W.kia_one (PySem.W.kitx_exc T.hc T.hg T.hk T.hs T.ha T.hn T.ht T.hm) I.kIn J e (fun z => nomatch z) fun tk => ⟨.bl b, H, I.tok tk, rfl, q⟩
end
end GL

set_option Elab.async false
set_option linter.all false
set_option autoImplicit false
set_option maxRecDepth 100000
set_option maxHeartbeats 2000000
namespace GL
open PySem PySem.Spec PyProof.Rows L2
/-! texts as data: walks over their signs, over a range, len, in, split, all -/
section
variable {K : PySem.W.Frag} {σ : L2.St} {G : Hp} {te ta tb tc : TE} {tt : TT} {d : Da} {ds : List Da} {g : TG} {vs : List Nat} {z y : Str} {i j : Int} {b : Bool}
/-- a comprehension over anything whose items are fixed: flat values xs, as data ds -/
theorem ed_lcJ {wi : TI} (J : It) (xs : List V) (p : Da → Bool) (f : Da → Da) (hwi : ∀ H, Same G H → ∀ R : It → Hp → Prop, (∀ G1 H1, Nw G H G1 H1 → R J H1) → wi σ H R)
    (j1 : ∀ i H, xs.length ≤ i → J.stop i H) (j2 : ∀ i H, i < xs.length → J.go i H) (j3 : ∀ i H v H', i < xs.length → J.yld i H v H' → H' = H ∧ xs[i]? = some v) (hx : ∀ G', DRs K G' xs ds) (hz : ds.length ≤ 1000)
    (hs : ∀ x d G' H', Same G G' → Same G' H' → d ∈ ds → DR K G' x d → ∃ σ2, (∀ k : L2.St → Hp → Prop, k σ2 H' → g x (wipe σ vs) H' k) ∧ wipe σ2 vs = wipe σ vs ∧ Evt tt σ2 G' (p d) ∧ (p d = true → ∀ G2, Same G' G2 → Evd K te σ2 G2 (f d))) :
    Evd K (tLc wi g tt te vs) σ G (.lst ((ds.filter p).map f)) := fun H e Q q => hwi H e _ fun G1 H1 n1 D hD => by
  have gD : G1 D = none := n1.b.free hD
  have lx : xs.length = ds.length := (hx G).len
  let Pv : Nat → Hp → Prop := fun i H' => ∃ G' acc, Same H1 H' ∧ Same G1 G' ∧ Same G' H' ∧ G' D = none ∧ (∀ b o, H1 b = some o → G1 b = none → G' b = none) ∧ H' D = some (.lst acc) ∧ DRs K G' acc (((ds.take i).filter p).map f)
  refine ⟨fun i m H' => m = xs.length - i ∧ i ≤ xs.length ∧ Pv i H', ⟨xs.length, by simp, Nat.zero_le _, G1, [], same_upd (Same.refl _) hD, Same.refl _, same_upd n1.b gD, gD, fun _ _ _ z => z, upd_same, by simpa using DRs.nil⟩, ?_⟩
  rintro i m H' ⟨rfl, hi, G', acc, s1, s2, s3, gd, nn, hd, dr⟩
  by_cases hlt : i < xs.length
  · refine .inr ⟨j2 i H' hlt, Pv (i + 1), fun H2 p2 => ⟨xs.length - (i + 1), by omega, rfl, hlt, p2⟩, fun x H2 hy => ?_⟩
    obtain ⟨rfl, hxi⟩ := j3 i H' x H2 hlt hy
    obtain ⟨d, hdi, dx⟩ := (hx G').get hxi
    have hmem : d ∈ ds := List.mem_of_getElem? hdi
    have lacc : acc.length ≤ 1000 := by
      rw [dr.len, List.length_map]
      exact Nat.le_trans (Nat.le_trans (List.length_filter_le _ _) (by rw [List.length_take]; omega)) hz
    have step : (ds.take (i + 1)).filter p = (ds.take i).filter p ++ (if p d = true then [d] else []) := by
      rw [List.take_succ, hdi, List.filter_append]
      by_cases hp : p d = true
      · simp [hp]
      · simp [hp]
    obtain ⟨σ2, k1, k2, k3, k4⟩ := hs x d G' H2 (n1.a.trans s2) s3 hmem dx
    refine k1 _ ⟨k2, k3 H2 s3 _ fun G2 H3 n2 => ?_⟩
    have gd2 : G2 D = none := n2.n _ _ hd gd
    cases hp : p d with
    | true =>
      show te σ2 H3 _
      refine k4 hp G2 n2.a H3 n2.b _ fun y G3 H4 n3 dy => ⟨acc, n3.s _ _ (n2.s _ _ hd), small1000 lacc, G3, acc ++ [y], same_upd ((s1.trans n2.s).trans n3.s) hD, (s2.trans n2.a).trans n3.a, same_upd n3.b (n3.n _ _ (n2.s _ _ hd) gd2), n3.n _ _ (n2.s _ _ hd) gd2, fun b o z w => ?_, upd_same, ?_⟩
      · exact n3.n _ _ (n2.s _ _ (s1 _ _ z)) (n2.n _ _ (s1 _ _ z) (nn _ _ z w))
      · rw [step, if_pos hp, List.map_append]
        exact DRs.app ((dr.up n2.a).up n3.a) (.cons dy .nil)
    | false =>
      show Pv (i + 1) H3
      refine ⟨G2, acc, s1.trans n2.s, s2.trans n2.a, n2.b, gd2, fun b o z w => n2.n _ _ (s1 _ _ z) (nn _ _ z w), n2.s _ _ hd, ?_⟩
      rw [step, if_neg (by rw [hp]; exact Bool.false_ne_true), List.append_nil]
      exact dr.up n2.a
  · have ei : i = xs.length := by omega
    subst ei
    refine .inl ⟨j1 _ _ (Nat.le_refl _), ?_⟩
    rw [lx, List.take_length] at dr
    have up1 : Same G' (upd G' D (.lst acc)) := same_upd (Same.refl _) gd
    refine q (.ref D) (upd G' D (.lst acc)) H' (n1.trans ⟨s1, s2.trans up1, fun b o z => ?_, fun b o z w => ?_⟩) (.lst upd_same (dr.up up1))
    · by_cases hb : b = D
      · subst hb; rw [upd_same] at z; cases z; exact hd
      · rw [upd_ne hb] at z; exact s3 _ _ z
    · rw [upd_ne (ne_of_none z hD)]
      exact nn _ _ z w
theorem drs_map {α : Type} {K : PySem.W.Frag} {G : Hp} {f : α → V} {g : α → Da} (h : ∀ a, DR K G (f a) (g a)) : ∀ xs : List α, DRs K G (xs.map f) (xs.map g)
  | [] => .nil
  | a :: r => .cons (h a) (drs_map h r)
def sgn (c : Nat) : Str := ⟨#[c]⟩
/-- over the signs of a text -/
theorem ed_lcS (p : Da → Bool) (f : Da → Da) (h : Evd K tb σ G (.str z)) (hz : z.length ≤ 1000)
    (hs : ∀ x d G' H', Same G G' → Same G' H' → d ∈ z.cps.toList.map (fun c => Da.str (sgn c)) → DR K G' x d → ∃ σ2, (∀ k : L2.St → Hp → Prop, k σ2 H' → g x (wipe σ vs) H' k) ∧ wipe σ2 vs = wipe σ vs ∧ Evt tt σ2 G' (p d) ∧ (p d = true → ∀ G2, Same G' G2 → Evd K te σ2 G2 (f d))) :
    Evd K (tLc (iStr tb) g tt te vs) σ G (.lst (((z.cps.toList.map fun c => Da.str (sgn c)).filter p).map f)) :=
  ed_lcJ (Its z) (z.cps.toList.map fun c => V.str (sgn c)) p f (fun H e R k => h H e _ fun v G1 H1 n1 dv => by cases dv; exact ⟨z, rfl, k G1 H1 n1⟩)
    (fun i H hi => by rw [List.length_map, Array.length_toList] at hi; exact hi) (fun i H hi => by rw [List.length_map, Array.length_toList] at hi; exact hi)
    (fun i H v H' hi ⟨e, c, hc, hv⟩ => ⟨e, by rw [List.getElem?_map, Array.getElem?_toList, hc, hv]; rfl⟩) (fun G' => drs_map (fun c => .str _) _) (by rw [List.length_map, Array.length_toList]; exact hz) hs
/-- over range(n) -/
theorem ed_lcR {n : Nat} (p : Da → Bool) (f : Da → Da) (h : Evd K tb σ G (.int (n : Int))) (hz : n ≤ 1000)
    (hs : ∀ x d G' H', Same G G' → Same G' H' → d ∈ (List.range n).map (fun k : Nat => Da.int (k : Int)) → DR K G' x d → ∃ σ2, (∀ k : L2.St → Hp → Prop, k σ2 H' → g x (wipe σ vs) H' k) ∧ wipe σ2 vs = wipe σ vs ∧ Evt tt σ2 G' (p d) ∧ (p d = true → ∀ G2, Same G' G2 → Evd K te σ2 G2 (f d))) :
    Evd K (tLc (iRng1 (tCons tb tNil)) g tt te vs) σ G (.lst (((List.range n).map fun k : Nat => Da.int (k : Int)).filter p |>.map f)) :=
  ed_lcJ (Itr 0 n) ((List.range n).map fun k : Nat => V.int (k : Int)) p f (fun H e R k => h H e _ fun v G1 H1 n1 dv => by cases dv; exact ⟨(n : Int), rfl, by omega, by omega, k G1 H1 n1⟩)
    (fun i H hi => by rw [List.length_map, List.length_range] at hi; exact hi) (fun i H hi => by rw [List.length_map, List.length_range] at hi; exact hi)
    (fun i H v H' hi ⟨e, hv⟩ => ⟨e, by rw [List.length_map, List.length_range] at hi; rw [List.getElem?_map, List.getElem?_range hi, hv]; simp⟩) (fun G' => drs_map (fun c => .int _) _) (by rw [List.length_map, List.length_range]; exact hz) hs
/-! len, order, in -/
def rLenS1 : List V → Hp → VK → Prop := fun xs H Q => ∃ z, xs = [.str z] ∧ z.length ≤ sizeLine ∧ Q (.int z.length) H
theorem ed_lenS (h : Evd K te σ G (.str z)) (hz : z.length ≤ 1000) : Evd K (tCB rLenS1 (tCons te tNil)) σ G (.int z.length) := fun H e Q q => h H e _ fun v G1 H1 n1 dv => by
  cases dv
  exact ⟨z, rfl, sizeK hz, q _ G1 H1 n1 (.int _)⟩
/-- a <= x <= b -/
theorem ed_le2 {a x c : Int} (ha : Evd K ta σ G (.int a)) (hb : Evd K tb σ G (.int x)) (hc : Evd K tc σ G (.int c)) :
    Evd K (tChain (rI0 fun i j => .bl (decide (i ≤ j))) (rI0 fun i j => .bl (decide (i ≤ j))) ta tb tc) σ G (.bl (decide (a ≤ x) && decide (x ≤ c))) := fun H e Q q => ha H e _ fun v G1 H1 n1 dv => hb.up n1.a H1 n1.b _ fun w G2 H2 n2 dw => by
  cases dv; cases dw
  refine ⟨a, x, rfl, rfl, _, rfl, ?_⟩
  cases h1 : decide (a ≤ x) with
  | true =>
    show tc σ H2 _
    refine hc.up (n1.a.trans n2.a) H2 n2.b _ fun u G3 H3 n3 du => ?_
    cases du
    exact ⟨x, c, rfl, rfl, q _ G3 H3 ((n1.trans n2).trans n3) (by rw [h1]; exact .bl _)⟩
  | false =>
    show Q (.bl false) H2
    exact q _ G2 H2 (n1.trans n2) (by rw [h1]; exact .bl _)
theorem ed_inS {c : Nat} (ha : Evd K ta σ G (.str (sgn c))) (hb : Evd K tb σ G (.str y)) : Evd K (tOp rInS ta tb) σ G (.bl (decide (c ∈ y.cps.toList))) :=
  ed_two ha (fun _ s => hb.up s) fun v w G' H' _ e dv dw Q q => by
    cases dv; cases dw
    unfold rInS
    exact ⟨c, y, rfl, rfl, q _ G' H' (Nw.refl e) (.bl _)⟩
theorem ed_notInS {c : Nat} (ha : Evd K ta σ G (.str (sgn c))) (hb : Evd K tb σ G (.str y)) : Evd K (tOp rNotInS ta tb) σ G (.bl (!decide (c ∈ y.cps.toList))) :=
  ed_two ha (fun _ s => hb.up s) fun v w G' H' _ e dv dw Q q => by
    cases dv; cases dw
    unfold rNotInS
    exact ⟨c, y, rfl, rfl, q _ G' H' (Nw.refl e) (.bl _)⟩
theorem bls_of : ∀ {G : Hp} {xs : List V} (bs : List Bool), DRs K G xs (bs.map Da.bl) → xs = bs.map V.bl
  | _, _, [], h => by cases h; rfl
  | _, _, b :: bs, h => by cases h with | cons h1 h2 => cases h1; rw [bls_of bs h2]; rfl
theorem strs_of : ∀ {G : Hp} {xs : List V} (zs : List Str), DRs K G xs (zs.map Da.str) → xs = zs.map V.str
  | _, _, [], h => by cases h; rfl
  | _, _, b :: bs, h => by cases h with | cons h1 h2 => cases h1; rw [strs_of bs h2]; rfl
/-- all(list of truth values) -/
theorem ed_all {bs : List Bool} (h : Evd K te σ G (.lst (bs.map Da.bl))) : Evd K (tCB (rAll K) (tCons te tNil)) σ G (.bl (bs.all id)) := fun H e Q q => h H e _ fun v G1 H1 n1 dv => by
  cases dv with
  | lst h1 h2 => exact ⟨_, bs, rfl, by rw [← bls_of bs h2]; exact SqL.of (n1.b _ _ h1), q _ G1 H1 n1 (.bl _)⟩
/-- a text in a list of texts -/
theorem inV_strs (w : Str) : ∀ zs : List Str, inV (.str w) (zs.map V.str) = zs.contains w
  | [] => rfl
  | z :: zs => by
    have ih := inV_strs w zs
    unfold inV at ih ⊢
    rw [List.map_cons, List.any_cons, ih, List.contains_cons]
    congr 1
    show (z == w) = (w == z)
    exact Bool.beq_comm
theorem flat_strs' (zs : List Str) : (zs.map V.str).all flatV = true := by
  rw [List.all_map]
  exact List.all_eq_true.mpr fun _ _ => rfl
theorem ed_inL {w : Str} {zs : List Str} (ha : Evd K ta σ G (.str w)) (hb : Evd K tb σ G (.lst (zs.map Da.str))) : Evd K (tOp (rIn K false) ta tb) σ G (.bl (zs.contains w)) :=
  ed_two ha (fun _ s => hb.up s) fun v u G' H' _ e dv du Q q => by
    cases dv
    cases du with
    | lst h1 h2 =>
      have e1 := strs_of zs h2
      subst e1
      exact ⟨_, _, rfl, .inl (SqL.of (e _ _ h1)), rfl, flat_strs' zs, by rw [if_neg Bool.false_ne_true, inV_strs]; exact q _ G' H' (Nw.refl e) (.bl _)⟩
theorem ed_notInL {w : Str} {zs : List Str} (ha : Evd K ta σ G (.str w)) (hb : Evd K tb σ G (.lst (zs.map Da.str))) : Evd K (tOp (rIn K true) ta tb) σ G (.bl (!zs.contains w)) :=
  ed_two ha (fun _ s => hb.up s) fun v u G' H' _ e dv du Q q => by
    cases dv
    cases du with
    | lst h1 h2 =>
      have e1 := strs_of zs h2
      subst e1
      exact ⟨_, _, rfl, .inl (SqL.of (e _ _ h1)), rfl, flat_strs' zs, by rw [if_pos rfl, inV_strs]; exact q _ G' H' (Nw.refl e) (.bl _)⟩
/-- a.split(b) -/
theorem ed_split (ha : Evd K ta σ G (.str z)) (hb : Evd K tb σ G (.str y)) (hy : (y.length == 0) = false) (hz : z.length ≤ 900) :
    Evd K (tM1 (fun x xs H Q => ∃ a b, x = .str a ∧ xs = [.str b] ∧ (b.length == 0) = false ∧ a.length + 2 ≤ sizeLine ∧ rNewStrs (Txt.split a b) H Q) ta tb) σ G (.lst ((Txt.split z y).map Da.str)) := fun H e Q q => ha H e _ fun v G1 H1 n1 dv => by
  cases dv
  refine ⟨⟨z, rfl⟩, hb.up n1.a H1 n1.b _ fun u G2 H2 n2 du => ?_⟩
  cases du
  refine ⟨z, y, rfl, rfl, hy, Nat.le_trans (show z.length + 2 ≤ 1000 by omega) (by decide), fun p hp => ?_⟩
  have n3 := Nw.new (o := .lst ((Txt.split z y).map V.str)) n2.b hp
  exact q (.ref p) _ _ ((n1.trans n2).trans n3) (.lst upd_same (drs_map (fun c => .str c) _))
/-- str(int) -/
def rStrI : List V → Hp → VK → Prop := fun xs H Q => ∃ i, xs = [.int i] ∧ i.natAbs.log2 < 1920 ∧ Q (.str (toString i)) H
theorem ed_strI (h : Evd K te σ G (.int i)) (hi : i.natAbs.log2 < 1920) : Evd K (tCB rStrI (tCons te tNil)) σ G (.str (toString i)) := fun H e Q q => h H e _ fun v G1 H1 n1 dv => by
  cases dv
  exact ⟨i, rfl, hi, q _ G1 H1 n1 (.str _)⟩
/-- text + text -/
def rCatS1 : R2 := fun x y H Q => ∃ i j, x = .str i ∧ y = .str j ∧ i.length + j.length ≤ sizeLine ∧ Q (.str (i ++ j)) H
theorem ed_catS (ha : Evd K ta σ G (.str z)) (hb : Evd K tb σ G (.str y)) (hz : z.length + y.length ≤ 1000) : Evd K (tOp rCatS1 ta tb) σ G (.str (z ++ y)) :=
  ed_two ha (fun _ s => hb.up s) fun v w G' H' _ e dv dw Q q => by
    cases dv; cases dw
    exact ⟨z, y, rfl, rfl, sizeK hz, q _ G' H' (Nw.refl e) (.str _)⟩
/-- text[a:b] -/
theorem ed_slS {tl th : TO} {lo hi : Option Int} (h : Evd K te σ G (.str z)) (hz : z.length ≤ 1000) (hl : ∀ H Q, Q lo H → tl σ H Q) (hh : ∀ H Q, Q hi H → th σ H Q) : Evd K (tSl C8.rSlX te tl th) σ G (.str (Txt.slice z lo hi)) := fun H e Q q => h H e _ fun v G1 H1 n1 dv => by
  cases dv
  refine hl _ _ (hh _ _ ?_)
  unfold C8.rSlX
  exact ⟨z, rfl, sizeK hz, q _ G1 H1 n1 (.str _)⟩
end
end GL

set_option Elab.async false
set_option linter.all false
set_option autoImplicit false
set_option maxRecDepth 100000
set_option maxHeartbeats 2000000
namespace GL
open PySem PySem.Spec PyProof.Rows L2
/-- a def that may be called by its name, wherever there is room -/
structure CalO (P : Program) (w : World) (K : PySem.W.Frag) (mg : Str → Option Value) (base : Heap) (k : Nat) (x : Str) (ps : List Str) (sp : Sp) : Prop where
  ex : ∃ f fd, FnOk P w K mg base CX0 k f fd ps sp ∧ mg x = some (.ref f) ∧ PySem.W.keepIn K (.ref f) = true ∧ L2.Binds K fd ps []
section
variable {X : Cx} {k : Nat} {x : Str} {ps : List Str} {sp : Sp} {p pos : Pos} {e : Expr} {es : List Expr} {t : TA} {te ta tb : TE} {z : Str} {i : Int}
theorem pe_calO (c : CalO X.prog X.w X.K X.mg X.base k x ps sp) (hr : Room k X.A) (hg : Gl X x) (ha : PA X (e :: es) t) (hdb : (x == ("__debug__" : Str)) = false := by decide)
    (he : starEach (e :: es) X.env = (false, eval e X.env) :: starEach es X.env := by rfl) (hpl : (backTo pos (starEach es X.env)).any (·.1) = false := by rfl) : PE X (.Call (.Name x p) (e :: es) [] pos) (tCall sp [] E0 t) := by
  obtain ⟨f, fd, F, hm, hk, hb⟩ := c.ex
  exact pe_call F hr hg hm hk hb .nil pass0 ha hdb he hpl
/-- a constant of the program's top -/
theorem pe_kS (h : ∃ t, X.mg x = some (.str z t)) (hg : Gl X x) (hd : (x == ("__debug__" : Str)) = false := by decide) : PE X (.Name x pos) (tC (.str z)) := by
  obtain ⟨t, h⟩ := h
  exact pe_glob hg h ⟨t, rfl⟩ hd
theorem pe_kI (h : ∃ t, X.mg x = some (.int i t)) (hg : Gl X x) (hd : (x == ("__debug__" : Str)) = false := by decide) : PE X (.Name x pos) (tC (.int i)) := by
  obtain ⟨t, h⟩ := h
  exact pe_glob hg h ⟨t, rfl⟩ hd
end
section
variable {K : PySem.W.Frag} {σ : L2.St} {G : Hp} {te ta tb : TE} {d : Da} {ds : List Da} {i j : Int} {b : Bool} {C : Addr} {f : Str}
/-- len of a list of data -/
theorem ed_lenL (h : Evd K te σ G (.lst ds)) : Evd K (tCB (fun xs H Q => ∃ p ys, xs = [.ref p] ∧ (SqL K H p ys ∨ SqT K H p ys) ∧ Q (.int ys.length) H) (tCons te tNil)) σ G (.int ds.length) := fun H e Q q => h H e _ fun v G1 H1 n1 dv => by
  cases dv with
  | lst h1 h2 => exact ⟨_, _, rfl, .inl (SqL.of (n1.b _ _ h1)), q _ G1 H1 n1 (by rw [h2.len]; exact .int _)⟩
theorem ed_neI (ha : Evd K ta σ G (.int i)) (hb : Evd K tb σ G (.int j)) (hz : (!decide (i = j)) = b) : Evd K (tOp rNe ta tb) σ G (.bl b) := ed_two ha (fun _ s => hb.up s) fun v w G' H' _ e dv dw Q k => by
  cases dv; cases dw
  have z : (!decide (V.int i = V.int j)) = b := by rw [← hz]; simp
  exact ⟨rfl, by rw [z]; exact k _ G' H' (Nw.refl e) (.bl b)⟩
theorem ed_eqI (ha : Evd K ta σ G (.int i)) (hb : Evd K tb σ G (.int j)) (hz : decide (i = j) = b) : Evd K (tOp rEq ta tb) σ G (.bl b) := ed_two ha (fun _ s => hb.up s) fun v w G' H' _ e dv dw Q k => by
  cases dv; cases dw
  have z : decide (V.int i = V.int j) = b := by rw [← hz]; simp
  exact ⟨rfl, by rw [z]; exact k _ G' H' (Nw.refl e) (.bl b)⟩
theorem ed_gtI (ha : Evd K ta σ G (.int i)) (hb : Evd K tb σ G (.int j)) (hz : decide (j < i) = b) : Evd K (tOp (rI0 fun i j => .bl (decide (j < i))) ta tb) σ G (.bl b) := ed_two ha (fun _ s => hb.up s) fun v w G' H' _ e dv dw Q k => by
  cases dv; cases dw
  subst hz
  exact ⟨i, j, rfl, rfl, k _ G' H' (Nw.refl e) (.bl _)⟩
theorem ed_addI (ha : Evd K ta σ G (.int i)) (hb : Evd K tb σ G (.int j)) : Evd K (tOp (rI0 fun i j => .int (i + j)) ta tb) σ G (.int (i + j)) := ed_two ha (fun _ s => hb.up s) fun v w G' H' _ e dv dw Q k => by
  cases dv; cases dw
  exact ⟨i, j, rfl, rfl, k _ G' H' (Nw.refl e) (.int _)⟩
/-- a constant of a class -/
theorem ed_cval {mc u : Value} {v : V} (h : Evd K te σ G (.obj C)) (c : ClX.CRead K C mc) (k : ClX.CVal K C mc f v u) (hd : ∀ G', DR K G' v d) : Evd K (ClX.tCVal K te f) σ G d := fun H e Q q => h H e _ fun w G1 H1 n1 dw => by
  cases dw
  exact ⟨C, mc, v, u, rfl, c, k, q v G1 H1 n1 (hd G1)⟩
end
end GL

set_option Elab.async false
set_option linter.all false
set_option autoImplicit false
set_option maxRecDepth 100000
set_option maxHeartbeats 2000000
namespace GL
open PySem PySem.Spec PyProof.Rows L2
/-! a, b = a list -/
section
variable {prog : Program} {w : World} {A : Around} {E : Value → Shared → Prop} {s : Shared}
theorem draw_lst {it l : Addr} {items : Array Value} (apart : l ≠ it) : ∀ (n i : Nat) (s : Shared) (Q : List Value → Shared → Prop), s.heap.IsListIter it l i → s.heap.IsList l items → i + n ≤ items.size →
    (∀ g, g.IsListIter it l (i + n) → Heap.SameBut it s.heap g → Q ((items.toList.drop i).take n) { s with heap := g }) → wpAny (model prog w) A (draw (.ref it) n) Q E s
  | 0, i, s, Q, st, _, _, q => by
    show wpAny _ _ (pure []) Q E s
    exact wpAny_pure (by simpa using q s.heap st (Heap.SameBut.refl ..))
  | n + 1, i, s, Q, st, il, le, q => by
    have lt : i < items.size := by omega
    show wpAny _ _ (pyNext (.ref it) >>= _) Q E s
    refine wpAny_bind (wpAny_pyNext_list_item st il (x := items[i]) (by simp [lt]) fun g1 st1 same1 => ?_)
    refine wpAny_bind (wpAny_holding (draw_lst apart n (i + 1) _ _ st1 (il.extBut same1.extBut apart) (by omega) fun g2 st2 same2 => wpAny_pure ?_))
    have cut : items.toList.drop i = items[i] :: items.toList.drop (i + 1) := by simp [List.drop_eq_getElem_cons, lt]
    have z := q g2 (by rw [show i + (n + 1) = i + 1 + n by omega]; exact st2) (same1.trans same2)
    rw [cut, List.take_succ_cons] at z
    exact z
theorem unpack_lst {l : Addr} {items : Array Value} {Q : List Value → Shared → Prop} (calm : A.handled = none) (il : s.heap.IsList l items) (q : ∀ g, Heap.ExtBut s.heap.objs.size s.heap g → Q items.toList { s with heap := g }) :
    wpAny (model prog w) A (unpackItems (.ref l) items.size none) Q E s := by
  have apart : l ≠ s.heap.objs.size := by obtain ⟨o, ho, _⟩ := il; exact Nat.ne_of_lt (Heap.lt_size ho)
  unfold unpackItems
  refine wpAny_bind ?_
  unfold notIterableAtAll
  refine wpAny_bind (wpAny_specialOf il.typeIs slot_list_iter.lookup (wpAny_pure ?_))
  simp only [Bool.false_eq_true, if_false]
  refine wpAny_bind (wpAny_holding (wpAny_pyIter_list il ?_))
  refine wpAny_bind (wpAny_holding (draw_lst apart items.size 0 _ _ ⟨_, Heap.get?_push_size _ rfl, rfl, rfl⟩ (il.push _) (by omega) fun g1 st1 same1 => ?_))
  have whole : List.take items.size (List.drop 0 items.toList) = items.toList := by
    rw [List.drop_zero]; exact List.take_of_length_le (by simp)
  rw [whole, if_neg (by simp)]
  have il1 : g1.IsList l items := (il.push _).extBut same1.extBut apart
  refine wpAny_bind (wpAny_holding (wpAny_pyNext_list_end calm st1 il1 (by simp) fun g2 ext2 => ?_))
  simp only [Option.isSome_none, Bool.false_eq_true, if_false]
  exact wpAny_pure (q g2 fun b o hb e => ext2 b o hb (same1.extBut b o hb (Heap.get?_push_of_some _ e)))
end
def gTupL (K : PySem.W.Frag) (n : Nat) (t : TGs) : TG := fun v σ H Q => ∃ a xs, v = .ref a ∧ SqL K H a xs ∧ xs.length = n ∧ t xs σ H Q
section
variable {X : Cx} {pos : Pos}
theorem pg_tupL {es : List Expr} {k : Nat} {t : TGs} {n : Nat} (calm : X.calm = true) (h : PGs X es t) (hn : (assignEach es X.env).length = n := by rfl) (hst : (assignEach es X.env).findIdx? (·.1) = none := by rfl) : PG X (.Tuple es k pos) (gTupL X.K n t) := by
  refine ⟨fun pins s σ H v u Q I r ⟨a, xs, ev, hq, hl, z⟩ => ?_⟩
  subst ev
  cases r
  obtain ⟨its, rv, pl, hz⟩ := I.list hq
  rw [assign_Tuple]
  refine wpAny_bind (wpAny_standAt ?_)
  unfold unpack
  have hsz : (assignEach es X.env).length = its.toArray.size := by rw [hn, ← hl, rv.length, List.size_toArray]
  rw [hsz, hst]
  refine wpAny_bind (wpAny_holding (unpack_lst (I.ok.hd calm) pl.isList fun g ext => ?_))
  have I1 : Inv X pins σ H { s with heap := g } := I.kept (t' := s.toks) fun b o e => ext b o (Nat.ne_of_lt (Heap.lt_size e)) e
  exact h.run pins _ σ H xs _ Q I1 (by simpa using rv) z
end
/-! c(e, ..), c a name that holds the class at C -/
section
variable {X : Cx} {CX : CXT} {k n : Nat} {f C : Addr} {fd : FuncData} {ps ks : List Str} {sp : Sp} {E : XK} {x : Str} {p pos : Pos} {e : Expr} {es : List Expr} {t : TA} {g : List Value → List Value → List Value} {gV : List V → List V → List V}
theorem pe_makeV {i : Nat} (M : Mk X.K C f) (F : FnOk X.prog X.w X.K X.mg X.base CX k f fd ps sp) (hr : Room (k + 1) X.A) (hi : X.N[i]? = some x) (hv : Vis X.env.scope x) (hb : KBn X.K fd ps (n + 1) [] g gV) (hx : Passes CX X E) (ha : PA X (e :: es) t)
    (hd : (x == ("__debug__" : Str)) = false := by decide) (hcd : (x == ("__classdict__" : Str)) = false := by decide) (he : starEach (e :: es) X.env = (false, eval e X.env) :: starEach es X.env := by rfl) (hpl : (backTo pos (starEach es X.env)).any (·.1) = false := by rfl) :
    PE X (.Call (.Name x p) (e :: es) [] pos) (fun σ H Q => σ[i]? = some (some (.ref C)) ∧ tMakeN C n 0 sp gV E t tNil σ H Q) := by
  refine ⟨fun pins s σ H Q I ⟨h0, h⟩ => ?_⟩
  refine wpAny_Call_Name_kw (thn ((pe_var (pos := p) (i := i) hi hv hd hcd).run pins s σ H (fun v H1 => v = .ref C ∧ H1 = H) I ⟨.ref C, h0, rfl, rfl⟩) fun u s1 ⟨v, H1, I1, r1, ev, eH⟩ => ?_)
  subst ev eH
  obtain rfl : u = Value.ref C := r1
  refine PySem.W.callWith_K (h₀ := X.base) I1.ok.mod.kin M.kp (thn (ha.run pos pins s1 σ _ _ I1 h) fun us s2 ⟨vs, H2, I2, r, l1, q⟩ => ⟨I2.kIn, ?_⟩) he hpl
  obtain ⟨l2, q⟩ := q
  exact run_makeN (us := us) (ws := []) (zs := []) M F hr hb hx I2 r .nil l1 rfl q
end
/-! instances that never change, as data -/
def PiN (K : PySem.W.Frag) (C : Addr) (n : Nat) (R : List Da → List Str → List Da → Prop) : Sp := fun vs H Q _ => ∃ G a dx ws ds ns es, vs = .ref a :: ws ∧ ds.length = n ∧ Same G H ∧ G a = none ∧ H a = some (.ins C dx []) ∧ DRs K G ws ds ∧ R ds ns es ∧
  ∀ G' H', (∀ b o, b ≠ a → H b = some o → H' b = some o) → Same G G' → Same G' H' → (∀ b o, b ≠ a → H b = some o → G b = none → G' b = none) → DR K G' (.ref a) (.ins C ns es) → Q .non H'
theorem PiN.len {K : PySem.W.Frag} {C : Addr} {n : Nat} {R : List Da → List Str → List Da → Prop} (vs : List V) (H : Hp) (Q : VK) (E : XK) (h : PiN K C n R vs H Q E) : vs.length = n + 1 := by
  obtain ⟨_, a, dx, ws, ds, ns, es, rfl, hl, _, _, _, r, _⟩ := h
  rw [List.length_cons, r.len, hl]
section
variable {K : PySem.W.Frag} {σ : L2.St} {G : Hp} {tA tk te : TA} {C : Addr} {ds zs es : List Da} {ns : List Str} {E : XK}
theorem x_mkN {n m k : Nat} {R : List Da → List Str → List Da → Prop} {gV : List V → List V → List V} (h : Evs K tA σ G ds) (hk : Evs K tk σ G zs) (hm : ds.length = m) (hz : zs.length = k) (order : List Da) (ho : order.length = n)
    (hg : ∀ (a : Addr) (H' : Hp) (vs ws : List V), DRs K H' vs ds → DRs K H' ws zs → ∃ us, gV (.ref a :: vs) ws = .ref a :: us ∧ DRs K H' us order) (hR : R order ns es) : Evd K (tMakeN C m k (PiN K C n R) gV E tA tk) σ G (.ins C ns es) := fun H e Q q => h H e _ fun vs G1 H1 n1 dvs => hk.up n1.a H1 n1.b _ fun ws G2 H2 n2 dws =>
  ⟨by rw [dvs.len]; exact hm, by rw [dws.len]; exact hz, fun a dx ha hdx ne => by
    obtain ⟨us, e4, r⟩ := hg a G2 vs ws (dvs.up n2.a) dws
    rw [e4]
    have ga : G2 a = none := n2.b.free ha
    have gd : G2 dx = none := n2.b.free hdx
    have up : ∀ {b : Addr} {o : HO}, H2 b = some o → upd (upd H2 dx (.own a)) a (.ins C dx []) b = some o := fun {b o} z => by rw [upd_ne (ne_of_none z ha), upd_ne (ne_of_none z hdx)]; exact z
    refine ⟨G2, a, dx, us, order, ns, es, rfl, ho, fun b o z => up (n2.b _ _ z), ga, upd_same, r, hR, fun G' H' k1 k2 k3 k4 dd => ⟨rfl, q _ G' H' ((n1.trans n2).trans ⟨fun b o z => k1 b o (ne_of_none z ha) (up z), k2, k3, fun b o z w => k4 b o (ne_of_none z ha) (up z) w⟩) dd⟩⟩⟩
end
end GL

set_option Elab.async false
set_option linter.all false
set_option autoImplicit false
set_option maxRecDepth 100000
set_option maxHeartbeats 2000000
namespace GL
open PySem PySem.Spec PyProof.Rows L2
/-! str(x), x == y, x != y of an instance whose class has its own __str__, __eq__ -/
section
variable {X : Cx} {n : Nat} {C f : Addr} {fd : FuncData} {ps : List Str} {sp : Sp}
theorem run_at {A : Around} {pins : List (Addr × Obj)} {s : Shared} {σ : L2.St} {H : Hp} {us : List Value} {vs : List V} {Q : VK} (F : FnOk X.prog X.w X.K X.mg X.base CX0 n f fd ps sp) (hr : Room n A) (fr : A.frames = X.A.frames) (hb : Binds X.K fd ps []) (I : Inv X pins σ H s) (r : Vals vs us) (h : sp vs H Q E0)
    (E : Value → Shared → Prop) : wpAny (model X.prog X.w) A (call (.ref f) us) (EP X pins σ Q) E s := by
  have e := I.env0
  have e0 : Env0 X.prog X.w X.K X.mg X.base A X.stack s H := ⟨by rw [fr]; exact e.frames, e.mod, e.bs, e.bsz, e.funs, e.frf, e.hok, e.bare⟩
  have hl : us.length = ps.length := r.length.symm.trans (F.len _ _ _ _ h)
  have bd := hb s us I.kIn (by simpa using hl)
  rw [List.append_nil] at bd
  refine wpAny_call (codeAny_mono (F.run A X.stack s H ⟨us, []⟩ us vs Q E0 hr e0 bd r h) fun q s' z => ?_)
  cases q with
  | error er => exact False.elim z
  | ok fl => cases fl with
    | ret u => exact I.after z
    | next | brk | cont => exact z
def rStrO (C : Addr) (sp : Sp) : List V → Hp → VK → Prop := fun xs H Q => ∃ a dx fs, xs = [.ref a] ∧ H a = some (.ins C dx fs) ∧ sp [.ref a] H (fun v H' => (∃ z, v = .str z) ∧ Q v H') E0
theorem call_strO (F : FnOk X.prog X.w X.K X.mg X.base CX0 n f fd ps sp) (hs : PySem.W.findIn X.K (.ref C) "__str__" = some (some (.ref f))) (hf : PySem.W.isFn X.K (.ref f) = true) (hb : Binds X.K fd ps []) (hr : Room (n + 2) X.A) : CallR X (.type "str") (rStrO C sp) := by
  intro pins s σ H xs us Q I r h
  obtain ⟨a, dx, fs, rfl, ha, h⟩ := h
  have r0 := r
  cases r with
  | cons r1 r2 =>
    cases r2
    cases r1
    obtain ⟨mA, J, _⟩ := ins_get I.hok ha
    obtain ⟨od, J, _⟩ := J.look
    have hr2 : Room n X.A.in1.in1 := hr.in1.in1
    refine PySem.W.kso_call hr2.units0 I.kIn J hs hf (wpAny_mono (run_at (A := X.A.in1.in1) F hr2 rfl hb I r0 h X.xe) (fun u s' z => ?_) fun _ _ e => e)
    obtain ⟨v, H', I', rv, ⟨z, rfl⟩, q⟩ := z
    obtain ⟨t, rfl⟩ := rv
    exact ⟨.str z, H', I', ⟨t, rfl⟩, q⟩
/-- the class at C has its own __eq__ at f, and the built-in __ne__ -/
structure EqK (K : PySem.W.Frag) (C f : Addr) : Prop where
  cls : ∃ nm q N bs hd sn sub ab col dd k0 k1 k2 k3 k5 nid, K.lookup C = some (excClassObj nm q C N bs [.type "object"] hd sn sub ab col dd k0 k1 k2 k3 k5 nid) ∧ PySem.W.nsOkIn K N = true ∧ PySem.W.nsIn K N "__eq__" = some (some (.ref f)) ∧ PySem.W.nsIn K N "__ne__" = some none
  fn : PySem.W.isFn K (.ref f) = true
theorem ns_at {K : PySem.W.Frag} {h : Heap} {N : Addr} {m : Str → Option Value} {x : Str} {v : Value} (X : K.In h) (G : h.Ns N m) (e : PySem.W.nsIn K N x = some (some v)) : m x = some v := by
  obtain ⟨o, es, ep, ho, hd, _, hf⟩ := G
  unfold PySem.W.nsIn at e
  split at e
  · next q =>
    have z := X _ _ q
    rw [ho] at z
    cases z
    cases hd
    split at e
    · next he =>
      cases e
      rw [← hf]
      unfold nsFind findBy
      rw [← Array.find?_toList, he]
      rfl
    · split at e <;> cases e
  · cases e
def rNeO (C : Addr) (sp : Sp) : R2 := fun x y H Q => ∃ a dx fs b dy gs, x = .ref a ∧ y = .ref b ∧ H a = some (.ins C dx fs) ∧ H b = some (.ins C dy gs) ∧ sp [.ref a, .ref b] H (fun v H' => ∃ k, v = .bl k ∧ Q (.bl (!k)) H') E0
theorem op_neO (F : FnOk X.prog X.w X.K X.mg X.base CX0 n f fd ps sp) (k : EqK X.K C f) (hb : Binds X.K fd ps []) (hr : Room (n + 1) X.A) : OpR X (compareOp .NotEq) (rNeO C sp) := by
  intro pins s σ H x y v u Q I rx ry h
  obtain ⟨a, dx, fs, b, dy, gs, rfl, rfl, ha, hb', h⟩ := h
  cases rx
  cases ry
  obtain ⟨mA, J, _⟩ := ins_get I.hok ha
  obtain ⟨mB, J', _⟩ := ins_get I.hok hb'
  obtain ⟨od, J, _⟩ := J.look
  obtain ⟨od', J', _⟩ := J'.look
  obtain ⟨nm, q, N, bs, hd, sn, sub, ab, col, dd, k0, k1, k2, k3, k5, nid, lC, nsO, eqN, neN⟩ := k.cls
  have KI := I.kIn
  have hr1 : Room n X.A.in1 := hr.in1
  have ns : s.heap.Ns N (s.heap.nsMap N) := .of_isNs (PySem.W.isNs_of_in KI nsO)
  have fnO := beq_iff_eq.mp k.fn
  obtain ⟨of, lf, cf⟩ : ∃ of, X.K.lookup f = some of ∧ of.cls = .type "function" := by
    have z : (X.K.lookup f).map (·.cls) = some (.type "function") := fnO
    obtain ⟨of, z1, z2⟩ := Option.map_eq_some_iff.mp z
    exact ⟨of, z1, z2⟩
  obtain ⟨hp, g, d, t, os⟩ := s
  obtain ⟨y0, hy0⟩ : ∃ y0, typeLookup (.type "object") "__eq__" = pure y0 := ⟨_, PySem.F.cmp_object.eq.lookup⟩
  have O : hp.OwnEqNoNe a C f "object" [.type "object"] := ⟨_, of, nm, q, N, bs, hd, sn, sub, ab, col, dd, k0, k1, k2, k3, k5, nid, hp.nsMap N, y0, J.1, J.cls, KI _ _ lC, ns, ns_at KI ns eqN, KI _ _ lf, cf, PySem.F.cmp_object.mro, hy0, PySem.W.ns_none_of KI ns neN⟩
  refine compareOp_ne_ownEq PySem.F.cmp_object O J'.1 J'.cls (Nat.lt_of_le_of_lt (Nat.add_le_add_left (by decide : 1 ≤ 64) _) hr.units) (wpAny_mono (run_at (A := X.A.in1) (us := [.ref a, .ref b]) (vs := [.ref a, .ref b]) F hr1 rfl hb I (.cons rfl (.cons rfl .nil)) h X.xe) (fun r s' z => ?_) fun _ _ e => e)
  obtain ⟨v, H', I', rv, kk, rfl, qq⟩ := z
  cases rv
  exact ⟨kk, rfl, .bl (!kk), H', I', rfl, qq⟩
end
end GL

set_option Elab.async false
set_option linter.all false
set_option autoImplicit false
set_option maxRecDepth 100000
set_option maxHeartbeats 2000000
namespace GL
open PySem PySem.Spec PyProof.Rows L2
/-! C.m(k = v, ..), m a classmethod of the class at C -/
def tCMethK (C : Addr) (m : Nat) (sp : Sp) (gV : List V → List V → List V) (E : XK) (ta : TE) (tk : TA) : TE := fun σ H Q => ta σ H fun x H1 => x = .ref C ∧ tk σ H1 fun zs H2 => zs.length = m ∧ sp (gV [.ref C] zs) H2 Q E
section
variable {X : Cx} {CX : CXT} {k : Nat} {C p g : Addr} {fd : FuncData} {ps ks : List Str} {mc : Value} {sp : Sp} {E : XK} {o : Expr} {kws : List Keyword} {m : Str} {pos apos : Pos} {ta : TE} {tk : TA} {pl : Sem Bool} {gv : List Value → List Value → List Value} {gV : List V → List V → List V}
theorem pe_cmethK0 (he : PE X o ta) (r : ClX.CRead X.K C mc) (c : ClX.CMet X.K C mc m p g) (F : FnOk X.prog X.w X.K X.mg X.base CX k g fd ps sp) (hb : KBn X.K fd ps 1 ks gv gV) (hr : Room k X.A) (hx : Passes CX X E) (hkw : PK X kws tk)
    (hall : (backToKw pos (keywordEach kws X.env)).all (·.1.isSome) = true := by rfl) (hks : (backToKw pos (keywordEach kws X.env)).filterMap (·.1) = ks := by rfl) (hpl : ((backTo pos (starEach [] X.env)).any (·.1) || (backToKw pos (keywordEach kws X.env)).any (·.1.isNone)) = false := by rfl)
    (ht : eval (.Call (.Attribute o m apos) [] kws pos) X.env = (do
      let ov ← eval o X.env
      standAt apos.atName
      let (f, first) ← holding [ov] (getMethod ov m pl)
      callWith pos f first (backTo pos (starEach [] X.env)) (backToKw pos (keywordEach kws X.env))) := by rfl) :
    PE X (.Call (.Attribute o m apos) [] kws pos) (tCMethK C ks.length sp gV E ta tk) := by
  refine ⟨fun pins s σ H Q I h => ?_⟩
  refine PySem.W.methodCall_KW (pl := pl) (thn (he.run pins s σ H _ I h) fun u s1 ⟨x, H1, I1, rx, ex, q⟩ => ?_) ht
  subst ex
  obtain rfl : u = Value.ref C := rx
  refine ClX.getmethcm_ok I1 r c fun s2 I2 => ?_
  refine PySem.W.callWith_of (P := PySem.W.MethP X.K s1.heap.objs.size g (.ref C)) hpl (PySem.W.keeps_M c.fi) ?_
  refine evalArgs_kw2_nil hall ?_
  refine thn (hkw.run pos _ s2 σ H1 _ I2 q) fun ws s3 ⟨zs, H2, I3, rz, l2, q2⟩ => ⟨⟨ClX.pin_at I3, I3.kIn⟩, ?_⟩
  rw [hks]
  have l3 : ws.length = ks.length := rz.length.symm.trans l2
  have rel := hb.rel (vs := [.ref C]) (us := [.ref C]) (.cons rfl .nil) rz
  have z : wpAny (model X.prog X.w) X.A (call (.ref s1.heap.objs.size) ([] ++ []) (ks.zip ws)) (EP X ((s1.heap.objs.size, PySem.W.methodObj (.ref g) (.ref C)) :: pins) σ Q) X.xe s3 := by
    refine wpAny_call (PySem.W.method_call (ClX.pin_at I3) (codeAny_mono (F.run X.A X.stack s3 H2 ⟨[.ref C], ks.zip ws⟩ (gv [.ref C] ws) (gV [.ref C] zs) Q E hr I3.env0 (hb.to s3 [.ref C] ws I3.kIn rfl l3) rel q2) fun q s' z => ?_))
    cases q with
    | error er => exact hx _ σ H2 s3 er s' I3 z
    | ok fl => cases fl with
      | ret u => exact I3.after z
      | next | brk | cont => exact z
  exact thn z fun _ _ y => ClX.unpinE y
end
end GL

set_option Elab.async false
set_option linter.all false
set_option autoImplicit false
set_option maxRecDepth 100000
set_option maxHeartbeats 2000000
namespace GL
open PySem PySem.Spec PyProof.Rows L2
/-- what isinstance asks of the class at C of an instance -/
structure InC (K : PySem.W.Frag) (C : Addr) : Prop where
  cl : Cls K C
  ha : PySem.W.findIn K (.ref C) "__class__" = some (some (.builtin "object.__class__"))
  hn : PySem.W.specialIn K (.builtin "object.__class__") "__get__" = some (some (.builtin "getset_descriptor.__get__"))
  ht : PySem.W.takesIn K (.builtin "object.__class__") = some true
  hm : PySem.W.mroIn K C (.type "object") = some true
section
variable {K : PySem.W.Frag} {σ : L2.St} {G : Hp} {te ta tb : TE} {d c : Da} {ds : List Da} {ns : List Str} {C : Addr} {f : Str} {b : Bool} {cv : Value}
/-- e.f of an instance -/
theorem ed_fld (h : Evd K te σ G (.ins C ns ds)) (cl : Cls K C) (na : NoAttr K C f) (i : Nat) (hd : ds[i]? = some d) (hl : ∀ vs : List V, ns.length = vs.length → List.lookup f (ns.zip vs) = vs[i]?) : Evd K (tFld K te f) σ G d := fun H e Q q => h H e _ fun v G1 H1 n1 dv => by
  cases dv with
  | @ins a _ dx _ vs _ h1 h2 h3 =>
    obtain ⟨w, e1, e2⟩ := h3.getD hd
    exact ⟨a, C, dx, _, w, rfl, n1.b _ _ h1, cl, na, (hl vs h2).trans e1, q w G1 H1 n1 e2⟩
/-- isinstance(e, c) of an instance -/
theorem ed_isC (h : Evd K te σ G (.ins C ns ds)) (hc : Evd K ta σ G c) (kc : ∀ H' v, DR K H' v c → ClsV v cv) (T : InC K C) (hk : PySem.W.kitOne K (.ref C) cv = some b) : Evd K (tCB (rIsi K) (tCons te (tCons ta tNil))) σ G (.bl b) := fun H e Q q => h H e _ fun v G1 H1 n1 dv => hc.up n1.a H1 n1.b _ fun w G2 H2 n2 dw => by
  have dv := dv.up n2.a
  cases dv with
  | @ins a _ dx _ vs _ h1 h2 h3 => exact ⟨.ref a, w, .ref C, cv, b, rfl, kc G2 w dw, .base (.ins (n2.b _ _ h1) T.cl T.ha T.hn T.ht T.hm), hk, q _ G2 H2 (n1.trans n2) (.bl b)⟩
/-- the parts of an f-string -/
inductive EvJ (K : PySem.W.Frag) (σ : L2.St) (G : Hp) : List TE → List Str → Prop where
  | nil : EvJ K σ G [] []
  | cons {t : TE} {y : Str} {ts : List TE} {ys : List Str} (h : Evd K t σ G (.str y)) (r : EvJ K σ G ts ys) : EvJ K σ G (t :: ts) (y :: ys)
theorem str_len (x y : Str) : (x ++ y).length = x.length + y.length := Str.length_append x y
theorem js_run : ∀ {ts : List TE} {ys : List Str}, EvJ K σ G ts ys → ∀ (acc : Str), acc.length + (ys.map (·.length)).sum ≤ 1000 → ∀ (G1 H1 : Hp), Same G G1 → Same G1 H1 → ∀ (R : Str → Hp → Prop), (∀ G2 H2, Nw G1 H1 G2 H2 → R (ys.foldl (· ++ ·) acc) H2) → tJs ts acc σ H1 R
  | _, _, .nil, acc, hz, G1, H1, s0, s, R, q => q G1 H1 (Nw.refl s)
  | _, _, .cons (y := y) (ys := ys) h r, acc, hz, G1, H1, s0, s, R, q => by
    rw [List.map_cons, List.sum_cons] at hz
    refine h.up s0 H1 s _ fun v G2 H2 n dv => ?_
    cases dv
    refine ⟨y, rfl, sizeK (by rw [str_len]; omega), js_run r (acc ++ y) (by rw [str_len]; omega) G2 H2 (s0.trans n.a) n.b R fun G3 H3 n3 => q G3 H3 (n.trans n3)⟩
theorem ed_js {ts : List TE} {ys : List Str} (h : EvJ K σ G ts ys) (hz : (ys.map (·.length)).sum ≤ 1000) : Evd K (fun σ H Q => tJs ts Str.empty σ H fun out H1 => Q (.str out) H1) σ G (.str (ys.foldl (· ++ ·) Str.empty)) := fun H e Q q =>
  js_run h Str.empty (by have : Str.empty.length = 0 := rfl; omega) G H (Same.refl _) e _ fun G2 H2 n => q _ G2 H2 n (.str _)
theorem ed_fmtS {y : Str} (h : Evd K te σ G (.str y)) (hz : y.length ≤ 1000) : Evd K (tFmt te) σ G (.str y) := fun H e Q q => h H e _ fun v G1 H1 n1 dv => by
  cases dv
  exact .inl ⟨y, rfl, sizeK hz, q _ G1 H1 n1 (.str y)⟩
theorem ed_fmtI {i : Int} (h : Evd K te σ G (.int i)) (hi : i.natAbs.log2 < 1920) : Evd K (tFmt te) σ G (.str (toString i)) := fun H e Q q => h H e _ fun v G1 H1 n1 dv => by
  cases dv
  exact .inr ⟨i, rfl, hi, q _ G1 H1 n1 (.str _)⟩
end
end GL

set_option Elab.async false
set_option linter.all false
set_option autoImplicit false
set_option maxRecDepth 100000
set_option maxHeartbeats 2000000
namespace GL
open PySem PySem.Spec PyProof.Rows L2
/-- isinstance of what is of a built-in kind against an own class -/
theorem ed_isB {K : PySem.W.Frag} {σ : L2.St} {G : Hp} {ta tb : TE} {d : Da} {t : String} {C : Addr} {b : Bool} (h : Evd K ta σ G d) (hc : Evd K tb σ G (.obj C)) (ht : tyD d = some t) (hk : PySem.W.kitOne K (.type t) (.ref C) = some b) : Evd K (tCB (rIsi K) (tCons ta (tCons tb tNil))) σ G (.bl b) := fun H e Q q => h H e _ fun v G1 H1 n1 dv => hc.up n1.a H1 n1.b _ fun w G2 H2 n2 dw => by
  cases dw
  exact ⟨v, .ref C, .type t, .ref C, b, rfl, .own C, ty_of ((dv.up n2.a).up n2.b) ht, hk, q _ G2 H2 (n1.trans n2) (.bl b)⟩
end GL

set_option Elab.async false
set_option linter.all false
set_option maxRecDepth 100000
set_option maxHeartbeats 4000000
namespace K02
open PySem PySem.Spec PyProof.Rows L2 GL
def top (i : Nat) : Stmt := PySem.Challenge.pw_emptypulls_k02_rates_made_and_written.main.body.getD i (.Pass ⟨0, 0, 0, 0⟩)
abbrev sCopied : Stmt := top 12
/-- what may be copied, n lists deep -/
def cp : Nat → Da → Bool
  | 0, _ => false
  | _ + 1, .non | _ + 1, .bl _ | _ + 1, .int _ | _ + 1, .str _ => true
  | n + 1, .lst ds => ds.all (cp n) && decide (ds.length ≤ 1000)
  | n + 1, .tup ds => ds.all (cp n) && decide (ds.length ≤ 1000)
  | n + 1, .dct ks ds => ds.all (fun d => flatD d && cp n d) && decide (ks.Nodup ∧ ks.length ≤ 1000)
  | _ + 1, _ => false
def gC (n : Nat) : List Da → Option Da
  | [d] => if cp n d = true then some d else none
  | _ => none
theorem gC_of {n : Nat} {d : Da} (h : cp n d = true) : gC n [d] = some d := if_pos h
theorem of_gC {n : Nat} {ds : List Da} {d : Da} (h : gC n ds = some d) : ds = [d] ∧ cp n d = true := by
  match ds, h with
  | [e], h =>
    have h : (if cp n e = true then some e else none) = some d := h
    by_cases q : cp n e = true
    · rw [if_pos q] at h; cases h; exact ⟨rfl, q⟩
    · rw [if_neg q] at h; cases h
theorem cp_flat {n : Nat} {d : Da} (h : flatD d = true) : cp (n + 1) d = true := by
  cases d <;> first | rfl | cases h
structure TC (K : PySem.W.Frag) (mg : Str → Option Value) (fC : Addr) : Prop where
  tw : ∃ CW, mg "Twinned" = some (.ref CW) ∧ (["NoneType", "bool", "int", "str"] : List String).all (fun T => decide (PySem.W.kitOne K (.type T) (.ref CW) = some false)) = true
  isi : mg "isinstance" = none
  list : mg "list" = none
  tuple : mg "tuple" = none
  dict : mg "dict" = none
  mC : mg "copied" = some (.ref fC)
theorem scC : FnScope ["value", "part", "key"] ["value"] (defScope sCopied) := ⟨rfl, rfl, rfl, by decide +kernel, rfl, by decide +kernel, by decide +kernel⟩
section
variable {P : Program} {w : World} {K : PySem.W.Frag} {mg : Str → Option Value} {base : Heap}
theorem t_isi {σ : L2.St} {G : Hp} {i : Nat} {v : V} {d : Da} {t T : String} {b : Bool} (hv : σ[i]? = some (some v)) (dv : DR K G v d) (ht : tyD d = some t) (hk : kitB t T = some b) : Evt (L2.tB (tCB (rIsi K) (tCons (tVar i) (tCons (tC (.ty T)) tNil)))) σ G b :=
  et_B (ed_isi (ed_var hv dv) ht hk)
theorem ok_copied {f : Addr} {fd : FuncData} (F : Fun K "copied" "copied" sCopied f fd) (bC : Binds K fd ["value"] []) (T : TC K mg f) : ∀ n, FnOk P w K mg base CX0 (n + 1) f fd ["value"] (Pd K 1 (gC n))
  | 0 => ⟨Pd.len, fun A outer s H args us vs Q E hr e0 bd rv h => by
      obtain ⟨G, ds, d, _, _, _, hg, _⟩ := h
      have z := (of_gC hg).2
      unfold cp at z
      cases z⟩
  | n + 1 => by
    have FR := ok_copied F bC T n
    obtain ⟨CW, mW, kW⟩ := T.tw
    have kw : ∀ t : String, t ∈ (["NoneType", "bool", "int", "str"] : List String) → PySem.W.kitOne K (.type t) (.ref CW) = some false := fun t ht => of_decide_eq_true (List.all_eq_true.mp kW t ht)
    refine F.ok scC Pd.len fun cdv A outer s H vs Q E hr h => ?_
    obtain ⟨G, ds, d, hs, hl, hd, hg, k⟩ := h
    obtain ⟨rfl, hcp⟩ := of_gC hg
    cases hd with
    | @cons v _ _ _ dv r =>
      cases r
      refine ⟨_, pss_cons (ps_if (pt_val (pe_callB call_isi (by rfl) T.isi PyProof.Rows.boot_isinstance (pa_cons (pv 0) (pa_cons (pe_bltn (v := .ty "list") rfl T.list (by decide +kernel) rfl) pa_nil))))
          (pss_one (ps_ret (pe_lc (own := [("part", 1)]) (g := gName 1) (tt := tYes) rfl scC.nd (pi_list (pv 0)) (blkOk_by (N := ["value", "part", "key"]) (sc := defScope sCopied) (by decide +kernel)) (fun _ _ _ _ _ => pg_name (i := 1) scC.nd rfl (Or.inl rfl)) (fun _ _ _ _ _ => pts_nil)
            (fun _ _ _ _ _ => pe_call FR hr rfl T.mC F.kp bC .nil pass0 (pa_cons (pv 1) pa_nil))))) pss_nil)
        (pss_cons (ps_if (pt_val (pe_callB call_isi (by rfl) T.isi PyProof.Rows.boot_isinstance (pa_cons (pv 0) (pa_cons (pe_bltn (v := .ty "tuple") rfl T.tuple (by decide +kernel) rfl) pa_nil))))
          (pss_one (ps_ret (pe_callTy call_tuple_of (by rfl) T.tuple (by decide +kernel) (pa_cons (pe_lc (own := [("part", 1)]) (g := gName 1) (tt := tYes) rfl scC.nd (pi_tup (pv 0)) (blkOk_by (N := ["value", "part", "key"]) (sc := defScope sCopied) (by decide +kernel)) (fun _ _ _ _ _ => pg_name (i := 1) scC.nd rfl (Or.inl rfl)) (fun _ _ _ _ _ => pts_nil)
            (fun _ _ _ _ _ => pe_call FR hr rfl T.mC F.kp bC .nil pass0 (pa_cons (pv 1) pa_nil))) pa_nil)))) pss_nil)
        (pss_cons (ps_if (pt_val (pe_callB call_isi (by rfl) T.isi PyProof.Rows.boot_isinstance (pa_cons (pv 0) (pa_cons (pe_bltn (v := .ty "dict") rfl T.dict (by decide +kernel) rfl) pa_nil))))
          (pss_one (ps_ret (pe_lock (pe_dc (own := [("key", 2)]) (g := gName 2) (tt := tYes) rfl scC.nd (pi_keys (pv 0)) (blkOk_by (N := ["value", "part", "key"]) (sc := defScope sCopied) (by decide +kernel)) (fun _ _ _ _ _ => pg_name (i := 2) scC.nd rfl (Or.inl rfl)) (fun _ _ _ _ _ => pts_nil)
            (fun _ _ _ _ _ => pv 2) (fun _ _ _ _ _ => pe_call FR hr rfl T.mC F.kp bC .nil pass0 (pa_cons (pe_dget (hu_of hr) (pv 0) (pv 2) (fun _ _ => rfl)) pa_nil)))))) pss_nil)
        (pss_cons (ps_if (pt_val (pe_callB call_isi (by rfl) T.isi PyProof.Rows.boot_isinstance (pa_cons (pv 0) (pa_cons (pe_own mW rfl) pa_nil)))) (pss_one ps_never) pss_nil)
        (pss_one (ps_ret (pv 0)))))), ?_⟩
      have no : ∀ {t T : String} {G1 H1 : Hp} {tu tz : TS} {D : Ends}, Nw G H G1 H1 → tyD d = some t → kitB t T = some false → (∀ G2 H2, Nw G H G2 H2 → tz D [some v, none, none] H2) →
          tSeq (tIfS (L2.tB (tCB (rIsi K) (tCons (tVar 0) (tCons (tC (.ty T)) tNil)))) tu tNext) tz D [some v, none, none] H1 := fun n1 ht hk go =>
        qd_if n1.b (t_isi rfl (dv.up n1.a) ht hk) (fun z => nomatch z) fun _ G2 H2 n2 => go G2 H2 (n1.trans n2)
      have yes : ∀ {t T : String} {G1 H1 : Hp} {tu tz : TS} {D : Ends}, Nw G H G1 H1 → tyD d = some t → kitB t T = some true → (∀ G2 H2, Nw G H G2 H2 → tu { D with nx := tz D } [some v, none, none] H2) →
          tSeq (tIfS (L2.tB (tCB (rIsi K) (tCons (tVar 0) (tCons (tC (.ty T)) tNil)))) tu tNext) tz D [some v, none, none] H1 := fun n1 ht hk go =>
        qd_if n1.b (t_isi rfl (dv.up n1.a) ht hk) (fun _ G2 H2 n2 => go G2 H2 (n1.trans n2)) fun z => nomatch z
      have noC : ∀ {t : String} {G1 H1 : Hp} {tu tz : TS} {D : Ends}, Nw G H G1 H1 → tyD d = some t → PySem.W.kitOne K (.type t) (.ref CW) = some false → (∀ G2 H2, Nw G H G2 H2 → tz D [some v, none, none] H2) →
          tSeq (tIfS (L2.tB (tCB (rIsi K) (tCons (tVar 0) (tCons (tC (.ref CW)) tNil)))) tu tNext) tz D [some v, none, none] H1 := fun n1 ht hk go =>
        qd_if n1.b (et_B (K := K) (ed_isB (ed_var rfl (dv.up n1.a)) (ed_c fun _ => .obj CW) ht hk)) (fun z => nomatch z) fun _ G2 H2 n2 => go G2 H2 (n1.trans n2)
      have n0 : Nw G H G H := Nw.refl hs
      have each : ∀ {ds : List Da}, (∀ e ∈ ds, cp n e = true) → ∀ {G2 : Hp} (x : V) (e : Da), e ∈ ds → DR K G2 x e → Evd K (tCall (Pd K 1 (gC n)) [] E0 (tCons (tVar 1) tNil)) [some v, some x, none] G2 e := @fun ds hall G2 x e he dx =>
        ed_call (xs_cons (ed_var rfl dx) es_nil) rfl (gC_of (hall e he))
      have all1 : ∀ {ds : List Da}, (ds.filter fun _ => true).map id = ds := by intro ds; simp
      cases d with
      | non => exact no n0 rfl (by decide +kernel) fun G1 H1 n1 => no n1 rfl (by decide +kernel) fun G2 H2 n2 => no n2 rfl (by decide +kernel) fun G3 H3 n3 => noC n3 rfl (kw _ (by simp)) fun G4 H4 n4 => ret_d k n4 (ed_var rfl (dv.up n4.a)) rfl
      | bl b => exact no n0 rfl (by decide +kernel) fun G1 H1 n1 => no n1 rfl (by decide +kernel) fun G2 H2 n2 => no n2 rfl (by decide +kernel) fun G3 H3 n3 => noC n3 rfl (kw _ (by simp)) fun G4 H4 n4 => ret_d k n4 (ed_var rfl (dv.up n4.a)) rfl
      | int i => exact no n0 rfl (by decide +kernel) fun G1 H1 n1 => no n1 rfl (by decide +kernel) fun G2 H2 n2 => no n2 rfl (by decide +kernel) fun G3 H3 n3 => noC n3 rfl (kw _ (by simp)) fun G4 H4 n4 => ret_d k n4 (ed_var rfl (dv.up n4.a)) rfl
      | str x => exact no n0 rfl (by decide +kernel) fun G1 H1 n1 => no n1 rfl (by decide +kernel) fun G2 H2 n2 => no n2 rfl (by decide +kernel) fun G3 H3 n3 => noC n3 rfl (kw _ (by simp)) fun G4 H4 n4 => ret_d k n4 (ed_var rfl (dv.up n4.a)) rfl
      | lst ds =>
        simp only [cp, Bool.and_eq_true, List.all_eq_true, decide_eq_true_eq] at hcp
        refine yes n0 rfl (by decide +kernel) fun G1 H1 n1 => ret_d k n1 (ed_is (ed_lc (fun _ => true) id (ed_var rfl (dv.up n1.a)) hcp.2 fun x e G2 H2 s1 s2 he dx => ⟨[some v, some x, none], fun k h => h, rfl, et_yes, fun _ G3 s3 => each hcp.1 x e he (dx.up s3)⟩) (by rw [all1])) rfl
      | tup ds =>
        simp only [cp, Bool.and_eq_true, List.all_eq_true, decide_eq_true_eq] at hcp
        refine no n0 rfl (by decide +kernel) fun G0 H0 n0 => yes n0 rfl (by decide +kernel) fun G1 H1 n1 => ret_d k n1 (ed_tupL (ed_is (ed_lcT (fun _ => true) id (ed_var rfl (dv.up n1.a)) hcp.2 fun x e G2 H2 s1 s2 he dx => ⟨[some v, some x, none], fun k h => h, rfl, et_yes, fun _ G3 s3 => each hcp.1 x e he (dx.up s3)⟩) (by rw [all1]))) rfl
      | dct ks ds =>
        simp only [cp, Bool.and_eq_true, List.all_eq_true, decide_eq_true_eq] at hcp
        refine no n0 rfl (by decide +kernel) fun G0 H0 n0 => no n0 rfl (by decide +kernel) fun G3 H3 n3 => yes n3 rfl (by decide +kernel) fun G1 H1 n1 => ret_d k n1 (ed_dcopy rfl (dv.up n1.a) hcp.2.1 (fun e he => ⟨(hcp.1 e he).1, gC_of (hcp.1 e he).2⟩) hcp.2.2 (fun _ => rfl) (fun _ => rfl) (fun _ => rfl)) rfl
      | _ => cases hcp
end
def gI : List Da → Option (List Da)
  | [d] => if cp 3 d = true then some [d] else none
  | _ => none
theorem gI1 {d : Da} (h : cp 3 d = true) : gI [d] = some [d] := if_pos h
theorem of_gI1 {d : Da} {es : List Da} (h : gI [d] = some es) : cp 3 d = true ∧ es = [d] := by
  have h : (if cp 3 d = true then some [d] else none) = some es := h
  by_cases q : cp 3 d = true
  · rw [if_pos q] at h; cases h; exact ⟨q, rfl⟩
  · rw [if_neg q] at h; cases h
abbrev sI_BadRate : Stmt := inClass (top 16) 0
theorem sc_BadRate : FnScope ["self", "part"] ["self", "part"] (defScope sI_BadRate) := ⟨rfl, rfl, rfl, by decide +kernel, rfl, by decide +kernel, by decide +kernel⟩
theorem ok_BadRate {P : Program} {w : World} {K : PySem.W.Frag} {mg : Str → Option Value} {base : Heap} {f C fC : Addr} {fd fdC : FuncData} (F : Fun K "__init__" "BadRate.__init__" sI_BadRate f fd) (T : TC K mg fC) (FC : Fun K "copied" "copied" sCopied fC fdC) (bC : Binds K fdC ["value"] []) (O : OexC K C) (n0 : PySem.W.findIn K (.ref C) "part" = some none) :
    FnOk P w K mg base CX0 5 f fd ["self", "part"] (Pk K C 1 ["part"] gI) := by
  refine F.ok sc_BadRate Pk.len fun cdv A outer s H vs Q E hr h => ?_
  have GC := ok_copied (P := P) (w := w) (base := base) FC bC T 3
  obtain ⟨G, a, ws, ds, es, rfl, hl, hs, ga, ha, hd, hg, k⟩ := h
  match ds, hl, hd, hg with
  | [d], _, .cons dv .nil, hg =>
    obtain ⟨hc, rfl⟩ := of_gI1 hg
    exact ⟨_, pss_one (ps_ost (pv 0) (pe_call GC hr rfl T.mC FC.kp bC .nil pass0 (pa_cons (pv 1) pa_nil))), rk_init1 hs ga ha dv O n0 (gC_of hc) k rfl⟩
def gT : List Da → Option (List Da)
  | [d, e] => if cp 3 d = true ∧ cp 3 e = true then some [e, d] else none
  | _ => none
theorem gT2 {d e : Da} (h : cp 3 d = true) (h2 : cp 3 e = true) : gT [d, e] = some [e, d] := if_pos ⟨h, h2⟩
theorem of_gT2 {d e : Da} {es : List Da} (h : gT [d, e] = some es) : cp 3 d = true ∧ cp 3 e = true ∧ es = [e, d] := by
  have h : (if cp 3 d = true ∧ cp 3 e = true then some [e, d] else none) = some es := h
  by_cases q : cp 3 d = true ∧ cp 3 e = true
  · rw [if_pos q] at h; cases h; exact ⟨q.1, q.2, rfl⟩
  · rw [if_neg q] at h; cases h
abbrev sI_BadText : Stmt := inClass (top 17) 0
theorem sc_BadText : FnScope ["self", "line", "word"] ["self", "line", "word"] (defScope sI_BadText) := ⟨rfl, rfl, rfl, by decide +kernel, rfl, by decide +kernel, by decide +kernel⟩
theorem ok_BadText {P : Program} {w : World} {K : PySem.W.Frag} {mg : Str → Option Value} {base : Heap} {f C fC : Addr} {fd fdC : FuncData} (F : Fun K "__init__" "BadText.__init__" sI_BadText f fd) (T : TC K mg fC) (FC : Fun K "copied" "copied" sCopied fC fdC) (bC : Binds K fdC ["value"] []) (O : OexC K C) (n0 : PySem.W.findIn K (.ref C) "line" = some none) (n1 : PySem.W.findIn K (.ref C) "word" = some none) :
    FnOk P w K mg base CX0 5 f fd ["self", "line", "word"] (Pk K C 2 ["word", "line"] gT) := by
  refine F.ok sc_BadText Pk.len fun cdv A outer s H vs Q E hr h => ?_
  have GC := ok_copied (P := P) (w := w) (base := base) FC bC T 3
  obtain ⟨G, a, ws, ds, es, rfl, hl, hs, ga, ha, hd, hg, k⟩ := h
  match ds, hl, hd, hg with
  | [d, e], _, .cons dv (.cons dv2 .nil), hg =>
    obtain ⟨hc, hc2, rfl⟩ := of_gT2 hg
    exact ⟨_, pss_cons (ps_ost (pv 0) (pe_call GC hr rfl T.mC FC.kp bC .nil pass0 (pa_cons (pv 1) pa_nil))) (pss_one (ps_ost (pv 0) (pe_call GC hr rfl T.mC FC.kp bC .nil pass0 (pa_cons (pv 2) pa_nil)))), rk_init2 hs ga ha dv dv2 O n0 n1 (gC_of hc) (gC_of hc2) k rfl⟩
end K02

set_option Elab.async false
set_option linter.all false
set_option maxRecDepth 100000
set_option maxHeartbeats 2000000
namespace GL
open PySem PySem.Spec PyProof.Rows L2
/-! the pen of a law: a list of the cells (a list of ints at c), the number of the next cell, what is left of a great one -/
structure PenAt (H : Hp) (P c : Addr) (ns : List Int) (k g : Int) : Prop where
  hp : H P = some (.lst [.ref c, .int k, .int g])
  hc : H c = some (.lst (ns.map V.int))
  ne : c ≠ P
  k0 : 0 ≤ k
  g0 : 0 ≤ g
/-- all stays but what stands at P -/
def But (P : Addr) (H H' : Hp) : Prop := ∀ b o, b ≠ P → H b = some o → H' b = some o
theorem But.refl (P : Addr) (H : Hp) : But P H H := fun _ _ _ e => e
theorem But.trans {P : Addr} {H H1 H2 : Hp} (x : But P H H1) (y : But P H1 H2) : But P H H2 := fun b o n e => y b o n (x b o n e)
theorem Same.but {P : Addr} {H H' : Hp} (x : Same H H') : But P H H' := fun b o _ e => x b o e
theorem But.same {P : Addr} {G H H' : Hp} (x : But P H H') (s : Same G H) (g : G P = none) : Same G H' := fun b o e => x b o (ne_of_none e g) (s b o e)
theorem But.upd {P : Addr} {H : Hp} {o : HO} : But P H (upd H P o) := fun b u n e => by rw [upd_ne n]; exact e
theorem PenAt.same {H H' : Hp} {P c : Addr} {ns : List Int} {k g : Int} (h : PenAt H P c ns k g) (s : Same H H') : PenAt H' P c ns k g := ⟨s _ _ h.hp, s _ _ h.hc, h.ne, h.k0, h.g0⟩
theorem PenAt.put {H : Hp} {P c : Addr} {ns : List Int} {k g k' g' : Int} (h : PenAt H P c ns k g) (h1 : 0 ≤ k') (h2 : 0 ≤ g') : PenAt (L2.upd H P (.lst [.ref c, .int k', .int g'])) P c ns k' g' :=
  ⟨upd_same, by rw [upd_ne h.ne]; exact h.hc, h.ne, h1, h2⟩
structure NwP (P : Addr) (G H G' H' : Hp) : Prop where
  s : But P H H'
  a : Same G G'
  b : Same G' H'
  n : ∀ p o, H p = some o → G p = none → G' p = none
theorem Nw.p {P : Addr} {G H G' H' : Hp} (x : Nw G H G' H') : NwP P G H G' H' := ⟨Same.but x.s, x.a, x.b, x.n⟩
theorem NwP.trans {P : Addr} {G H G' H' G2 H2 : Hp} (x : NwP P G H G' H') (y : NwP P G' H' G2 H2) (hp : ∀ o, H P = some o → ∃ u, H' P = some u) : NwP P G H G2 H2 :=
  ⟨x.s.trans y.s, x.a.trans y.a, x.b |> fun _ => y.b, fun p o e z => by
    by_cases q : p = P
    · subst q
      obtain ⟨u, hu⟩ := hp o e
      exact y.n _ u hu (x.n _ o e z)
    · exact y.n p o (x.s p o q e) (x.n p o e z)⟩
/-! ints, nothing in the heap changes -/
section
variable {K : PySem.W.Frag} {σ : L2.St} {H : Hp} {ta tb : TE} {i j : Int} {b : Bool}
theorem vi_add (ha : Val ta σ H (.int i)) (hb : Val tb σ H (.int j)) : Val (tOp (rI0 fun i j => .int (i + j)) ta tb) σ H (.int (i + j)) := val_op ha hb fun Q q => ⟨i, j, rfl, rfl, q⟩
theorem vi_sub (ha : Val ta σ H (.int i)) (hb : Val tb σ H (.int j)) : Val (tOp (rI0 fun i j => .int (i - j)) ta tb) σ H (.int (i - j)) := val_op ha hb fun Q q => ⟨i, j, rfl, rfl, q⟩
theorem vi_mul (hc : CMul i j) (ha : Val ta σ H (.int i)) (hb : Val tb σ H (.int j)) : Val (tOp (rI CMul fun i j => .int (i * j)) ta tb) σ H (.int (i * j)) := val_op ha hb fun Q q => ⟨i, j, rfl, rfl, hc, q⟩
theorem vi_mod (hc : 0 < j) (ha : Val ta σ H (.int i)) (hb : Val tb σ H (.int j)) : Val (tOp (rI (fun _ j => 0 < j) fun i j => .int (i % j)) ta tb) σ H (.int (i % j)) := val_op ha hb fun Q q => ⟨i, j, rfl, rfl, hc, q⟩
theorem vi_fdivN (hc : CDivN i j) (ha : Val ta σ H (.int i)) (hb : Val tb σ H (.int j)) : Val (tOp (rI CDivN fun i j => .int (i.fdiv j)) ta tb) σ H (.int (i.fdiv j)) := val_op ha hb fun Q q => ⟨i, j, rfl, rfl, hc, q⟩
theorem vi_pow (hc : CPow i j) (ha : Val ta σ H (.int i)) (hb : Val tb σ H (.int j)) : Val (tOp (rI CPow fun i j => .int (i ^ j.toNat)) ta tb) σ H (.int (i ^ j.toNat)) := val_op ha hb fun Q q => ⟨i, j, rfl, rfl, hc, q⟩
def rInt1 : List V → Hp → VK → Prop := fun xs H Q => (∃ i, xs = [.int i] ∧ Q (.int i) H) ∨ ∃ k, xs = [.bl k] ∧ Q (.int (if k then 1 else 0)) H
theorem vi_int (ha : Val ta σ H (.int i)) : Val (tCB rInt1 (tCons ta tNil)) σ H (.int i) := fun Q q => ha _ (.inl ⟨i, rfl, q⟩)
theorem vi_intb (ha : Val ta σ H (.bl b)) : Val (tCB rInt1 (tCons ta tNil)) σ H (.int (if b then 1 else 0)) := fun Q q => ha _ (.inr ⟨b, rfl, q⟩)
def rAbs1 : List V → Hp → VK → Prop := fun xs H Q => ∃ i, xs = [.int i] ∧ Q (.int (if i < 0 then -i else i)) H
theorem vi_abs (ha : Val ta σ H (.int i)) : Val (tCB rAbs1 (tCons ta tNil)) σ H (.int (if i < 0 then -i else i)) := fun Q q => ha _ ⟨i, rfl, q⟩
def rLen1 (K : PySem.W.Frag) : List V → Hp → VK → Prop := fun xs H Q => ∃ p ys, xs = [.ref p] ∧ (SqL K H p ys ∨ SqT K H p ys) ∧ Q (.int ys.length) H
theorem vi_len {p : Addr} {ys : List V} (ha : Val ta σ H (.ref p)) (h : H p = some (.lst ys)) : Val (tCB (rLen1 K) (tCons ta tNil)) σ H (.int ys.length) := fun Q q => ha _ ⟨p, ys, rfl, .inl (SqL.of h), q⟩
theorem vi_ix {p : Addr} {ys : List V} {n : Nat} {v : V} (ha : Val ta σ H (.ref p)) (hb : Val tb σ H (.int (n : Int))) (h : H p = some (.lst ys)) (hv : ys[n]? = some v) : Val (tOp (rIxL K) ta tb) σ H v :=
  val_op ha hb fun Q q => ⟨p, ys, n, v, rfl, rfl, SqL.of h, atI_nat hv, q⟩
theorem an_gt (ha : Val ta σ H (.int i)) (hb : Val tb σ H (.int j)) : Ans (tTest (tOp (rI0 fun i j => .bl (decide (j < i))) ta tb)) σ H (decide (j < i)) := ans_cmp ha hb fun Q q => ⟨i, j, rfl, rfl, q⟩
theorem an_ge (ha : Val ta σ H (.int i)) (hb : Val tb σ H (.int j)) : Ans (tTest (tOp (rI0 fun i j => .bl (decide (j ≤ i))) ta tb)) σ H (decide (j ≤ i)) := ans_cmp ha hb fun Q q => ⟨i, j, rfl, rfl, q⟩
theorem an_lt (ha : Val ta σ H (.int i)) (hb : Val tb σ H (.int j)) : Ans (tTest (tOp (rI0 fun i j => .bl (decide (i < j))) ta tb)) σ H (decide (i < j)) := ans_cmp ha hb fun Q q => ⟨i, j, rfl, rfl, q⟩
theorem vb_lt (ha : Val ta σ H (.int i)) (hb : Val tb σ H (.int j)) : Val (tOp (rI0 fun i j => .bl (decide (i < j))) ta tb) σ H (.bl (decide (i < j))) := val_op ha hb fun Q q => ⟨i, j, rfl, rfl, q⟩
/-- pen[n] = an int -/
theorem st_pen {to ti te : TE} {D : Ends} {P : Addr} {xs : List V} {n : Nat} {v : V} (he : Val te σ H v) (ho : Val to σ H (.ref P)) (hi : Val ti σ H (.int (n : Int))) (h : H P = some (.lst xs)) (hn : n < xs.length) (q : D.nx σ (upd H P (.lst (xs.set n v)))) :
    tAsg te (gSub to ti rSetL) D σ H := he _ (ho _ (hi _ ⟨P, xs, n, n, rfl, rfl, h, Evl.ixN_nat hn, q⟩))
end
theorem dp_ints {K : PySem.W.Frag} {H : Hp} : ∀ ns : List Int, DpAll K H (ns.map V.int) (ns.map PyData.int)
  | [] => .nil
  | n :: ns => .cons (.int n) (dp_ints ns)
theorem fdiv_nn {a m : Int} (ha : 0 ≤ a) (hm : 0 < m) : 0 ≤ a.fdiv m := by
  rw [Int.fdiv_eq_ediv_of_nonneg a (by omega)]
  exact Int.ediv_nonneg ha (by omega)
theorem pow_b1 {x k a b p : Int} (hp : 0 < p ∧ p ≤ 2147483648) (hk : 0 ≤ k ∧ k ≤ 10000) (ha : 0 ≤ a ∧ a ≤ 1000000) (hb : 0 ≤ b ∧ b ≤ 1000000) : (x % p + a * k + b).natAbs < 2 ^ 64 := by
  have h1 := Int.emod_nonneg x (show p ≠ 0 by omega)
  have h2 := Int.emod_lt_of_pos x hp.1
  have h3 : 0 ≤ a * k := Int.mul_nonneg ha.1 hk.1
  have h4 : a * k ≤ 1000000 * 10000 := Int.mul_le_mul ha.2 hk.2 hk.1 (by decide)
  omega
theorem pow_b2 {x k a b c : Int} (hx : 0 ≤ x ∧ x ≤ 2147483648) (hk : 0 ≤ k ∧ k ≤ 10000) (ha : 0 ≤ a ∧ a ≤ 1000000) (hb : 0 ≤ b ∧ b ≤ 1000000) (hc : 0 ≤ c ∧ c ≤ 1000000) : (x * (2 * k + a) + b * k * k + c).natAbs < 2 ^ 64 := by
  have h1 : 0 ≤ x * (2 * k + a) := Int.mul_nonneg hx.1 (by omega)
  have h2 : x * (2 * k + a) ≤ 2147483648 * 1020000 := Int.mul_le_mul hx.2 (by omega) (by omega) (by decide)
  have h3 : 0 ≤ b * k := Int.mul_nonneg hb.1 hk.1
  have h4 : b * k ≤ 1000000 * 10000 := Int.mul_le_mul hb.2 hk.2 hk.1 (by decide)
  have h5 : 0 ≤ b * k * k := Int.mul_nonneg h3 hk.1
  have h6 : b * k * k ≤ 10000000000 * 10000 := Int.mul_le_mul h4 hk.2 hk.1 (by decide)
  omega
/-! the promises -/
def spPen (K : PySem.W.Frag) : Sp := fun vs H Q _ => ∃ (a : Addr) (ns : List Int), vs = [.ref a] ∧ SqL K H a (ns.map V.int) ∧ ns.length ≤ 63 ∧ ∀ P c H', Same H H' → H P = none → H c = none → PenAt H' P c ns 0 0 → Q (.ref P) H'
def spDraw (most : Int) : Sp := fun vs H Q _ => ∃ (P c : Addr) (ns : List Int) (k g m : Int), vs = [.ref P, .int m] ∧ PenAt H P c ns k g ∧ ns.length ≤ 63 ∧ k ≤ 9999 ∧ 0 < m ∧ m < most ∧
  ∀ r H' k' g', 0 ≤ r → r < m → But P H H' → PenAt H' P c ns k' g' → k' ≤ k + 1 → Q (.int r) H'
def spPick (K : PySem.W.Frag) : Sp := fun vs H Q _ => ∃ (P c : Addr) (ns : List Int) (k g : Int) (w : V) (G : Hp) (ds : List Da), vs = [.ref P, w] ∧ PenAt H P c ns k g ∧ ns.length ≤ 63 ∧ k ≤ 9999 ∧ Same G H ∧ G P = none ∧ DR K G w (.lst ds) ∧ ds ≠ [] ∧ ds.length ≤ 1000 ∧
  ∀ v d H' k' g', d ∈ ds → But P H H' → PenAt H' P c ns k' g' → k' ≤ k + 1 → DR K G v d → Q v H'
/-! rules with the written part named -/
section
variable {X : Cx} {K : PySem.W.Frag} {p pos : Pos} {e : Expr} {te : TE}
theorem pe_lenK (hK : X.K = K) (hm : X.mg "len" = none) (hg : Gl X "len") (ha : PE X e te) (hst : starEach [e] X.env = (false, eval e X.env) :: starEach [] X.env := by rfl) (hpl : (backTo pos (starEach [] X.env)).any (·.1) = false := by rfl) :
    PE X (.Call (.Name "len" p) [e] [] pos) (tCB (rLen1 K) (tCons te tNil)) := by
  subst hK
  exact pe_callB call_len_seq hg hm PySem.boot_len (pa_cons ha pa_nil hst) (by decide) (by decide) hst hpl
theorem ix_listK (hK : X.K = K) : IxR X (rIxL K) := by subst hK; exact ix_list
end
theorem shaped_ints (ns : List Int) : SeqAt.shaped (.list (ns.map PyData.int)) = true := by
  have h1 : ∀ ns : List Int, PyData.canLayAll0 (ns.map PyData.int) = true := fun ns => by
    induction ns with
    | nil => simp [PyData.canLayAll0]
    | cons n ns ih => simp [PyData.canLayAll0, PyData.canLay0, ih]
  have h2 : ∀ ns : List Int, PyData.depthAll (ns.map PyData.int) ≤ 1 := fun ns => by
    induction ns with
    | nil => simp [PyData.depthAll]
    | cons n ns ih => simp [PyData.depthAll, PyData.depth]; omega
  unfold SeqAt.shaped
  have := h2 ns
  rw [Bool.and_eq_true, decide_eq_true_eq]
  refine ⟨by simp only [PyData.canLay0]; exact h1 ns, ?_⟩
  show PyData.depth _ ≤ 64
  simp only [PyData.depth]
  omega
/-- if pen[0] != []: cell = pen[0][int(spot) % len(pen[0])] -/
theorem pen_if {K : PySem.W.Frag} {P c : Addr} {ns : List Int} {k k1 g z0 : Int} {m d1 d2 d3 : Option V} {H : Hp} {D : Ends} (hp : PenAt H P c ns k1 g) (hk : 0 ≤ k) (q : ∀ z H', Same H H' → D.nx [some (.ref P), m, d1, some (.int k), some (.int z), d2, d3] H') :
    tIfS (tTest (tOp (rNeD K) (tOp (rIxL K) (tVar 0) (tC (.int 0))) (tLst tNil)))
      (tAsg (tOp (rIxL K) (tOp (rIxL K) (tVar 0) (tC (.int 0))) (tOp (rI (fun _ j => 0 < j) fun i j => .int (i % j)) (tCB rInt1 (tCons (tVar 3) tNil)) (tCB (rLen1 K) (tCons (tOp (rIxL K) (tVar 0) (tC (.int 0))) tNil)))) (gName 4))
      tNext D [some (.ref P), m, d1, some (.int k), some (.int z0), d2, d3] H := by
  have go : ∀ H', PenAt H' P c ns k1 g → ∀ Q : VK, Q (.ref c) H' → tOp (rIxL K) (tVar 0) (tC (.int 0)) [some (.ref P), m, d1, some (.int k), some (.int z0), d2, d3] H' Q := fun H' h Q q => vi_ix (n := 0) (val_var rfl) (val_c (v := .int 0)) h.hp rfl Q q
  refine go H hp _ ⟨by show 0 ≤ sizeLine; omega, fun p hpn => ?_⟩
  have hs : Same H (upd H p (.lst [])) := same_upd (Same.refl H) hpn
  have hp2 := hp.same hs
  refine ⟨.list (ns.map PyData.int), .list [], .lst (SqL.of hp2.hc) (dp_ints ns), .lst (SqL.of upd_same) .nil, shaped_ints ns, by decide, _, rfl, ?_⟩
  cases ns with
  | nil =>
    have e : (!PyData.eqv (.list (([] : List Int).map PyData.int)) (.list [])) = false := by decide
    rw [e]
    exact q z0 _ hs
  | cons n ns =>
    have e : (!PyData.eqv (.list ((n :: ns).map PyData.int)) (.list [])) = true := by
      rw [Bool.not_eq_true']
      first
      | rfl
      | simp [PyData.eqv, PyData.eqvAll]
      | (simp [PyData.eqv]; done)
    rw [e]
    rw [if_pos rfl]
    obtain ⟨i, hi⟩ := Int.eq_ofNat_of_zero_le (Int.emod_nonneg k (show (((n :: ns).map V.int).length : Int) ≠ 0 by rw [List.length_map, List.length_cons]; omega))
    have hi2 : i < (n :: ns).length := by
      have := Int.emod_lt_of_pos k (show (0 : Int) < (((n :: ns).map V.int).length : Int) by rw [List.length_map, List.length_cons]; omega)
      rw [hi, List.length_map] at this
      exact Int.ofNat_lt.mp this
    refine st_set (v := .int (n :: ns)[i]) (vi_ix (n := i) (ys := (n :: ns).map V.int) (go _ hp2) ?_ hp2.hc (by rw [List.getElem?_map, List.getElem?_eq_getElem hi2]; rfl)) (q _ _ hs)
    have h3 := vi_mod (σ := [some (.ref P), m, d1, some (.int k), some (.int z0), d2, d3]) (show (0 : Int) < (((n :: ns).map V.int).length : Int) by rw [List.length_map, List.length_cons]; omega) (vi_int (val_var (H := upd H p (.lst [])) (i := 3) (v := .int k) rfl)) (vi_len (K := K) (go _ hp2) hp2.hc)
    rw [hi] at h3
    exact h3
/-- return [list(script[:63]), 0, 0] -/
theorem pen_new {K : PySem.W.Frag} {a : Addr} {ns : List Int} {H : Hp} {Q : VK} {D : Ends} (ha : SqL K H a (ns.map V.int)) (hl : ns.length ≤ 63) (k : ∀ P c H', Same H H' → H P = none → H c = none → PenAt H' P c ns 0 0 → Q (.ref P) H') (hD : D.rt = Q := by rfl) :
    tRet (tLst (tCons (tCB (fun xs H Q => ∃ p ys, xs = [.ref p] ∧ (SqL K H p ys ∨ SqT K H p ys) ∧ ∀ l, H l = none → Q (.ref l) (upd H l (.lst ys))) (tCons (tSl (rSlL K) (tVar 0) tNoPart (tPart (tC (.int 63)))) tNil)) (tCons (tC (.int 0)) (tCons (tC (.int 0)) tNil)))) D [some (.ref a)] H := by
  have cut : cutV (ns.map V.int) none (some 63) = ns.map V.int := by
    unfold cutV
    have h0 : HT.sIx (ns.map V.int).length 0 none = 0 := rfl
    have h1 : (ns.map V.int).length ≤ HT.sIx (ns.map V.int).length (ns.map V.int).length (some 63) := by
      rw [List.length_map]
      unfold HT.sIx
      simp only []
      first
      | omega
      | (split <;> omega)
      | (simp; omega)
    rw [h0, List.drop_zero, List.take_of_length_le (by omega)]
  show tLst _ _ _ _
  rw [hD]
  refine ⟨.ref a, rfl, 63, rfl, a, ns.map V.int, rfl, ha, fun p hp => ?_⟩
  rw [cut]
  have s1 : Same H (upd H p (.lst (ns.map V.int))) := same_upd (Same.refl H) hp
  refine ⟨p, ns.map V.int, rfl, .inl (SqL.of upd_same), fun c hc => ?_⟩
  have s2 := same_upd (o := .lst (ns.map V.int)) s1 (s1.free hc)
  refine ⟨by show 3 ≤ sizeLine; decide, fun P hP => ?_⟩
  have hPc : c ≠ P := ne_of_none (H := upd (upd H p (.lst (ns.map V.int))) c (.lst (ns.map V.int))) upd_same hP
  exact k P c _ (same_upd s2 (s2.free hP)) (s2.free hP) (s1.free hc) ⟨upd_same, by rw [upd_ne hPc]; exact upd_same, hPc, by decide, by decide⟩
/-- return some[draw(pen, len(some))] -/
theorem pick_go {K : PySem.W.Frag} {P c : Addr} {ns : List Int} {k g : Int} {w : V} {G H : Hp} {ds : List Da} {Q : VK} {E : XK} {D : Ends} (hp : PenAt H P c ns k g) (hl : ns.length ≤ 63) (hk : k ≤ 9999) (hs : Same G H) (gP : G P = none) (dr : DR K G w (.lst ds)) (ne : ds ≠ []) (hz : ds.length ≤ 1000)
    (kk : ∀ v d H' k' g', d ∈ ds → But P H H' → PenAt H' P c ns k' g' → k' ≤ k + 1 → DR K G v d → Q v H') (hD : D.rt = Q := by rfl) :
    tRet (tOp (rIxL K) (tVar 1) (tCall (spDraw 1073741824) [] E (tCons (tVar 0) (tCons (tCB (rLen1 K) (tCons (tVar 1) tNil)) tNil)))) D [some (.ref P), some w] H := by
  cases dr with
  | @lst a xs _ h1 h2 =>
    have hx : 0 < xs.length := by
      rw [h2.len]
      exact List.length_pos_iff.mpr ne
    refine ⟨_, rfl, .ref P, rfl, .ref a, rfl, a, xs, rfl, .inl (SqL.of (hs _ _ h1)), P, c, ns, k, g, (xs.length : Int), rfl, hp, hl, hk, by omega, by rw [h2.len]; omega, fun r H' k' g' r0 r1 bt hp' hk' => ?_⟩
    obtain ⟨i, rfl⟩ := Int.eq_ofNat_of_zero_le r0
    have hi : i < xs.length := by omega
    obtain ⟨d, e1, e2⟩ := h2.get (List.getElem?_eq_getElem hi)
    rw [hD]
    exact ⟨a, xs, i, _, rfl, rfl, SqL.of (bt.same hs gP _ _ h1), atI_nat (List.getElem?_eq_getElem hi), kk _ _ _ _ _ (List.mem_of_getElem? e1) bt hp' hk' e2⟩
end GL

set_option Elab.async false
set_option linter.all false
set_option autoImplicit false
set_option maxRecDepth 100000
set_option maxHeartbeats 2000000
namespace GL
open PySem PySem.Spec PyProof.Rows L2
/-! decimal texts -/
abbrev codes (x : Str) : List Nat := x.cps.toList
abbrev ADig (cs : List Nat) : Prop := NumText.AllDigits cs
abbrev dVal (cs : List Nat) : Nat := NumText.digitsVal cs
def ofCodes (l : List Nat) : Str := ⟨l.toArray⟩
def natS (n : Nat) : Str := ((toString (n : Int) : String) : Str)
theorem codes_mk (l : List Nat) : codes (ofCodes l) = l := rfl
theorem str_ext {x y : Str} (h : codes x = codes y) : x = y := by
  cases x; cases y
  exact congrArg Str.mk (Array.ext' h)
theorem codes_len (x : Str) : (codes x).length = x.length := by simp [codes, Str.length]
theorem codes_app (x y : Str) : codes (x ++ y) = codes x ++ codes y := by
  show (Str.append x y).cps.toList = _
  simp [Str.append, codes]
theorem natS_codes (n : Nat) : codes (natS n) = (Nat.toDigits 10 n).map Char.toNat := by
  show (Str.ofString _).cps.toList = _
  rw [signs_ofString, Int.toString_eq_repr, show ((n : Int).repr) = n.repr from rfl, ← Nat.toString_eq_repr, Nat.toString_eq_ofList_toDigits, String.toList_ofList]
theorem isDigit_code {c : Char} (h : c.isDigit = true) : 48 ≤ c.toNat ∧ c.toNat ≤ 57 := by
  unfold Char.isDigit at h
  rw [Bool.and_eq_true, decide_eq_true_eq, decide_eq_true_eq] at h
  have h1 := UInt32.le_iff_toNat_le.mp h.1
  have h2 := UInt32.le_iff_toNat_le.mp h.2
  exact ⟨h1, h2⟩
theorem natS_dig (n : Nat) : ADig (codes (natS n)) := by
  rw [natS_codes]
  intro c hc
  obtain ⟨ch, h1, rfl⟩ := List.mem_map.mp hc
  exact isDigit_code (Nat.isDigit_of_mem_toDigits (by decide) (by decide) h1)
theorem dVal_acc (b : List Nat) : ∀ a : Nat, List.foldl (fun acc c => acc * 10 + (c - 48)) a b = a * 10 ^ b.length + dVal b := by
  induction b with
  | nil => intro a; simp [dVal, NumText.digitsVal]
  | cons c r ih =>
    intro a
    show List.foldl _ (a * 10 + (c - 48)) r = a * 10 ^ (r.length + 1) + List.foldl _ (0 * 10 + (c - 48)) r
    rw [ih, ih (0 * 10 + (c - 48)), Nat.pow_succ, Nat.zero_mul, Nat.zero_add, Nat.add_mul, ← Nat.add_assoc, Nat.mul_assoc, Nat.mul_comm 10]
theorem dVal_app (a b : List Nat) : dVal (a ++ b) = dVal a * 10 ^ b.length + dVal b := by
  show List.foldl _ 0 (a ++ b) = _
  rw [List.foldl_append, dVal_acc]
  rfl
theorem toNat_ofNat {c : Nat} (h : 48 ≤ c ∧ c ≤ 57) : (Char.ofNat c).toNat = c := by
  have : ∀ c, c < 58 → (Char.ofNat c).toNat = c := by decide +kernel
  exact this c (by omega)
theorem map_back {cs : List Nat} (h : ADig cs) : (cs.map Char.ofNat).map Char.toNat = cs := by
  induction cs with
  | nil => rfl
  | cons c r ih =>
    rw [List.map_cons, List.map_cons, toNat_ofNat (h c (by simp)), ih fun c hc => h c (by simp [hc])]
/-- digits with no 0 ahead are the text of their value -/
theorem natS_of {c : Nat} {r : List Nat} (h : ADig (c :: r)) (hc : c ≠ 48) : codes (natS (dVal (c :: r))) = c :: r := by
  rw [natS_codes, NumText.toDigits_all _ h]
  have e : List.dropWhile (fun x => x == 48) (c :: r) = c :: r := by
    rw [List.dropWhile_cons, if_neg (by simpa using hc)]
  rw [e]
  exact map_back h
theorem natS_0 : codes (natS 0) = [48] := by rw [natS_codes]; rfl
/-- what is ahead of the text of a number that is not 0 -/
theorem natS_head (n : Nat) (h : n ≠ 0) : ∃ c r, codes (natS n) = c :: r ∧ c ≠ 48 := by
  rw [natS_codes]
  induction n using Nat.strongRecOn with
  | _ n ih =>
    rw [Nat.toDigits_eq_if (by decide)]
    split
    · next h10 =>
      refine ⟨_, [], rfl, ?_⟩
      have : ∀ n, n < 10 → n ≠ 0 → (Nat.digitChar n).toNat ≠ 48 := by decide +kernel
      exact this n h10 h
    · next h10 =>
      obtain ⟨c, r, e, hc⟩ := ih (n / 10) (by omega) (by omega)
      rw [List.map_append, e]
      exact ⟨c, _, rfl, hc⟩
theorem natS_val (n : Nat) : dVal (codes (natS n)) = n := by
  rw [natS_codes]
  induction n using Nat.strongRecOn with
  | _ n ih =>
    have dc : ∀ n, n < 10 → (Nat.digitChar n).toNat - 48 = n := by decide +kernel
    rw [Nat.toDigits_eq_if (by decide)]
    split
    · next h10 =>
      show NumText.digitsVal [_] = n
      simp only [NumText.digitsVal, List.foldl_cons, List.foldl_nil, Nat.zero_mul, Nat.zero_add]
      exact dc n h10
    · next h10 =>
      rw [List.map_append, List.map_singleton, dVal, NumText.digitsVal_snoc]
      have := ih (n / 10) (by omega)
      rw [show NumText.digitsVal (List.map Char.toNat (Nat.toDigits 10 (n / 10))) = n / 10 from this, dc _ (Nat.mod_lt _ (by decide))]
      omega
theorem natS_inj {n m : Nat} (h : natS n = natS m) : n = m := by rw [← natS_val n, h, natS_val]
theorem natS_ne (n : Nat) : codes (natS n) ≠ [] := by
  by_cases h : n = 0
  · subst h; rw [natS_0]; exact fun z => nomatch z
  · obtain ⟨c, r, e, _⟩ := natS_head n h
    rw [e]; exact fun z => nomatch z
theorem dVal_lt : ∀ {cs : List Nat}, ADig cs → dVal cs < 10 ^ cs.length
  | [], _ => by simp [dVal, NumText.digitsVal]
  | c :: r, h => by
    have h1 := dVal_lt (cs := r) fun x hx => h x (by simp [hx])
    have h2 := h c (by simp)
    have e : dVal (c :: r) = (c - 48) * 10 ^ r.length + dVal r := by
      rw [show c :: r = [c] ++ r from rfl, dVal_app]
      simp [dVal, NumText.digitsVal]
    rw [e, List.length_cons, Nat.pow_succ]
    have h3 : (c - 48) * 10 ^ r.length ≤ 9 * 10 ^ r.length := Nat.mul_le_mul_right _ (by omega)
    omega
theorem natS_len {n k : Nat} (hk : 0 < k) : (natS n).length ≤ k ↔ n < 10 ^ k := by
  rw [← codes_len, natS_codes, List.length_map]
  exact Nat.length_toDigits_le_iff (by decide) hk
/-- zeros, then the text of n: k signs -/
def pad (k n : Nat) : List Nat := List.replicate (k - (natS n).length) 48 ++ codes (natS n)
theorem rep_dig {k : Nat} : ADig (List.replicate k 48) := fun c hc => by rw [List.eq_of_mem_replicate hc]; decide
theorem ad_app {a b : List Nat} (h : ADig a) (h2 : ADig b) : ADig (a ++ b) := fun c hc => by
  rcases List.mem_append.mp hc with hc | hc
  · exact h c hc
  · exact h2 c hc
theorem pad_dig {k n : Nat} : ADig (pad k n) := ad_app rep_dig (natS_dig n)
theorem rep_val {k : Nat} : dVal (List.replicate k 48) = 0 := by
  induction k with
  | zero => rfl
  | succ k ih => rw [List.replicate_succ', dVal, NumText.digitsVal_snoc, show NumText.digitsVal _ = 0 from ih]
theorem pad_val {k n : Nat} : dVal (pad k n) = n := by rw [pad, dVal_app, rep_val, natS_val]; omega
theorem pad_len {k n : Nat} (hk : 0 < k) (h : n < 10 ^ k) : (pad k n).length = k := by
  have := (natS_len hk).mpr h
  rw [pad, List.length_append, List.length_replicate, codes_len]
  omega
/-- a number of two parts -/
theorem natS_split {n k : Nat} (hk : 0 < k) (h : 10 ^ k ≤ n) : codes (natS n) = codes (natS (n / 10 ^ k)) ++ pad k (n % 10 ^ k) := by
  have p : 0 < 10 ^ k := Nat.pow_pos (by decide)
  have q : n / 10 ^ k ≠ 0 := by
    have := Nat.div_pos h p
    omega
  obtain ⟨c, r, e, hc⟩ := natS_head _ q
  have ad : ADig (codes (natS (n / 10 ^ k)) ++ pad k (n % 10 ^ k)) := ad_app (natS_dig _) pad_dig
  have v : dVal (codes (natS (n / 10 ^ k)) ++ pad k (n % 10 ^ k)) = n := by
    rw [dVal_app, natS_val, pad_val, pad_len hk (Nat.mod_lt _ p)]
    exact Nat.div_add_mod' n (10 ^ k)
  rw [e] at ad v ⊢
  rw [List.cons_append] at ad v ⊢
  rw [← natS_of ad hc, v]
/-- a text of digits as a number -/
theorem int_of {x : Str} (h : ADig (codes x)) (ne : codes x ≠ []) (l : x.length ≤ 640) : PySem.intText? x = some (dVal (codes x) : Int) := by
  have asc : (x.cps.all fun c => decide (c < 128)) = true := by
    rw [← Array.all_toList, List.all_eq_true]
    intro c hc
    have := h c hc
    exact decide_eq_true (by omega)
  have nt : numTextOf x = codes x := if_pos asc
  have ns : numSeenOf x = codes x := by
    show List.takeWhile _ (numTextOf x) = _
    rw [nt]
    exact NumText.takeWhile_all fun c hc => by
      have := h c hc
      simp; omega
  have core : NumText.core (codes x) = codes x := by
    unfold NumText.core
    rw [NumText.dropWhile_digits h]
    have sg : NumText.sign (codes x) = (false, codes x) := by
      cases e : codes x with
      | nil => exact absurd e ne
      | cons c r =>
        have := h c (by rw [e]; simp)
        exact NumText.sign_of (by omega) (by omega)
    rw [sg]
    show (List.dropWhile NumText.blank (codes x).reverse).reverse = codes x
    rw [NumText.dropWhile_digits (NumText.AllDigits.reverse h), List.reverse_reverse]
  have sg2 : (NumText.sign (List.dropWhile NumText.blank (codes x))).1 = false := by
    rw [NumText.dropWhile_digits h]
    cases e : codes x with
    | nil => exact absurd e ne
    | cons c r =>
      have := h c (by rw [e]; simp)
      rw [NumText.sign_of (by omega) (by omega)]
  unfold PySem.intText?
  rw [ns, nt, if_pos (by simp), core, NumText.digits_of h ne]
  have sz : (List.foldl (fun acc c => acc.push (c - 48)) (#[] : Array Nat) (codes x)).size = (codes x).length := by
    have : ∀ (l : List Nat) (a : Array Nat), (List.foldl (fun acc c => acc.push (c - 48)) a l).size = a.size + l.length := fun l => by
      induction l with
      | nil => intro a; rfl
      | cons c r ih => intro a; rw [List.foldl_cons, ih, Array.size_push, List.length_cons]; omega
    rw [this]; simp
  dsimp only
  rw [if_pos (by rw [sz, codes_len]; omega), sg2]
  unfold NumText.worth
  rw [if_neg Bool.false_ne_true, NumText.push_foldl]
  rfl
end GL

set_option Elab.async false
set_option linter.all false
set_option autoImplicit false
set_option maxRecDepth 100000
set_option maxHeartbeats 2000000
namespace GL
open PySem PySem.Spec PyProof.Rows L2
/-- what becomes of a call: a value, or an error of the class C with its fields -/
inductive Out where
  | val (d : Da)
  | err (C : Addr) (ns : List Str) (es : List Da)
def Goes (K : PySem.W.Frag) (G H : Hp) (Q : VK) (E : XK) : Out → Prop
  | .val d => ∀ v G' H', Nw G H G' H' → DR K G' v d → Q v H'
  | .err C ns es => ErrTo K G H E C ns es
section
variable {K : PySem.W.Frag} {G H G1 H1 : Hp} {Q : VK} {E : XK} {o : Out}
theorem Goes.up (h : Goes K G H Q E o) (n : Nw G H G1 H1) : Goes K G1 H1 Q E o := by
  cases o with
  | val d => exact fun v G' H' m dv => h v G' H' (n.trans m) dv
  | err C ns es => exact ErrTo.of h n
end
/-- an expression that may raise, as data -/
def EvO (K : PySem.W.Frag) (te : XK → TE) (σ : L2.St) (G : Hp) (o : Out) : Prop := ∀ H, Same G H → ∀ (Q : VK) (E : XK), Goes K G H Q E o → te E σ H Q
section
variable {K : PySem.W.Frag} {te : XK → TE} {tt ta tb : TE} {σ : L2.St} {G G' : Hp} {o : Out} {d : Da} {tA tk : TA} {ds zs : List Da}
theorem EvO.val (h : EvO K te σ G (.val d)) (E : XK) : Evd K (te E) σ G d := fun H e Q q => h H e Q E q
theorem EvO.mono (h : EvO K te σ G o) (e : Same G G') (ho : ∀ (H : Hp) (Q : VK) (E : XK), Same G' H → Goes K G' H Q E o → Goes K G H Q E o) : EvO K te σ G' o := fun H s Q E q => h H (e.trans s) Q E (ho H Q E s q)
theorem EvO.is {o' : Out} (h : EvO K te σ G o) (e : o = o') : EvO K te σ G o' := e ▸ h
/-- a def of data whose outcome has to do with its arguments' data -/
def Po (K : PySem.W.Frag) (n : Nat) (R : List Da → Out → Prop) : Sp := fun vs H Q E => ∃ G ds o, Same G H ∧ ds.length = n ∧ DRs K G vs ds ∧ R ds o ∧ Goes K G H Q E o
theorem Po.len {n : Nat} {R : List Da → Out → Prop} (vs : List V) (H : Hp) (Q : VK) (E : XK) (h : Po K n R vs H Q E) : vs.length = n := by
  obtain ⟨_, ds, d, _, hl, r, _⟩ := h
  rw [r.len, hl]
theorem o_call {n : Nat} {R : List Da → Out → Prop} (h : Evs K tA σ G ds) (hl : ds.length = n) (hR : R ds o) : EvO K (fun E => tCall (Po K n R) [] E tA) σ G o := fun H e Q E q =>
  h H e _ fun vs G1 H1 n1 dvs => ⟨G1, ds, o, n1.b, hl, by rw [List.append_nil]; exact dvs, hR, q.up n1⟩
/-- x.m(e, ..) of an instance -/
theorem o_meth {n : Nat} {C : Addr} {m : Str} {ns : List Str} {es : List Da} {R : List Da → Out → Prop} (ho : Evd K ta σ G (.ins C ns es)) (hm : ∀ vs : List V, ns.length = vs.length → List.lookup m (ns.zip vs) = none) (h : Evs K tA σ G ds) (hl : ds.length + 1 = n) (hR : R (.ins C ns es :: ds) o) :
    EvO K (fun E => tMeth C m (Po K n R) [] E ta tA) σ G o := fun H e Q E q => ho H e _ fun v G1 H1 n1 dv => by
  have dv0 := dv
  cases dv with
  | @ins a _ dx _ vs _ h1 h2 h3 =>
    refine ⟨a, dx, _, rfl, n1.b _ _ h1, hm vs h2, (h.up n1.a) H1 n1.b _ fun ws G2 H2 n2 dws => ⟨G2, .ins C ns es :: ds, o, n2.b, hl, ?_, hR, q.up (n1.trans n2)⟩⟩
    rw [List.append_nil]
    exact .cons (dv0.up n2.a) dws
/-- what an __init__ of data does: it sets the fields ns, or raises -/
inductive IOut where
  | set (ns : List Str) (es : List Da)
  | err (C : Addr) (ns : List Str) (es : List Da)
def IOut.out (C : Addr) : IOut → Out
  | .set ns es => .val (.ins C ns es)
  | .err D ns es => .err D ns es
/-- how an instance is finished -/
def SetTo (K : PySem.W.Frag) (G H : Hp) (a C : Addr) (ns : List Str) (es : List Da) (Q : VK) : Prop := ∀ G' H', (∀ b o, b ≠ a → H b = some o → H' b = some o) → Same G G' → Same G' H' → (∀ b o, b ≠ a → H b = some o → G b = none → G' b = none) → DR K G' (.ref a) (.ins C ns es) → Q .non H'
def PiO (K : PySem.W.Frag) (C : Addr) (n : Nat) (R : List Da → IOut → Prop) : Sp := fun vs H Q E => ∃ G a dx ws ds o, vs = .ref a :: ws ∧ ds.length = n ∧ Same G H ∧ G a = none ∧ H a = some (.ins C dx []) ∧ DRs K G ws ds ∧ R ds o ∧
  match o with
  | .set ns es => SetTo K G H a C ns es Q
  | .err D ns es => ErrTo K G H E D ns es
theorem PiO.len {C : Addr} {n : Nat} {R : List Da → IOut → Prop} (vs : List V) (H : Hp) (Q : VK) (E : XK) (h : PiO K C n R vs H Q E) : vs.length = n + 1 := by
  obtain ⟨_, a, dx, ws, ds, _, rfl, hl, _, _, _, r, _⟩ := h
  rw [List.length_cons, r.len, hl]
/-- C(e, .., k = v, ..) -/
theorem o_make {n m k : Nat} {C : Addr} {R : List Da → IOut → Prop} {io : IOut} {gV : List V → List V → List V} (h : Evs K tA σ G ds) (hk : Evs K tk σ G zs) (hm : ds.length = m) (hz : zs.length = k) (order : List Da) (ho : order.length = n)
    (hg : ∀ (a : Addr) (H' : Hp) (vs ws : List V), DRs K H' vs ds → DRs K H' ws zs → ∃ us, gV (.ref a :: vs) ws = .ref a :: us ∧ DRs K H' us order) (hR : R order io) : EvO K (fun E => tMakeN C m k (PiO K C n R) gV E tA tk) σ G (io.out C) := fun H e Q E q => h H e _ fun vs G1 H1 n1 dvs => hk.up n1.a H1 n1.b _ fun ws G2 H2 n2 dws =>
  ⟨by rw [dvs.len]; exact hm, by rw [dws.len]; exact hz, fun a dx ha hdx ne => by
    obtain ⟨us, e4, r⟩ := hg a G2 vs ws (dvs.up n2.a) dws
    rw [e4]
    have ga : G2 a = none := n2.b.free ha
    have up : ∀ {b : Addr} {o : HO}, H2 b = some o → upd (upd H2 dx (.own a)) a (.ins C dx []) b = some o := fun {b o} z => by rw [upd_ne (ne_of_none z ha), upd_ne (ne_of_none z hdx)]; exact z
    have n12 := n1.trans n2
    refine ⟨G2, a, dx, us, order, io, rfl, ho, fun b o z => up (n2.b _ _ z), ga, upd_same, r, hR, ?_⟩
    cases io with
    | set ns es => exact fun G' H' k1 k2 k3 k4 dd => ⟨rfl, q _ G' H' (n12.trans ⟨fun b o z => k1 b o (ne_of_none z ha) (up z), k2, k3, fun b o z w => k4 b o (ne_of_none z ha) (up z) w⟩) dd⟩
    | err D ns es => exact fun G' H' dx' us' n' h1 h2 h3 => q G' H' dx' us' (n12.trans ⟨fun b o z => n'.s b o (up z), n'.a, n'.b, fun b o z w => n'.n b o (up z) w⟩) h1 h2 h3⟩
end
/-! if without an else, what follows in its own words -/
section
variable {K : PySem.W.Frag} {σ : L2.St} {G H : Hp} {t : TT} {b : Bool} {D : Ends} {tu tz : TS}
theorem qn_if (s : Same G H) (h : Evt t σ G b) (h1 : b = true → ∀ G1 H1, Nw G H G1 H1 → tu { D with nx := tz D } σ H1) (h2 : b = false → ∀ G1 H1, Nw G H G1 H1 → tz D σ H1) : tSeq (tIfS t tu tNext) tz D σ H := qd_if s h h1 h2
/-- the test is known not to hold -/
theorem qn_no (s : Same G H) (h : Evt t σ G false) (h2 : ∀ G1 H1, Nw G H G1 H1 → tz D σ H1) : tSeq (tIfS t tu tNext) tz D σ H := qd_if s h (fun z => nomatch z) fun _ => h2
theorem qn_yes (s : Same G H) (h : Evt t σ G true) (h1 : ∀ G1 H1, Nw G H G1 H1 → tu { D with nx := tz D } σ H1) : tSeq (tIfS t tu tNext) tz D σ H := qd_if s h (fun _ => h1) fun z => nomatch z
end
end GL

set_option Elab.async false
set_option linter.all false
set_option autoImplicit false
set_option maxRecDepth 100000
set_option maxHeartbeats 2000000
namespace GL
open PySem PySem.Spec PyProof.Rows L2
/-! own unary and binary operators of an instance -/
/-- the callee runs below the running body; it may raise -/
theorem run_any {X : Cx} {CX : CXT} {n : Nat} {f : Addr} {fd : FuncData} {ps : List Str} {sp : Sp} {A : Around} {pins : List (Addr × Obj)} {s : Shared} {σ : L2.St} {H : Hp} {us : List Value} {vs : List V} {Q : VK} {E : XK} (F : FnOk X.prog X.w X.K X.mg X.base CX n f fd ps sp) (hr : Room n A) (fr : A.frames = X.A.frames) (hb : Binds X.K fd ps []) (hx : Passes CX X E) (I : Inv X pins σ H s) (r : Vals vs us) (h : sp vs H Q E) :
    wpAny (model X.prog X.w) A (call (.ref f) us) (EP X pins σ Q) X.xe s := by
  have e := I.env0
  have e0 : Env0 X.prog X.w X.K X.mg X.base A X.stack s H := ⟨by rw [fr]; exact e.frames, e.mod, e.bs, e.bsz, e.funs, e.frf, e.hok, e.bare⟩
  have hl : us.length = ps.length := r.length.symm.trans (F.len _ _ _ _ h)
  have bd := hb s us I.kIn (by simpa using hl)
  rw [List.append_nil] at bd
  refine wpAny_call (codeAny_mono (F.run A X.stack s H ⟨us, []⟩ us vs Q E hr e0 bd r h) fun q s' z => ?_)
  cases q with
  | error er => exact hx pins σ H s er s' I z
  | ok fl => cases fl with
    | ret u => exact I.after z
    | next | brk | cont => exact False.elim z
def rUnO (C : Addr) (sp : Sp) (E : XK) : V → Hp → VK → Prop := fun x H Q => ∃ a dx fs, x = .ref a ∧ H a = some (.ins C dx fs) ∧ sp [.ref a] H Q E
section
variable {X : Cx} {CX : CXT} {n : Nat} {C f : Addr} {fd : FuncData} {ps : List Str} {sp : Sp} {E : XK}
theorem un_invO (F : FnOk X.prog X.w X.K X.mg X.base CX n f fd ps sp) (hs : PySem.W.findIn X.K (.ref C) "__invert__" = some (some (.ref f))) (hf : PySem.W.isFn X.K (.ref f) = true) (hb : Binds X.K fd ps []) (hr : Room n X.A) (hx : Passes CX X E) : UnR X (unaryOp .Invert) (rUnO C sp E) := by
  intro pins s σ H x u Q I rx ⟨a, dx, fs, ex, ha, h⟩
  subst ex
  cases rx
  obtain ⟨mA, J, _⟩ := ins_get I.hok ha
  obtain ⟨od, J, _⟩ := J.look
  obtain ⟨m, hF⟩ := I.fr
  exact PySem.W.ksp_inv hF I.ok.mod.kin J hs hf (run_any (us := [.ref a]) (vs := [.ref a]) F hr rfl hb hx I (.cons rfl .nil) h)
theorem un_negO (F : FnOk X.prog X.w X.K X.mg X.base CX n f fd ps sp) (hs : PySem.W.findIn X.K (.ref C) "__neg__" = some (some (.ref f))) (hf : PySem.W.isFn X.K (.ref f) = true) (hb : Binds X.K fd ps []) (hr : Room n X.A) (hx : Passes CX X E) : UnR X (unaryOp .USub) (rUnO C sp E) := by
  intro pins s σ H x u Q I rx ⟨a, dx, fs, ex, ha, h⟩
  subst ex
  cases rx
  obtain ⟨mA, J, _⟩ := ins_get I.hok ha
  obtain ⟨od, J, _⟩ := J.look
  obtain ⟨m, hF⟩ := I.fr
  exact PySem.W.ksp_neg hF I.ok.mod.kin J hs hf (run_any (us := [.ref a]) (vs := [.ref a]) F hr rfl hb hx I (.cons rfl .nil) h)
end
section
variable {K : PySem.W.Frag} {σ : L2.St} {G : Hp} {ta : TE} {C : Addr} {ns : List Str} {ds : List Da} {o : Out} {d : Da} {E : XK}
theorem o_un {R : List Da → Out → Prop} (h : Evd K ta σ G (.ins C ns ds)) (hR : R [.ins C ns ds] o) : EvO K (fun E => tUn (rUnO C (Po K 1 R) E) ta) σ G o := fun H e Q E q => h H e _ fun v G1 H1 n1 dv => by
  have dv0 := dv
  cases dv with
  | @ins a _ dx _ vs _ h1 h2 h3 => exact ⟨a, dx, _, rfl, n1.b _ _ h1, G1, [.ins C ns ds], o, n1.b, rfl, .cons dv0 .nil, hR, q.up n1⟩
theorem ed_un {R : List Da → Da → Prop} (h : Evd K ta σ G (.ins C ns ds)) (hR : R [.ins C ns ds] d) : Evd K (tUn (rUnO C (Pr K 1 R) E) ta) σ G d := fun H e Q q => h H e _ fun v G1 H1 n1 dv => by
  have dv0 := dv
  cases dv with
  | @ins a _ dx _ vs _ h1 h2 h3 => exact ⟨a, dx, _, rfl, n1.b _ _ h1, G1, [.ins C ns ds], d, n1.b, rfl, .cons dv0 .nil, hR, fun v G2 H2 n2 d2 => q v G2 H2 (n1.trans n2) d2⟩
end
/-! x.m(k = v, ..) -/
def tMethK (C : Addr) (m : Str) (n : Nat) (sp : Sp) (gV : List V → List V → List V) (E : XK) (ta : TE) (tk : TA) : TE := fun σ H Q => ta σ H fun x H1 => ∃ a dx fs, x = .ref a ∧ H1 a = some (.ins C dx fs) ∧ fs.lookup m = none ∧ tk σ H1 fun zs H2 => zs.length = n ∧ sp (gV [.ref a] zs) H2 Q E
section
variable {X : Cx} {CX : CXT} {k : Nat} {C f : Addr} {fd : FuncData} {ps ks : List Str} {sp : Sp} {E : XK} {o : Expr} {kws : List Keyword} {m : Str} {pos apos : Pos} {ta : TE} {tk : TA} {pl : Sem Bool} {gv : List Value → List Value → List Value} {gV : List V → List V → List V}
theorem pe_methK0 (he : PE X o ta) (c : Cls X.K C) (hm : Meth X.K C m f) (F : FnOk X.prog X.w X.K X.mg X.base CX k f fd ps sp) (hb : KBn X.K fd ps 1 ks gv gV) (hr : Room k X.A) (hx : Passes CX X E) (hkw : PK X kws tk)
    (hall : (backToKw pos (keywordEach kws X.env)).all (·.1.isSome) = true := by rfl) (hks : (backToKw pos (keywordEach kws X.env)).filterMap (·.1) = ks := by rfl) (hpl : ((backTo pos (starEach [] X.env)).any (·.1) || (backToKw pos (keywordEach kws X.env)).any (·.1.isNone)) = false := by rfl)
    (ht : eval (.Call (.Attribute o m apos) [] kws pos) X.env = (do
      let ov ← eval o X.env
      standAt apos.atName
      let (f, first) ← holding [ov] (getMethod ov m pl)
      callWith pos f first (backTo pos (starEach [] X.env)) (backToKw pos (keywordEach kws X.env))) := by rfl) :
    PE X (.Call (.Attribute o m apos) [] kws pos) (tMethK C m ks.length sp gV E ta tk) := by
  refine ⟨fun pins s σ H Q I h => ?_⟩
  refine PySem.W.methodCall_KW (pl := pl) (thn (he.run pins s σ H _ I h) fun u s1 ⟨x, H1, I1, rx, a, dx, fs, ex, ea, l, q⟩ => ?_) ht
  subst ex
  obtain rfl : u = Value.ref a := rx
  refine getmeth_ok I1 ea c hm l ?_
  refine PySem.W.callWith_of (P := fun h => X.K.In h) hpl (PySem.W.keeps_K hm.kp) ?_
  refine evalArgs_kw2_nil hall ?_
  refine thn (hkw.run pos pins s1 σ H1 _ I1 q) fun ws s3 ⟨zs, H2, I3, rz, l2, q2⟩ => ⟨I3.kIn, ?_⟩
  rw [hks]
  have l3 : ws.length = ks.length := rz.length.symm.trans l2
  have rel := hb.rel (vs := [.ref a]) (us := [.ref a]) (.cons rfl .nil) rz
  refine wpAny_call (codeAny_mono (F.run X.A X.stack s3 H2 ⟨[.ref a], ks.zip ws⟩ (gv [.ref a] ws) (gV [.ref a] zs) Q E hr I3.env0 (hb.to s3 [.ref a] ws I3.kIn rfl l3) rel q2) fun q s' z => ?_)
  cases q with
  | error er => exact hx pins σ H2 s3 er s' I3 z
  | ok fl => cases fl with
    | ret u => exact I3.after z
    | next | brk | cont => exact False.elim z
end
section
variable {K : PySem.W.Frag} {σ : L2.St} {G : Hp} {ta : TE} {tk : TA} {C : Addr} {ns : List Str} {es ds : List Da} {o : Out} {m : Str} {n k : Nat} {gV : List V → List V → List V} {R : List Da → Out → Prop}
theorem o_methK (ho : Evd K ta σ G (.ins C ns es)) (hm : ∀ vs : List V, ns.length = vs.length → List.lookup m (ns.zip vs) = none) (h : Evs K tk σ G ds) (hz : ds.length = k) (order : List Da) (hn : order.length = n)
    (hg : ∀ (a : Addr) (H' : Hp) (zs : List V), DR K H' (.ref a) (.ins C ns es) → DRs K H' zs ds → DRs K H' (gV [.ref a] zs) order) (hR : R order o) : EvO K (fun E => tMethK C m k (Po K n R) gV E ta tk) σ G o := fun H e Q E q => ho H e _ fun v G1 H1 n1 dv => by
  have dv0 := dv
  cases dv with
  | @ins a _ dx _ vs _ h1 h2 h3 =>
    exact ⟨a, dx, _, rfl, n1.b _ _ h1, hm vs h2, (h.up n1.a) H1 n1.b _ fun zs G2 H2 n2 dzs => ⟨by rw [dzs.len]; exact hz, G2, order, o, n2.b, hn, hg a G2 zs (dv0.up n2.a) dzs, hR, q.up (n1.trans n2)⟩⟩
end
end GL

set_option Elab.async false
set_option linter.all false
set_option autoImplicit false
set_option maxRecDepth 100000
set_option maxHeartbeats 2000000
namespace GL
open PySem PySem.Spec PyProof.Rows L2
/-! fractions in lowest terms -/
def gcdI (a b : Int) : Int := ((Nat.gcd a.natAbs b.natAbs : Nat) : Int)
def shd (a b : Int) : Int := if 0 < b then gcdI a b else -gcdI a b
def nrm (a b : Int) : Int × Int := (a.fdiv (shd a b), b.fdiv (shd a b))
structure FrOk (r : Int × Int) : Prop where
  pos : 0 < r.2
  cop : Nat.gcd r.1.natAbs r.2.natAbs = 1
theorem gcdI_pos {a b : Int} (h : b ≠ 0) : 0 < gcdI a b := by
  unfold gcdI
  have : 0 < Nat.gcd a.natAbs b.natAbs := Nat.gcd_pos_of_pos_right _ (by omega)
  omega
theorem shd_ne {a b : Int} (h : b ≠ 0) : shd a b ≠ 0 := by
  have := gcdI_pos (a := a) h
  unfold shd
  split <;> omega
theorem shd_abs {a b : Int} : (shd a b).natAbs = Nat.gcd a.natAbs b.natAbs := by
  unfold shd gcdI
  split <;> omega
theorem shd_dvd {a b : Int} : shd a b ∣ a ∧ shd a b ∣ b := by
  rw [← Int.natAbs_dvd_natAbs, ← Int.natAbs_dvd_natAbs, shd_abs]
  exact ⟨Nat.gcd_dvd_left .., Nat.gcd_dvd_right ..⟩
/-- what is left of both -/
theorem nrm_mul {a b : Int} (h : b ≠ 0) : a = shd a b * (nrm a b).1 ∧ b = shd a b * (nrm a b).2 := by
  obtain ⟨⟨x, hx⟩, ⟨y, hy⟩⟩ := shd_dvd (a := a) (b := b)
  have ne := shd_ne (a := a) h
  unfold nrm
  have e1 : a.fdiv (shd a b) = x := by
    have k := Int.mul_fdiv_cancel_left x ne
    rw [← hx] at k
    exact k
  have e2 : b.fdiv (shd a b) = y := by
    have k := Int.mul_fdiv_cancel_left y ne
    rw [← hy] at k
    exact k
  rw [e1, e2]
  exact ⟨hx, hy⟩
theorem nrm_ok {a b : Int} (h : b ≠ 0) : FrOk (nrm a b) := by
  obtain ⟨e1, e2⟩ := nrm_mul (a := a) h
  have ne := shd_ne (a := a) h
  have g0 := gcdI_pos (a := a) h
  refine ⟨?_, ?_⟩
  · generalize (nrm a b).2 = y at e2
    unfold shd at e2
    split at e2
    · next hb => exact Int.pos_of_mul_pos_right (a := gcdI a b) (by omega) (by omega)
    · next hb =>
      have : 0 < gcdI a b * y := by
        have : b < 0 := by omega
        have e3 : b = -(gcdI a b * y) := by rw [← Int.neg_mul]; exact e2
        omega
      exact Int.pos_of_mul_pos_right (a := gcdI a b) this (by omega)
  · have n1 : a.natAbs = Nat.gcd a.natAbs b.natAbs * (nrm a b).1.natAbs := by
      have := congrArg Int.natAbs e1
      rw [Int.natAbs_mul, shd_abs] at this
      exact this
    have n2 : b.natAbs = Nat.gcd a.natAbs b.natAbs * (nrm a b).2.natAbs := by
      have := congrArg Int.natAbs e2
      rw [Int.natAbs_mul, shd_abs] at this
      exact this
    have gp : 0 < Nat.gcd a.natAbs b.natAbs := Nat.gcd_pos_of_pos_right _ (by omega)
    generalize (nrm a b).1.natAbs = x at n1
    generalize (nrm a b).2.natAbs = y at n2
    generalize hg : Nat.gcd a.natAbs b.natAbs = g at *
    rw [n1, n2, Nat.gcd_mul_left] at hg
    exact Nat.eq_of_mul_eq_mul_left gp (by rw [Nat.mul_one]; exact hg)
/-- cross products -/
theorem nrm_cross {a b : Int} (h : b ≠ 0) : (nrm a b).1 * b = a * (nrm a b).2 := by
  obtain ⟨e1, e2⟩ := nrm_mul (a := a) h
  generalize hp : (nrm a b).1 = p at *
  generalize hq : (nrm a b).2 = q at *
  generalize shd a b = s at *
  rw [e1, e2, Int.mul_comm s p, Int.mul_assoc]
theorem fr_uniq {r t : Int × Int} (h1 : FrOk r) (h2 : FrOk t) (h : r.1 * t.2 = t.1 * r.2) : r = t := by
  obtain ⟨p, q⟩ := r
  obtain ⟨p', q'⟩ := t
  obtain ⟨a1, a2⟩ := h1
  obtain ⟨b1, b2⟩ := h2
  dsimp only at *
  have hn : p.natAbs * q'.natAbs = p'.natAbs * q.natAbs := by
    have := congrArg Int.natAbs h
    rw [Int.natAbs_mul, Int.natAbs_mul] at this
    exact this
  have d1 : q.natAbs ∣ q'.natAbs := (Nat.Coprime.dvd_of_dvd_mul_left (k := q.natAbs) (m := p.natAbs) (n := q'.natAbs) (by rw [Nat.Coprime, Nat.gcd_comm]; exact a2) ⟨p'.natAbs, by rw [hn, Nat.mul_comm]⟩)
  have d2 : q'.natAbs ∣ q.natAbs := (Nat.Coprime.dvd_of_dvd_mul_left (k := q'.natAbs) (m := p'.natAbs) (n := q.natAbs) (by rw [Nat.Coprime, Nat.gcd_comm]; exact b2) ⟨p.natAbs, by rw [← hn, Nat.mul_comm]⟩)
  have eq : q = q' := by
    have := Nat.dvd_antisymm d1 d2
    omega
  subst eq
  have : p = p' := Int.eq_of_mul_eq_mul_right (by omega) h
  subst this
  rfl
theorem nrm_eq {a b : Int} {r : Int × Int} (h : b ≠ 0) (ok : FrOk r) (e : r.1 * b = a * r.2) : nrm a b = r := by
  have n := nrm_ok (a := a) h
  refine fr_uniq n ok ?_
  have c := nrm_cross (a := a) h
  have : (nrm a b).1 * r.2 * b = r.1 * (nrm a b).2 * b := by
    rw [Int.mul_right_comm, c, Int.mul_right_comm r.1, e, Int.mul_right_comm]
  exact Int.eq_of_mul_eq_mul_right h this
theorem nrm_same {a b c d : Int} (hb : b ≠ 0) (hd : d ≠ 0) (e : a * d = c * b) : nrm a b = nrm c d := by
  refine nrm_eq hb (nrm_ok hd) ?_
  have k := nrm_cross (a := c) hd
  have : (nrm c d).1 * b * d = a * (nrm c d).2 * d := by
    rw [Int.mul_right_comm, k, Int.mul_right_comm a, e, Int.mul_right_comm]
  exact Int.eq_of_mul_eq_mul_right hd this
theorem nrm_one (k : Int) : nrm k 1 = (k, 1) := nrm_eq (by decide) ⟨by show (0 : Int) < 1; decide, by simp⟩ rfl
theorem nrm_self {r : Int × Int} (h : FrOk r) : nrm r.1 r.2 = r := nrm_eq (by have := h.pos; omega) h rfl
theorem ok_int1 (k : Int) : FrOk (k, 1) := ⟨by show (0 : Int) < 1; decide, by simp⟩
/-- sizes -/
def Sz (n : Nat) (r : Int × Int) : Prop := r.1.natAbs < 2 ^ n ∧ r.2.natAbs < 2 ^ n
theorem Sz.mono {n m : Nat} {r : Int × Int} (h : Sz n r) (e : n ≤ m) : Sz m r := ⟨Nat.lt_of_lt_of_le h.1 (Nat.pow_le_pow_right (by decide) e), Nat.lt_of_lt_of_le h.2 (Nat.pow_le_pow_right (by decide) e)⟩
theorem nrm_sz {n : Nat} {a b : Int} (h : b ≠ 0) (ha : a.natAbs < 2 ^ n) (hb : b.natAbs < 2 ^ n) : Sz n (nrm a b) := by
  obtain ⟨e1, e2⟩ := nrm_mul (a := a) h
  have ne := shd_ne (a := a) h
  have n1 := congrArg Int.natAbs e1
  have n2 := congrArg Int.natAbs e2
  rw [Int.natAbs_mul] at n1 n2
  have sp : 1 ≤ (shd a b).natAbs := by omega
  have m1 : (nrm a b).1.natAbs ≤ (shd a b).natAbs * (nrm a b).1.natAbs := Nat.le_mul_of_pos_left _ sp
  have m2 : (nrm a b).2.natAbs ≤ (shd a b).natAbs * (nrm a b).2.natAbs := Nat.le_mul_of_pos_left _ sp
  exact ⟨by omega, by omega⟩
/-- // by any divisor below 2 ^ 9000 -/
def CDivWN (_ j : Int) : Prop := j ≠ 0 ∧ j.natAbs.log2 < 9000
theorem op_fdivWN {X : Cx} : OpR X (binaryOp .FloorDiv) (rI CDivWN fun i j => .int (i.fdiv j)) := opI fun _ _ _ _ _ _ _ hc q => floordiv_int hc.1 q (.inl (PyProof.noPylong_of_log2 hc.2))
end GL

set_option Elab.async false
set_option linter.all false
set_option autoImplicit false
set_option maxRecDepth 100000
set_option maxHeartbeats 2000000
namespace GL
open PySem PySem.Spec PyProof.Rows L2
/-! == and != of data without dicts, whatever its texts' signs -/
def rEqP (K : PySem.W.Frag) : R2 := fun x y H Q => ∃ d e, Dp K H x d ∧ Dp K H y e ∧ d.plain = true ∧ e.plain = true ∧ d.depth ≤ 60 ∧ Q (.bl (PyData.eqv d e)) H
def rNeP (K : PySem.W.Frag) : R2 := fun x y H Q => ∃ d e, Dp K H x d ∧ Dp K H y e ∧ d.plain = true ∧ e.plain = true ∧ d.depth ≤ 60 ∧ Q (.bl (!PyData.eqv d e)) H
section
variable {X : Cx} {K : PySem.W.Frag} {a b : Expr} {ta tb : TE} {pos : Pos}
theorem pe_eqP (hK : X.K = K) (hu : X.A.units + 64 < cLine) (ha : PE X a ta) (hb : PE X b tb) : PE X (.Compare a [.Eq] [b] pos) (tOp (rEqP K) ta tb) := by
  subst hK
  refine pe_cmpR (fun pins s σ H x y v u Q I rx ry ⟨d, e, hd, he, pd, pe, dp, q⟩ => ?_) ha hb (nomark _)
  obtain ⟨as, r1⟩ := Dp.reads I d x v hd rx
  obtain ⟨bs, r2⟩ := Dp.reads I e y u he ry
  exact SeqAt.eq_plain r1 r2 pd pe (by have := Nat.min_le_left d.depth e.depth; omega) ⟨.bl _, H, I, rfl, q⟩
theorem pt_neP (hK : X.K = K) (hu : X.A.units + 64 < cLine) (ha : PE X a ta) (hb : PE X b tb) : PT X (.Compare a [.NotEq] [b] pos) (tTest (tOp (rNeP K) ta tb)) := by
  subst hK
  refine pt_cmpR (fun pins s σ H x y v u Q I rx ry ⟨d, e, hd, he, pd, pe, dp, q⟩ => ?_) ha hb (nomark _)
  obtain ⟨as, r1⟩ := Dp.reads I d x v hd rx
  obtain ⟨bs, r2⟩ := Dp.reads I e y u he ry
  exact SeqAt.ne_plain r1 r2 pd pe (by have := Nat.min_le_left d.depth e.depth; omega) ⟨.bl _, H, I, rfl, q⟩
end
section
variable {K : PySem.W.Frag} {σ : L2.St} {G : Hp} {ta tb : TE} {d1 d2 : Da} {b : Bool}
theorem x_eqP {p q : PyData} (ha : Evd K ta σ G d1) (hb : Evd K tb σ G d2) (h1 : d1.toP = some p) (h2 : d2.toP = some q) (n1 : p.hasDict = false) (n2 : q.hasDict = false) (s1 : p.plain = true) (s2 : q.plain = true) (dp : p.depth ≤ 60) (hz : PyData.eqv p q = b) : Evd K (tOp (rEqP K) ta tb) σ G (.bl b) :=
  ed_two ha (fun _ s => hb.up s) fun x y G' H' _ e dx dy Q k => ⟨p, q, dp_of p (DR.dq d1 (dx.up e) h1) n1, dp_of q (DR.dq d2 (dy.up e) h2) n2, s1, s2, dp, by rw [hz]; exact k _ G' H' (Nw.refl e) (.bl b)⟩
theorem x_neP {p q : PyData} (ha : Evd K ta σ G d1) (hb : Evd K tb σ G d2) (h1 : d1.toP = some p) (h2 : d2.toP = some q) (n1 : p.hasDict = false) (n2 : q.hasDict = false) (s1 : p.plain = true) (s2 : q.plain = true) (dp : p.depth ≤ 60) (hz : (!PyData.eqv p q) = b) : Evd K (tOp (rNeP K) ta tb) σ G (.bl b) :=
  ed_two ha (fun _ s => hb.up s) fun x y G' H' _ e dx dy Q k => ⟨p, q, dp_of p (DR.dq d1 (dx.up e) h1) n1, dp_of q (DR.dq d2 (dy.up e) h2) n2, s1, s2, dp, by rw [hz]; exact k _ G' H' (Nw.refl e) (.bl b)⟩
end
/-! texts as data: what is asked of them -/
theorem toPs_strs : ∀ zs : List Str, Da.toPs (zs.map Da.str) = some (zs.map PyData.str)
  | [] => rfl
  | z :: zs => by
    rw [List.map_cons, List.map_cons]
    simp only [Da.toPs, Da.toP, Option.bind_some, toPs_strs zs, Option.map_some]
theorem plain_strs : ∀ zs : List Str, PyData.plainAll (zs.map PyData.str) = true
  | [] => rfl
  | z :: zs => by simp only [List.map_cons, PyData.plainAll, PyData.plain, plain_strs zs, Bool.and_self]
theorem nodict_strs : ∀ zs : List Str, PyData.hasDictAll (zs.map PyData.str) = false
  | [] => rfl
  | z :: zs => by simp only [List.map_cons, PyData.hasDictAll, PyData.hasDict, nodict_strs zs, Bool.or_self]
theorem depth_strs : ∀ zs : List Str, PyData.depthAll (zs.map PyData.str) ≤ 1
  | [] => Nat.zero_le _
  | z :: zs => by
    have := depth_strs zs
    simp only [List.map_cons, PyData.depthAll, PyData.depth]
    omega
/-- a list of texts == [] -/
theorem x_nilS {K : PySem.W.Frag} {σ : L2.St} {G : Hp} {ta tb : TE} {zs : List Str} (ha : Evd K ta σ G (.lst (zs.map Da.str))) (hb : Evd K tb σ G (.lst [])) : Evd K (tOp (rEqP K) ta tb) σ G (.bl zs.isEmpty) :=
  x_eqP (p := .list (zs.map PyData.str)) (q := .list []) ha hb (by simp only [Da.toP, toPs_strs, Option.map_some]) rfl (by simp only [PyData.hasDict, nodict_strs]) rfl (by simp only [PyData.plain, plain_strs]) rfl (by have := depth_strs zs; simp only [PyData.depth]; omega) (by
    cases zs with
    | nil => decide
    | cons z zs => first | rfl | simp [PyData.eqv, PyData.eqvAll])
/-! text[::-1] -/
def revT (z : Str) : Str := Txt.sliceBy z none none (-1, 0)
theorem revT_len (z : Str) : (revT z).length ≤ z.length := Txt.sliceBy_le z none none (-1, 0) (by decide)
def tRevS (te : TE) : TE := fun σ H Q => te σ H fun x H1 => ∃ z, x = .str z ∧ z.length ≤ sizeLine ∧ Q (.str (revT z)) H1
theorem pe_revS {X : Cx} {e : Expr} {te : TE} {k : Nat} {p1 p2 p3 pos : Pos} (he : PE X e te) : PE X (.Subscript e (.Slice none none (some (.UnaryOp .USub (.Constant (.int 1) k p1) p2)) p3) pos) (tRevS te) := by
  refine ⟨fun pins s σ H Q I h => Subscript_ (thn (he.run pins s σ H _ I h) fun v s1 ⟨x, H1, I1, r1, z, ex, hz, q⟩ => ?_)⟩
  subst ex
  obtain ⟨t, rfl⟩ := r1
  have st : PO X (some (.UnaryOp .USub (.Constant (.int 1) k p1) p2)) (tPart (tUn (rU fun i => .int (-i)) (tC (.int 1)))) := po_some (pe_un un_neg pe_int)
  refine wpAny_Slice (thn (po_none.run pins s1 σ H1 (fun o H2 => o = none ∧ H2 = H1) I1 ⟨rfl, rfl⟩) fun vl s2 ⟨l, H2, I2, pl, el, e2⟩ => ?_)
  subst el e2
  refine thn (po_none.run pins s2 σ H2 (fun o H3 => o = none ∧ H3 = H2) I2 ⟨rfl, rfl⟩) fun vu s3 ⟨u, H3, I3, pu, eu, e3⟩ => ?_
  subst eu e3
  refine thn (st.run pins s3 σ H3 (fun o H4 => o = some (-1) ∧ H4 = H3) I3 ⟨1, rfl, -1, rfl, rfl, rfl⟩) fun vs s4 ⟨o, H4, I4, ps, eo, e4⟩ => ?_
  subst eo e4
  have I5 : Inv X pins σ H4 { s4 with heap := s4.heap.push { cls := .type "slice", data := .fields #[vl, vu, vs] } } := I4.kept (t' := s4.toks) fun b ob q => Heap.get?_push_of_some _ q
  obtain ⟨l1, rfl, e1⟩ := IsPart.raw pl
  obtain ⟨u1, rfl, e2⟩ := IsPart.raw pu
  obtain ⟨k1, rfl, e3⟩ := IsPart.raw ps
  cases l1 with
  | some _ => cases e1
  | none => cases u1 with
    | some _ => cases e2
    | none => cases k1 with
      | none => cases e3
      | some kt =>
        obtain ⟨ki, tk⟩ := kt
        obtain rfl : ki = -1 := Option.some.inj e3
        refine tail_any (ops := [.ref s4.heap.objs.size, .str z t]) (typeIs_str _ _ _) F.slot_str_getitem.lookup ?_ (by with_unfolding_all rfl)
        refine wpAny_getItem_str_slice (l := none) (u := none) (st := some (-1, tk)) ⟨_, Heap.get?_push_size _ rfl, rfl, rfl⟩ rfl ?_
        exact ⟨Nat.le_trans (revT_len z) hz, .str (revT z), H4, I5.tok _, ⟨_, rfl⟩, q⟩
theorem ed_revS {K : PySem.W.Frag} {σ : L2.St} {G : Hp} {te : TE} {z : Str} (h : Evd K te σ G (.str z)) (hz : z.length ≤ 1000) : Evd K (tRevS te) σ G (.str (revT z)) := fun H e Q q => h H e _ fun v G1 H1 n1 dv => by
  cases dv
  exact ⟨z, rfl, sizeK hz, q _ G1 H1 n1 (.str _)⟩
end GL
namespace GL
open PySem PySem.Spec PyProof.Rows L2
theorem ed_gtL {K : PySem.W.Frag} {σ : L2.St} {G : Hp} {ta tb : TE} {i j : Int} {b : Bool} (ha : Evd K ta σ G (.int i)) (hb : Evd K tb σ G (.int j)) (hz : decide (i < j) = b) : Evd K (tOp (rI0 fun i j => .bl (decide (i < j))) ta tb) σ G (.bl b) := ed_two ha (fun _ s => hb.up s) fun v w G' H' _ e dv dw Q k => by
  cases dv; cases dw
  subst hz
  exact ⟨i, j, rfl, rfl, k _ G' H' (Nw.refl e) (.bl _)⟩
end GL

set_option Elab.async false
set_option linter.all false
set_option autoImplicit false
set_option maxRecDepth 100000
set_option maxHeartbeats 4000000
namespace GL
open PySem PySem.Spec PyProof.Rows L2
open MeetsSeq MeetsSeq2 MeetsSeq3 SeqRoads2 AutoSeq1
/-! == of sequences, item by item, whatever the answer; what holds between the items is I -/
section
variable {prog : Program} {w : World} {A : Around} {R : Result → Shared → Prop}
theorem b_list_loop (l b : Addr) (N : Nat) (e : Nat → Bool) (I : Shared → Prop)
    (hl : ∀ i s, I s → ∃ (items items2 : Array Value) (n n2 : Nat), s.heap.get? l = some { cls := .type "list", data := .seq items n } ∧ s.heap.get? b = some { cls := .type "list", data := .seq items2 n2 } ∧ items.size = N ∧ items2.size = N ∧
      ∀ (h1 : i < items.size) (h2 : i < items2.size), wpAny (model prog w) A.in1 (eqBool items[i] items2[i]) (fun r s' => r = e i ∧ I s') (fun e s' => R (.error e) s') s)
    (fin : ∀ s k, I s → k = (List.range N).all e → R (.ok (.ret (.bool k))) s) (k : Nat) :
    ∀ i : Nat, N - i = k → i ≤ N → ((List.range N).take i).all e = true → ∀ s, I s →
      wpAny (model prog w) A.in1 (Builtin.«list.__eq__.loop» ⟨[.ref l, .ref b, rawInt i, rawInt 2], []⟩) (GQ.FinOf prog w A R) (fun e s' => R (.error e) s') s := by
  induction k with
  | zero =>
    intro i hk hi hall s h
    obtain ⟨items, items2, n, n2, hl1, hb1, hs1, hs2, _⟩ := hl i _ h
    have hi' : i = N := by omega
    have hR : R (.ok (.ret (.bool true))) s := fin s true h (by rw [← hall, hi', List.take_of_length_le (by simp)])
    obtain ⟨hp, g, d, tk, os⟩ := s
    wp_walk using wpAny_loadPart' hl1, wpAny_loadPart' hb1
    have hi1 : items[((i : Nat) : Int).toNat]? = none := by simp; omega
    have hi2 : items2[((i : Nat) : Int).toNat]? = none := by simp; omega
    rw [hi1, hi2]
    wp_walk using wpAny_loadPart' hl1, wpAny_loadPart' hb1
    show R (.ok (.ret (.bool (items.size == items2.size)))) _
    rw [hs1, hs2]
    simpa using hR
  | succ k ih =>
    intro i hk hi hall s h
    obtain ⟨items, items2, n, n2, hl1, hb1, hs1, hs2, turn⟩ := hl i _ h
    have hlt : i < items.size := by omega
    have hlt2 : i < items2.size := by omega
    have hN : i < N := by omega
    have ht := turn hlt hlt2
    obtain ⟨hp, g, d, tk, os⟩ := s
    wp_walk using wpAny_loadPart' hl1, wpAny_loadPart' hb1
    have hi1 : items[((i : Nat) : Int).toNat]? = some items[i] := by simp [hlt]
    have hi2 : items2[((i : Nat) : Int).toNat]? = some items2[i] := by simp [hlt2]
    have hc : ((i : Int) + 1) = ((i + 1 : Nat) : Int) := by omega
    rw [hi1, hi2]
    have step : ((List.range N).take (i + 1)).all e = e i := by
      rw [List.take_succ, List.all_append, hall]
      simp [hN]
    refine wpAny_bind (wpAny_mono ht (fun r s2 h2 => ?_) fun _ _ x => x)
    obtain ⟨hr, h2⟩ := h2
    subst hr
    cases hb : e i with
    | true =>
      have hrec := ih (i + 1) (by omega) (by omega) (by rw [step, hb]) s2 h2
      obtain ⟨hp2, g2, d2, tk2, os2⟩ := s2
      wp_walk
      rw [hc]
      exact ⟨plainId_quiet plain_eq_loop _, codeAny_builtin entry_eq_loop (by
        rw [Around.under_plainId plain_eq_loop _]
        exact hrec)⟩
    | false =>
      have hf : (List.range N).all e = false := by
        rw [List.all_eq_false]
        exact ⟨i, by simp [hN], by simp [hb]⟩
      obtain ⟨i1, i2, n', n2', hl2, hb2, _, _, _⟩ := hl i _ h2
      have hR := fin s2 false h2 hf.symm
      have z1 : i1[((i : Nat) : Int).toNat]? = some i1[i]! := by
        have : i < i1.size := by omega
        simp [this]
      have z2 : i2[((i : Nat) : Int).toNat]? = some i2[i]! := by
        have : i < i2.size := by omega
        simp [this]
      obtain ⟨hp2, g2, d2, tk2, os2⟩ := s2
      wp_walk using wpAny_loadPart' hl2, wpAny_loadPart' hb2
      rw [z1, z2]
      wp_walk
      exact hR
end
section
variable {prog : Program} {w : World} {A : Around} {R : Result → Shared → Prop}
theorem b_list_eq (l b : Addr) (N : Nat) (e : Nat → Bool) (I : Shared → Prop)
    (hl : ∀ i s, I s → ∃ (items items2 : Array Value) (n n2 : Nat), s.heap.get? l = some { cls := .type "list", data := .seq items n } ∧ s.heap.get? b = some { cls := .type "list", data := .seq items2 n2 } ∧ items.size = N ∧ items2.size = N ∧
      ∀ (h1 : i < items.size) (h2 : i < items2.size), wpAny (model prog w) A.in1 (eqBool items[i] items2[i]) (fun r s' => r = e i ∧ I s') (fun e s' => R (.error e) s') s)
    (fin : ∀ s k, I s → k = (List.range N).all e → R (.ok (.ret (.bool k))) s) {s : Shared} (h : I s) :
    wpAny (model prog w) A.in1 (Builtin.«list.__eq__» ⟨[.ref l, .ref b], []⟩) (GQ.FinOf prog w A R) (fun e s' => R (.error e) s') s := by
  obtain ⟨items, items2, n, n2, hl1, hb1, hs1, hs2, _⟩ := hl 0 _ h
  have hrec := b_list_loop (A := A) (R := R) l b N e I hl fin _ 0 rfl (Nat.zero_le _) rfl s h
  obtain ⟨hp, g, d, tk, os⟩ := s
  have f3 := AutoSeq1.sub_list_list
  have hne : ¬ (items.size != items2.size) = true := by simp [hs1, hs2]
  wp_walk using wpAny_loadPart' hl1, wpAny_loadPart' hb1
  exact ⟨plainId_quiet plain_eq_loop _, codeAny_builtin entry_eq_loop (by
    rw [Around.under_plainId plain_eq_loop _]
    exact hrec)⟩
theorem b_tup_eq (l b : Addr) (items items2 : Array Value) (n n2 : Nat) (dd dd2 : Option Addr) (sl sl2 : Array (Option Value)) (e : Nat → Bool) (I : Shared → Prop)
    (turn : ∀ i (h1 : i < items.size) (h2 : i < items2.size) s, I s → wpAny (model prog w) A.in1 (eqBool items[i] items2[i]) (fun r s' => r = e i ∧ I s') (fun e s' => R (.error e) s') s)
    (fin : ∀ s k, I s → k = ((List.range (min items.size items2.size)).all e && items.size == items2.size) → R (.ok (.ret (.bool k))) s) {s : Shared} (hl1 : s.heap.get? l = some { cls := .type "tuple", dict := dd, data := .seq items n, slots := sl }) (hb1 : s.heap.get? b = some { cls := .type "tuple", dict := dd2, data := .seq items2 n2, slots := sl2 }) (h : I s) :
    wpAny (model prog w) A.in1 (Builtin.«tuple.__eq__» ⟨[.ref l, .ref b], []⟩) (GQ.FinOf prog w A R) (fun e s' => R (.error e) s') s := by
  have f2 := AutoSeq1.sub_tuple_tuple
  have hZ : (items.toList.zip items2.toList).length = min items.size items2.size := by simp
  have h0 := h
  obtain ⟨hp, g, d, tk, os⟩ := s
  wp_walk using wpAny_loadPart' hl1, wpAny_loadPart' hb1, wpAny_forIn_list _ (fun rest b s' => b.1 = none ∧ I s' ∧ ∃ i, rest = (items.toList.zip items2.toList).drop i ∧ ((List.range (min items.size items2.size)).take i).all e = true) _
  case turn =>
    rintro ⟨y, x⟩ rest b s' ⟨hb', hI, i, hz, hall⟩
    have hlt : i < (items.toList.zip items2.toList).length := by
      rcases Nat.lt_or_ge i (items.toList.zip items2.toList).length with h' | h'
      · exact h'
      · rw [List.drop_of_length_le h'] at hz; cases hz
    have hm : i < min items.size items2.size := hZ ▸ hlt
    have h1 : i < items.size := Nat.lt_of_lt_of_le hm (Nat.min_le_left _ _)
    have h2 : i < items2.size := Nat.lt_of_lt_of_le hm (Nat.min_le_right _ _)
    rw [List.drop_eq_getElem_cons hlt] at hz
    injection hz with hyx hrest
    have hy : y = items[i] := by have := congrArg Prod.fst hyx; simpa using this
    have hx : x = items2[i] := by have := congrArg Prod.snd hyx; simpa using this
    subst hy hx
    refine wpAny_bind (wpAny_mono (turn i h1 h2 s' hI) (fun r s2 q2 => ?_) fun _ _ x => x)
    obtain ⟨hr, q2⟩ := q2
    subst hr
    cases hb : e i with
    | true =>
      wp_walk
      refine ⟨rfl, q2, i + 1, hrest, ?_⟩
      rw [List.take_succ, List.all_append, hall]
      have : i < items.size ∧ i < items2.size := ⟨h1, h2⟩
      simp [hb, hm]
    | false =>
      have hf : ((List.range (min items.size items2.size)).all e && items.size == items2.size) = false := by
        have : (List.range (min items.size items2.size)).all e = false := by
          rw [List.all_eq_false]
          exact ⟨i, by simpa using hm, by simp [hb]⟩
        rw [this]; rfl
      have hR := fin s2 false q2 hf.symm
      wp_walk
      first
      | exact ⟨_, rfl, hR⟩
      | exact hR
      | simpa using hR
  case fin =>
    rintro ⟨b1, b2⟩ s' ⟨hb', hI, i, hz, hall⟩
    simp only at hb'
    subst hb'
    have hge : min items.size items2.size ≤ i := by
      rcases Nat.lt_or_ge i (items.toList.zip items2.toList).length with h' | h'
      · rw [List.drop_eq_getElem_cons h'] at hz; cases hz
      · exact hZ ▸ h'
    rw [List.take_of_length_le (by simpa using hge)] at hall
    have hR := fin s' (items.size == items2.size) hI (by rw [hall]; rfl)
    wp_walk
    first
    | exact ⟨_, rfl, by simpa [Builtin.Tuple.tupleCompareSizes] using hR⟩
    | simpa [Builtin.Tuple.tupleCompareSizes] using hR
  case h =>
    exact ⟨rfl, h0, 0, rfl, rfl⟩
/-- x in list: the items are read anew at each turn -/
theorem b_in_loop (l : Addr) (x : Value) (N : Nat) (e : Nat → Bool) (I : Shared → Prop)
    (hl : ∀ i s, I s → ∃ (items : Array Value) (n : Nat), s.heap.get? l = some { cls := .type "list", data := .seq items n } ∧ items.size = N ∧
      ∀ (h1 : i < items.size), wpAny (model prog w) A.in1 (eqBool items[i] x) (fun r s' => r = e i ∧ I s') (fun e s' => R (.error e) s') s)
    (fin : ∀ s k, I s → k = (List.range N).any e → R (.ok (.ret (.bool k))) s) (k : Nat) :
    ∀ i : Nat, N - i = k → i ≤ N → ((List.range N).take i).any e = false → ∀ s, I s →
      wpAny (model prog w) A.in1 (Builtin.«list.__contains__.loop» ⟨[.ref l, x, rawInt i], []⟩) (GQ.FinOf prog w A R) (fun e s' => R (.error e) s') s := by
  induction k with
  | zero =>
    intro i hk hi hall s h
    obtain ⟨items, n, hl1, hs1, _⟩ := hl i _ h
    have hi' : i = N := by omega
    have hR : R (.ok (.ret (.bool false))) s := fin s false h (by rw [← hall, hi', List.take_of_length_le (by simp)])
    obtain ⟨hp, g, d, tk, os⟩ := s
    wp_walk using wpAny_loadPart' hl1
    have hi1 : items[((i : Nat) : Int).toNat]? = none := by simp; omega
    rw [hi1]
    wp_walk
    exact hR
  | succ k ih =>
    intro i hk hi hall s h
    obtain ⟨items, n, hl1, hs1, turn⟩ := hl i _ h
    have hlt : i < items.size := by omega
    have hN : i < N := by omega
    have ht := turn hlt
    obtain ⟨hp, g, d, tk, os⟩ := s
    wp_walk using wpAny_loadPart' hl1
    have hi1 : items[((i : Nat) : Int).toNat]? = some items[i] := by simp [hlt]
    have hc : ((i : Int) + 1) = ((i + 1 : Nat) : Int) := by omega
    rw [hi1]
    have step : ((List.range N).take (i + 1)).any e = e i := by
      rw [List.take_succ, List.any_append, hall]
      simp [hN]
    refine wpAny_bind (wpAny_mono ht (fun r s2 h2 => ?_) fun _ _ x => x)
    obtain ⟨hr, h2⟩ := h2
    subst hr
    cases hb : e i with
    | false =>
      have hrec := ih (i + 1) (by omega) (by omega) (by rw [step, hb]) s2 h2
      obtain ⟨hp2, g2, d2, tk2, os2⟩ := s2
      wp_walk
      rw [hc]
      exact ⟨plainId_quiet plain_contains_loop _, codeAny_builtin entry_contains_loop (by
        rw [Around.under_plainId plain_contains_loop _]
        exact hrec)⟩
    | true =>
      have hf : (List.range N).any e = true := by
        rw [List.any_eq_true]
        exact ⟨i, by simp [hN], hb⟩
      have hR := fin s2 true h2 hf.symm
      obtain ⟨hp2, g2, d2, tk2, os2⟩ := s2
      wp_walk
      exact hR
theorem b_in_list (l : Addr) (x : Value) (N : Nat) (e : Nat → Bool) (I : Shared → Prop)
    (hl : ∀ i s, I s → ∃ (items : Array Value) (n : Nat), s.heap.get? l = some { cls := .type "list", data := .seq items n } ∧ items.size = N ∧
      ∀ (h1 : i < items.size), wpAny (model prog w) A.in1 (eqBool items[i] x) (fun r s' => r = e i ∧ I s') (fun e s' => R (.error e) s') s)
    (fin : ∀ s k, I s → k = (List.range N).any e → R (.ok (.ret (.bool k))) s) {s : Shared} (h : I s) :
    wpAny (model prog w) A.in1 (Builtin.«list.__contains__» ⟨[.ref l, x], []⟩) (GQ.FinOf prog w A R) (fun e s' => R (.error e) s') s := by
  obtain ⟨items, n, hl1, hs1, _⟩ := hl 0 _ h
  have hrec := b_in_loop (A := A) (R := R) l x N e I hl fin _ 0 rfl (Nat.zero_le _) rfl s h
  obtain ⟨hp, g, d, tk, os⟩ := s
  wp_walk using wpAny_loadPart' hl1
  exact ⟨plainId_quiet plain_contains_loop _, codeAny_builtin entry_contains_loop (by
    rw [Around.under_plainId plain_contains_loop _]
    exact hrec)⟩
theorem b_in_tup (l : Addr) (x : Value) (items : Array Value) (n : Nat) (dd : Option Addr) (sl : Array (Option Value)) (e : Nat → Bool) (I : Shared → Prop)
    (turn : ∀ i (h1 : i < items.size) s, I s → wpAny (model prog w) A.in1 (eqBool items[i] x) (fun r s' => r = e i ∧ I s') (fun e s' => R (.error e) s') s)
    (fin : ∀ s k, I s → k = (List.range items.size).any e → R (.ok (.ret (.bool k))) s) {s : Shared} (hl1 : s.heap.get? l = some { cls := .type "tuple", dict := dd, data := .seq items n, slots := sl }) (h : I s) :
    wpAny (model prog w) A.in1 (Builtin.«tuple.__contains__» ⟨[.ref l, x], []⟩) (GQ.FinOf prog w A R) (fun e s' => R (.error e) s') s := by
  have h0 := h
  have hZ : items.toList.length = items.size := by simp
  obtain ⟨hp, g, d, tk, os⟩ := s
  wp_walk using wpAny_loadPart' hl1, wpAny_forIn_array _ (fun rest b s' => b.1 = none ∧ I s' ∧ ∃ i, rest = items.toList.drop i ∧ ((List.range items.size).take i).any e = false) _
  case turn =>
    rintro y rest b s' ⟨hb', hI, i, hz, hall⟩
    have hlt : i < items.toList.length := by
      rcases Nat.lt_or_ge i items.toList.length with h' | h'
      · exact h'
      · rw [List.drop_of_length_le h'] at hz; cases hz
    have h1 : i < items.size := hZ ▸ hlt
    rw [List.drop_eq_getElem_cons hlt] at hz
    injection hz with hy hrest
    have hy : y = items[i] := by simpa using hy
    subst hy
    refine wpAny_bind (wpAny_mono (turn i h1 s' hI) (fun r s2 q2 => ?_) fun _ _ x => x)
    obtain ⟨hr, q2⟩ := q2
    subst hr
    cases hb : e i with
    | false =>
      wp_walk
      refine ⟨rfl, q2, i + 1, hrest, ?_⟩
      rw [List.take_succ, List.any_append, hall]
      simp [hb, h1]
    | true =>
      have hf : (List.range items.size).any e = true := by
        rw [List.any_eq_true]
        exact ⟨i, by simpa using h1, hb⟩
      have hR := fin s2 true q2 hf.symm
      wp_walk
      first
      | exact ⟨_, rfl, hR⟩
      | exact hR
  case fin =>
    rintro ⟨b1, b2⟩ s' ⟨hb', hI, i, hz, hall⟩
    simp only at hb'
    subst hb'
    have hge : items.size ≤ i := by
      rcases Nat.lt_or_ge i items.toList.length with h' | h'
      · rw [List.drop_eq_getElem_cons h'] at hz; cases hz
      · exact hZ ▸ h'
    rw [List.take_of_length_le (by simpa using hge)] at hall
    have hR := fin s' false hI hall.symm
    wp_walk
    first
    | exact ⟨_, rfl, hR⟩
    | exact hR
  case h =>
    exact ⟨rfl, h0, 0, rfl, rfl⟩
end
end GL

set_option Elab.async false
set_option linter.all false
set_option autoImplicit false
set_option maxRecDepth 100000
set_option maxHeartbeats 4000000
namespace GL
open PySem PySem.Spec PyProof.Rows L2
open PySem.W (Frag InstAt findIn isFn subIn looks_subIn ifBound_K notFirst Looks)
section
variable {prog : Program} {w : World} {A : Around} {E : Value → Shared → Prop} {s : Shared} {K : Frag} {x C f : Addr} {ox : Obj} {od : Option Obj} {a : Value} {T id : String}
/-- a == x, a of a built-in kind that declines, x an instance with an own __eq__ -/
theorem rc_refl {Q : Value → Shared → Prop} (hu : A.units < cLine) (X : K.In s.heap) (I : InstAt s.heap x ox C od) (ha : s.TypeIs a T) (slot : Slot T "__eq__" id) (hsub : subIn K (.ref C) (.type T) = some false)
    (dec : ∀ (E Q : Value → Shared → Prop), Q .notImplemented s → wpAny (model prog w) A (call (.builtin id) [a, .ref x]) Q E s)
    (hs : findIn K (.ref C) "__eq__" = some (some (.ref f))) (hf : isFn K (.ref f) = true)
    (h : wpAny (model prog w) A (call (.ref f) [.ref x, a]) (PySem.W.CmpBack Q) E s) : wpAny (model prog w) A (richCompare .Eq a (.ref x)) Q E s := by
  have two : wpAny (model prog w) A (tryCompare (.ref x) "__eq__" a) (fun r s' => ∃ v, r = some v ∧ Q v s') E s := by
    unfold tryCompare
    refine wpAny_bind (ifBound_K X I hs hf (wpAny_mono h (fun v s' hv => ?_) fun _ _ e => e))
    cases v <;> first | exact hv.elim | exact wpAny_pure ⟨_, rfl, hv⟩
  unfold richCompare
  simp only [cmpInfo, ha.oneThing_none]
  refine wpAny_holding (wpAny_bind (wpAny_cRoomFor hu ?_))
  refine wpAny_bind (wpAny_typeOf ha (wpAny_bind (I.type.here ?_)))
  have hne : (Value.type T != Value.ref C) = true := by
    rw [bne_iff_ne]; exact fun z => nomatch z
  simp only [hne, if_true]
  refine wpAny_bind ((looks_subIn X hsub).here ?_)
  simp only [Bool.false_eq_true, if_false, Bool.not_false, if_true]
  refine wpAny_bind (m := tryCompare a _ _) (wpAny_tryCompare_declines ha slot (dec _ _ ⟨rfl, ?_⟩))
  refine wpAny_bind (m := tryCompare (.ref x) _ a) (wpAny_mono two (fun r s' z => ?_) fun _ _ e => e)
  obtain ⟨v, rfl, hq⟩ := z
  exact wpAny_pure hq
end
section
variable {prog : Program} {w : World} {A : Around} {s : Shared} {K : Frag} {x C : Addr} {ox : Obj} {od : Option Obj}
/-- what the built-in kinds say to an instance -/
theorem dec_none (hx : s.heap.get? x = some ox) : ∀ (E Q : Value → Shared → Prop), Q .notImplemented s → wpAny (model prog w) A (call (.builtin "NoneType.__eq__") [.none, .ref x]) Q E s := fun E Q q =>
  call_gives F.slot_NoneType_eq (typeIs_none s) F.entry_NoneType_eq (F.args_NoneType_eq_2 _ _) (SeqAt.NoneType___eq___none_ref_0 x) q
theorem str_eq_ins (a : Str) (t : Tok) (x : Addr) (c : Value) (dd : Option Addr) (sl : Array (Option Value)) :
    Meets (Builtin.«str.__eq__» ⟨[.str a t, .ref x], []⟩) (fun _ R s => s.heap.get? x = some { cls := c, dict := dd, data := .plain, slots := sl } ∧ R (.ok (.ret .notImplemented)) s) :=
  .of_wp fun prog w A R s h => by obtain ⟨hp, g, d, tk, os⟩ := s; obtain ⟨hl, h⟩ := h; wp_walk using wpAny_loadPart' hl; exact ⟨_, rfl, h⟩
theorem int_eq_ins (a : Int) (t : Tok) (x : Addr) (c : Value) (dd : Option Addr) (sl : Array (Option Value)) :
    Meets (Builtin.«int.__eq__» ⟨[.int a t, .ref x], []⟩) (fun _ R s => s.heap.get? x = some { cls := c, dict := dd, data := .plain, slots := sl } ∧ R (.ok (.ret .notImplemented)) s) :=
  .of_wp fun prog w A R s h => by obtain ⟨hp, g, d, tk, os⟩ := s; obtain ⟨hl, h⟩ := h; wp_walk using wpAny_loadPart' hl; exact ⟨_, rfl, h⟩
theorem bool_eq_ins (a : Bool) (x : Addr) (c : Value) (dd : Option Addr) (sl : Array (Option Value)) :
    Meets (Builtin.«int.__eq__» ⟨[.bool a, .ref x], []⟩) (fun _ R s => s.heap.get? x = some { cls := c, dict := dd, data := .plain, slots := sl } ∧ R (.ok (.ret .notImplemented)) s) :=
  .of_wp fun prog w A R s h => by obtain ⟨hp, g, d, tk, os⟩ := s; obtain ⟨hl, h⟩ := h; wp_walk using wpAny_loadPart' hl; exact ⟨_, rfl, h⟩
theorem list_eq_ins (K : Frag) (C l x : Addr) (items : Array Value) (n : Nat) (dd dd2 : Option Addr) (sl sl2 : Array (Option Value)) (hs : subIn K (.ref C) (.type "list") = some false) :
    Meets (Builtin.«list.__eq__» ⟨[.ref l, .ref x], []⟩) (fun _ R s => K.In s.heap ∧ s.heap.get? l = some { cls := .type "list", dict := dd, data := .seq items n, slots := sl } ∧ s.heap.get? x = some { cls := .ref C, dict := dd2, data := .plain, slots := sl2 } ∧ R (.ok (.ret .notImplemented)) s) := by
  intro prog w A R s h
  obtain ⟨X, hl, hx, h⟩ := h
  have LK := looks_subIn (M := model prog w) X hs
  obtain ⟨hp, g, d, tk, os⟩ := s
  wp_walk using wpAny_loadPart' hl, wpAny_loadPart' hx
  refine LK.here ?_
  wp_walk using wpAny_loadPart' hl, wpAny_loadPart' hx
  first | exact h | exact ⟨_, rfl, h⟩
theorem tuple_eq_ins (K : Frag) (C l x : Addr) (items : Array Value) (n : Nat) (dd dd2 : Option Addr) (sl sl2 : Array (Option Value)) (hs : subIn K (.ref C) (.type "tuple") = some false) :
    Meets (Builtin.«tuple.__eq__» ⟨[.ref l, .ref x], []⟩) (fun _ R s => K.In s.heap ∧ s.heap.get? l = some { cls := .type "tuple", dict := dd, data := .seq items n, slots := sl } ∧ s.heap.get? x = some { cls := .ref C, dict := dd2, data := .plain, slots := sl2 } ∧ R (.ok (.ret .notImplemented)) s) := by
  intro prog w A R s h
  obtain ⟨X, hl, hx, h⟩ := h
  have LK := looks_subIn (M := model prog w) X hs
  obtain ⟨hp, g, d, tk, os⟩ := s
  wp_walk using wpAny_loadPart' hl, wpAny_loadPart' hx
  refine LK.here ?_
  wp_walk using wpAny_loadPart' hl, wpAny_loadPart' hx
  first | exact h | exact ⟨_, rfl, h⟩
theorem dict_eq_ins (K : Frag) (C l x : Addr) (es : Array DictEntry) (n : Nat) (dd dd2 : Option Addr) (sl sl2 : Array (Option Value)) (hs : subIn K (.ref C) (.type "dict") = some false) :
    Meets (Builtin.«dict.__eq__» ⟨[.ref l, .ref x], []⟩) (fun _ R s => K.In s.heap ∧ s.heap.get? l = some { cls := .type "dict", dict := dd, data := .dict es n, slots := sl } ∧ s.heap.get? x = some { cls := .ref C, dict := dd2, data := .plain, slots := sl2 } ∧ R (.ok (.ret .notImplemented)) s) := by
  intro prog w A R s h
  obtain ⟨X, hl, hx, h⟩ := h
  have LK := looks_subIn (M := model prog w) X hs
  obtain ⟨hp, g, d, tk, os⟩ := s
  wp_walk using wpAny_loadPart' hl, wpAny_loadPart' hx
  refine LK.here ?_
  wp_walk using wpAny_loadPart' hl, wpAny_loadPart' hx
  first | exact h | exact ⟨_, rfl, h⟩
end
end GL

set_option Elab.async false
set_option linter.all false
set_option autoImplicit false
set_option maxRecDepth 100000
set_option maxHeartbeats 4000000
namespace GL
open PySem PySem.Spec PyProof.Rows L2
open PySem.W (Frag InstAt findIn isFn subIn looks_subIn ifBound_K notFirst Looks)
theorem eqBool_rc {prog : Program} {w : World} {A : Around} {E : Value → Shared → Prop} {s : Shared} {a b : Value} {Q : Bool → Shared → Prop} (hf : ∀ x t, a ≠ .float x t) (hne : (a == b) = false) (h : wpAny (model prog w) A (richCompare .Eq a b) (fun v s' => ∃ r, v = .bool r ∧ Q r s') E s) : wpAny (model prog w) A (eqBool a b) Q E s := by
  unfold eqBool
  refine wpAny_holding ?_
  refine wpAny_ite_split (fun hab => by rw [hne] at hab; exact nomatch hab) (fun _ => ?_)
  have fin : wpAny (model prog w) A (richCompare .Eq a b) (fun v s' => wpAny (model prog w) A (truthOfDropped v) Q E s') E s := wpAny_mono h (fun v s' hv => by
    obtain ⟨r, rfl, q⟩ := hv
    exact wpAny_truthy_bool q) fun _ _ x => x
  cases a <;> first | exact absurd rfl (hf _ _) | exact wpAny_bind fin
/-- == of what is such data gives b, and only makes objects -/
def EqD (X : Cx) (n : Nat) (d1 d2 : Da) (b : Bool) : Prop :=
  ∀ (A : Around) (pins : List (Addr × Obj)) (s : Shared) (σ : L2.St) (H : Hp) (x y : V) (u v : Value), Sub X n A → Inv X pins σ H s → RelV x u → RelV y v → DR X.K H x d1 → DR X.K H y d2 →
    wpAny (model X.prog X.w) A (eqBool u v) (fun r s' => r = b ∧ LoopI X pins σ H s') X.xe s
def RcD (X : Cx) (n : Nat) (d1 d2 : Da) (b : Bool) : Prop :=
  ∀ (A : Around) (pins : List (Addr × Obj)) (s : Shared) (σ : L2.St) (H : Hp) (x y : V) (u v : Value), Sub X n A → Inv X pins σ H s → RelV x u → RelV y v → DR X.K H x d1 → DR X.K H y d2 →
    wpAny (model X.prog X.w) A (richCompare .Eq u v) (fun r s' => r = .bool b ∧ LoopI X pins σ H s') X.xe s
mutual
/-- no class, no error lies within -/
def okE : Da → Bool
  | .non | .bl _ | .int _ | .str _ => true
  | .lst ds | .tup ds | .dct _ ds | .ins _ _ ds => okEs ds
  | .ty _ | .obj _ | .exc _ _ _ => false
def okEs : List Da → Bool
  | [] => true
  | d :: ds => okE d && okEs ds
end
theorem zip_inj {α β : Type} : ∀ {ks ks' : List α} {vs vs' : List β}, ks.length = vs.length → ks'.length = vs'.length → ks.zip vs = ks'.zip vs' → ks = ks' ∧ vs = vs'
  | [], [], [], [], _, _, _ => ⟨rfl, rfl⟩
  | k :: ks, k' :: ks', v :: vs, v' :: vs', h, h', e => by
    simp only [List.zip_cons_cons, List.cons.injEq, Prod.mk.injEq] at e
    obtain ⟨⟨rfl, rfl⟩, e⟩ := e
    obtain ⟨rfl, rfl⟩ := zip_inj (by simpa using h) (by simpa using h') e
    exact ⟨rfl, rfl⟩
  | [], [], [], _ :: _, _, h, _ => nomatch h
  | [], [], _ :: _, _, h, _, _ => nomatch h
  | [], _ :: _, _, [], _, h, _ => nomatch h
  | [], _ :: _, [], _ :: _, _, _, e => nomatch e
  | [], _ :: _, _ :: _, _, h, _, _ => nomatch h
  | _ :: _, _, [], _, h, _, _ => nomatch h
  | _ :: _, [], _ :: _, [], _, _, e => nomatch e
  | _ :: _, [], _ :: _, _ :: _, _, h, _ => nomatch h
  | _ :: _, _ :: _, _ :: _, [], _, h, _ => nomatch h
section
variable {K : Frag} {H : Hp}
mutual
theorem DR.uniq : ∀ (d e : Da) {v : V}, okE d = true → okE e = true → DR K H v d → DR K H v e → d = e
  | .non, e, _, _, h2, r, k => by cases r; cases k; rfl
  | .bl b, e, _, _, h2, r, k => by cases r; cases k; rfl
  | .int i, e, _, _, h2, r, k => by cases r; cases k; rfl
  | .str x, e, _, _, h2, r, k => by cases r; cases k; rfl
  | .ty n, _, _, h1, _, _, _ => nomatch h1
  | .obj a, _, _, h1, _, _, _ => nomatch h1
  | .exc _ _ _, _, _, h1, _, _, _ => nomatch h1
  | .lst ds, e, _, h1, h2, r, k => by
    cases r with
    | lst a1 a2 => cases k with
      | lst b1 b2 => rw [a1] at b1; cases b1; rw [DRs.uniq ds _ h1 h2 a2 b2]
      | tup b1 b2 => rw [a1] at b1; cases b1
      | dct b1 b2 => rw [a1] at b1; cases b1
      | ins b1 b2 => rw [a1] at b1; cases b1
      | obj | exc | exc0 => exact nomatch h2
  | .tup ds, e, _, h1, h2, r, k => by
    cases r with
    | tup a1 a2 => cases k with
      | tup b1 b2 => rw [a1] at b1; cases b1; rw [DRs.uniq ds _ h1 h2 a2 b2]
      | lst b1 b2 => rw [a1] at b1; cases b1
      | dct b1 b2 => rw [a1] at b1; cases b1
      | ins b1 b2 => rw [a1] at b1; cases b1
      | obj | exc | exc0 => exact nomatch h2
  | .dct ks ds, e, _, h1, h2, r, k => by
    cases r with
    | dct a1 a2 a3 => cases k with
      | dct b1 b2 b3 =>
        rw [a1] at b1
        obtain ⟨rfl, rfl⟩ := zip_inj a2 b2 (by simpa using b1)
        rw [DRs.uniq ds _ h1 h2 a3 b3]
      | lst b1 b2 => rw [a1] at b1; cases b1
      | tup b1 b2 => rw [a1] at b1; cases b1
      | ins b1 b2 => rw [a1] at b1; cases b1
      | obj | exc | exc0 => exact nomatch h2
  | .ins C ns ds, e, _, h1, h2, r, k => by
    cases r with
    | ins a1 a2 a3 => cases k with
      | ins b1 b2 b3 =>
        rw [a1] at b1
        have b1 := Option.some.inj b1
        injection b1 with e1 e2 e3
        subst e1
        obtain ⟨rfl, rfl⟩ := zip_inj a2 b2 e3
        rw [DRs.uniq ds _ h1 h2 a3 b3]
      | lst b1 b2 => rw [a1] at b1; cases b1
      | tup b1 b2 => rw [a1] at b1; cases b1
      | dct b1 b2 => rw [a1] at b1; cases b1
      | obj | exc | exc0 => exact nomatch h2
theorem DRs.uniq : ∀ (ds es : List Da) {vs : List V}, okEs ds = true → okEs es = true → DRs K H vs ds → DRs K H vs es → ds = es
  | [], _, _, _, _, r, k => by cases r; cases k; rfl
  | d :: ds, es, _, h1, h2, r, k => by
    cases r with
    | cons a1 a2 => cases k with
      | cons b1 b2 =>
        simp only [okEs, Bool.and_eq_true] at h1 h2
        rw [DR.uniq d _ h1.1 h2.1 a1 b1, DRs.uniq ds _ h1.2 h2.2 a2 b2]
end
end
section
variable {X : Cx} {n : Nat} {d d1 d2 : Da} {b : Bool} {ds es : List Da}
theorem EqD.is {c : Bool} (h : EqD X n d1 d2 b) (e : b = c) : EqD X n d1 d2 c := e ▸ h
theorem EqD.mono {m : Nat} (h : EqD X n d1 d2 b) (e : n ≤ m) : EqD X m d1 d2 b := fun A pins s σ H x y u v sb => h A pins s σ H x y u v (sb.mono e)
def vOfD : Da → V
  | .bl b => .bl b
  | .int i => .int i
  | .str x => .str x
  | _ => .non
theorem flat_v {K : Frag} {H : Hp} {x : V} (h : DR K H x d) (f : flatD d = true) : x = vOfD d ∧ flatV x = true := by
  cases h with
  | non => exact ⟨rfl, rfl⟩
  | bl b => exact ⟨rfl, rfl⟩
  | int i => exact ⟨rfl, rfl⟩
  | str x => exact ⟨rfl, rfl⟩
  | _ => exact nomatch f
theorem loopI_refl {pins : List (Addr × Obj)} {s : Shared} {σ : L2.St} {H : Hp} (I : Inv X pins σ H s) : LoopI X pins σ H s := ⟨H, I, Ext.rfl'⟩
theorem eqD_flat (f1 : flatD d1 = true) (f2 : flatD d2 = true) : EqD X n d1 d2 (eqV (vOfD d1) (vOfD d2)) := fun A pins s σ H x y u v sb I rx ry h1 h2 => by
  obtain ⟨rfl, g1⟩ := flat_v h1 f1
  obtain ⟨rfl, g2⟩ := flat_v h2 f2
  exact eqAt_V (A := A) (s := s) rx ry g1 g2 X.prog X.w X.xe _ ⟨rfl, loopI_refl I⟩
/-- what kinds differ -/
inductive Kd where | fl | ls | tp
def kd : Da → Option Kd
  | .non | .bl _ | .int _ | .str _ => some .fl
  | .lst _ => some .ls
  | .tup _ => some .tp
  | _ => none
theorem isList_of {pins : List (Addr × Obj)} {s : Shared} {σ : L2.St} {H : Hp} {a : Addr} {xs : List V} (I : Inv X pins σ H s) (h : H a = some (.lst xs)) : ∃ its : List Value, s.heap.IsList a its.toArray ∧ Vals xs its := by
  obtain ⟨its, r, p, _⟩ := I.list (SqL.of (K := X.K) h)
  exact ⟨its, p.isList, r⟩
theorem isTup_of {pins : List (Addr × Obj)} {s : Shared} {σ : L2.St} {H : Hp} {a : Addr} {xs : List V} (I : Inv X pins σ H s) (h : H a = some (.tup xs)) : ∃ its : List Value, s.heap.IsTuple a its.toArray ∧ Vals xs its := by
  obtain ⟨its, r, p, _⟩ := I.tuple (SqT.of (K := X.K) h)
  exact ⟨its, p, r⟩
/-- of unlike kinds -/
theorem eqD_odd (h : (∃ ds, d1 = .lst ds ∧ (flatD d2 = true ∨ ∃ es, d2 = .tup es)) ∨ (∃ ds, d1 = .tup ds ∧ (flatD d2 = true ∨ ∃ es, d2 = .lst es)) ∨ (flatD d1 = true ∧ ((∃ es, d2 = .lst es) ∨ ∃ es, d2 = .tup es))) : EqD X n d1 d2 false := fun A pins s σ H x y u v sb I rx ry h1 h2 => by
  have hu : A.units < cLine := sb.room.units0
  have q : (fun r s' => r = false ∧ LoopI X pins σ H s') false s := ⟨rfl, loopI_refl I⟩
  rcases h with ⟨ds, rfl, h⟩ | ⟨ds, rfl, h⟩ | ⟨f, h⟩
  · cases h1 with
    | lst a1 a2 =>
      cases rx
      obtain ⟨its, L, _⟩ := isList_of I a1
      rcases h with f | ⟨es, rfl⟩
      · cases h2 with
        | non => cases ry; exact SeqAt.EqAt.list_none L hu X.prog X.w _ _ q
        | bl b => cases ry; exact SeqAt.EqAt.list_bool b L hu X.prog X.w _ _ q
        | int i => obtain ⟨t, rfl⟩ := ry; exact SeqAt.EqAt.list_int i t L hu X.prog X.w _ _ q
        | str z => obtain ⟨t, rfl⟩ := ry; exact SeqAt.EqAt.list_str z t L hu X.prog X.w _ _ q
        | _ => exact nomatch f
      · cases h2 with
        | tup b1 b2 =>
          cases ry
          obtain ⟨its2, T, _⟩ := isTup_of I b1
          exact SeqAt.EqAt.list_tuple L T hu X.prog X.w _ _ q
  · cases h1 with
    | tup a1 a2 =>
      cases rx
      obtain ⟨its, L, _⟩ := isTup_of I a1
      rcases h with f | ⟨es, rfl⟩
      · cases h2 with
        | non => cases ry; exact SeqAt.EqAt.tuple_none L hu X.prog X.w _ _ q
        | bl b => cases ry; exact SeqAt.EqAt.tuple_bool b L hu X.prog X.w _ _ q
        | int i => obtain ⟨t, rfl⟩ := ry; exact SeqAt.EqAt.tuple_int i t L hu X.prog X.w _ _ q
        | str z => obtain ⟨t, rfl⟩ := ry; exact SeqAt.EqAt.tuple_str z t L hu X.prog X.w _ _ q
        | _ => exact nomatch f
      · cases h2 with
        | lst b1 b2 =>
          cases ry
          obtain ⟨its2, T, _⟩ := isList_of I b1
          exact SeqAt.EqAt.tuple_list L T hu X.prog X.w _ _ q
  · rcases h with ⟨es, rfl⟩ | ⟨es, rfl⟩
    · cases h2 with
      | lst b1 b2 =>
        cases ry
        obtain ⟨its2, T, _⟩ := isList_of I b1
        cases h1 with
        | non => cases rx; exact SeqAt.EqAt.none_list T hu X.prog X.w _ _ q
        | bl b => cases rx; exact SeqAt.EqAt.bool_list b T hu X.prog X.w _ _ q
        | int i => obtain ⟨t, rfl⟩ := rx; exact SeqAt.EqAt.int_list i t T hu X.prog X.w _ _ q
        | str z => obtain ⟨t, rfl⟩ := rx; exact SeqAt.EqAt.str_list z t T hu X.prog X.w _ _ q
        | _ => exact nomatch f
    · cases h2 with
      | tup b1 b2 =>
        cases ry
        obtain ⟨its2, T, _⟩ := isTup_of I b1
        cases h1 with
        | non => cases rx; exact SeqAt.EqAt.none_tuple T hu X.prog X.w _ _ q
        | bl b => cases rx; exact SeqAt.EqAt.bool_tuple b T hu X.prog X.w _ _ q
        | int i => obtain ⟨t, rfl⟩ := rx; exact SeqAt.EqAt.int_tuple i t T hu X.prog X.w _ _ q
        | str z => obtain ⟨t, rfl⟩ := rx; exact SeqAt.EqAt.str_tuple z t T hu X.prog X.w _ _ q
        | _ => exact nomatch f
/-- references: the same object is equal to itself -/
theorem eqD_ref (h : RcD X n d1 d2 b) (r1 : ∀ {H : Hp} {x : V}, DR X.K H x d1 → ∃ a, x = .ref a) (r2 : ∀ {H : Hp} {x : V}, DR X.K H x d2 → ∃ a, x = .ref a) (hs : ∀ {H : Hp} {x : V}, DR X.K H x d1 → DR X.K H x d2 → b = true) : EqD X n d1 d2 b := fun A pins s σ H x y u v sb I rx ry h1 h2 => by
  obtain ⟨a, rfl⟩ := r1 h1
  obtain ⟨c, rfl⟩ := r2 h2
  cases rx
  cases ry
  by_cases hac : a = c
  · subst hac
    exact SeqAt.EqAt.same (A := A) (s := s) (.ref a) X.prog X.w X.xe _ ⟨(hs h1 h2).symm, loopI_refl I⟩
  · refine GQ.eqBool_refG hac (wpAny_mono (h A pins s σ H (.ref a) (.ref c) _ _ sb I rfl rfl h1 h2) (fun r s' q => ?_) fun _ _ x => x)
    obtain ⟨hr, q⟩ := q
    exact ⟨b, hr, rfl, q⟩
/-- the items' answers -/
theorem turn_b (e : Nat → Bool) (h : ∀ i d d', ds[i]? = some d → es[i]? = some d' → EqD X n d d' (e i)) {A : Around} (sb : Sub X (n + 1) A) {pins : List (Addr × Obj)} {σ : L2.St} {H : Hp} {xs ys : List V} {its its2 : List Value} (p : DRs X.K H xs ds) (p2 : DRs X.K H ys es) (r : Vals xs its) (r2 : Vals ys its2)
    (i : Nat) (h1 : i < its.toArray.size) (h2 : i < its2.toArray.size) (s' : Shared) (l : LoopI X pins σ H s') :
    wpAny (model X.prog X.w) A.in1 (eqBool its.toArray[i] its2.toArray[i]) (fun r s2 => r = e i ∧ LoopI X pins σ H s2) X.xe s' := by
  obtain ⟨H1, I1, e1⟩ := l
  have g1 : its[i]? = some its.toArray[i] := by
    have h1' : i < its.length := by simpa using h1
    rw [List.getElem?_eq_getElem h1'] <;> simp
  have g2 : its2[i]? = some its2.toArray[i] := by
    have h2' : i < its2.length := by simpa using h2
    rw [List.getElem?_eq_getElem h2'] <;> simp
  have k1 : i < xs.length := by rw [r.length]; simpa using h1
  have k2 : i < ys.length := by rw [r2.length]; simpa using h2
  obtain ⟨u, hu, ru⟩ := r.get (List.getElem?_eq_getElem k1)
  obtain ⟨v, hv, rv⟩ := r2.get (List.getElem?_eq_getElem k2)
  obtain ⟨dd, q1, q2⟩ := p.get (List.getElem?_eq_getElem k1)
  obtain ⟨dd', q3, q4⟩ := p2.get (List.getElem?_eq_getElem k2)
  rw [g1] at hu
  rw [g2] at hv
  rw [Option.some.inj hu, Option.some.inj hv]
  refine wpAny_mono (h i dd dd' q1 q3 A.in1 pins s' σ H1 _ _ u v sb.in1 I1 ru rv (q2.up e1) (q4.up e1)) (fun r s2 q => ?_) fun _ _ x => x
  obtain ⟨hr, H2, I2, e2⟩ := q
  exact ⟨hr, H2, I2, e1.trans e2⟩
theorem rcD_lst (e : Nat → Bool) (hl : ds.length = es.length) (h : ∀ i d d', ds[i]? = some d → es[i]? = some d' → EqD X n d d' (e i)) : RcD X (n + 1) (.lst ds) (.lst es) ((List.range ds.length).all e) := fun A pins s σ H x y u v sb I rx ry h1 h2 => by
  cases h1 with
  | @lst a xs _ a1 a2 => cases h2 with
    | @lst c ys _ b1 b2 =>
      cases rx
      cases ry
      have hx := a2.len
      have hy := b2.len
      refine wpAny_richCompare_same_room (op := .Eq) (id := "list.__eq__") ⟨_, (I.hok a _ a1).2.choose_spec.choose_spec.2, rfl⟩ ⟨_, (I.hok c _ b1).2.choose_spec.choose_spec.2, rfl⟩ F.slot_list_eq
        (GQ.call_here F.slot_list_eq ⟨_, (I.hok a _ a1).2.choose_spec.choose_spec.2, rfl⟩ F.entry_list_eq (F.args_list_eq_2 _ _) ?_) sb.room.units0
      refine b_list_eq (R := wants (fun v s' => v ≠ .notImplemented ∧ v = .bool ((List.range ds.length).all e) ∧ LoopI X pins σ H s') X.xe) a c ds.length e (fun s' => LoopI X pins σ H s') (fun i s' q => ?_) (fun s' k q hk => ⟨(fun z => nomatch z), by rw [hk], q⟩) (loopI_refl I)
      obtain ⟨H1, I1, e1⟩ := id q
      obtain ⟨z, its, k, r, ee⟩ := I1.hok a _ (e1 _ _ a1)
      obtain ⟨z2, its2, k2, r2, ee2⟩ := I1.hok c _ (e1 _ _ b1)
      refine ⟨its.toArray, its2.toArray, k, k2, ee, ee2, by rw [List.size_toArray, ← r.length, hx], by rw [List.size_toArray, ← r2.length, hy, hl], fun j1 j2 => ?_⟩
      exact turn_b e h sb a2 b2 r r2 i j1 j2 s' q
theorem rcD_lens (hl : ds.length ≠ es.length) : RcD X n (.lst ds) (.lst es) false := fun A pins s σ H x y u v sb I rx ry h1 h2 => by
  cases h1 with
  | @lst a xs _ a1 a2 => cases h2 with
    | @lst c ys _ b1 b2 =>
      cases rx
      cases ry
      obtain ⟨its, L, r⟩ := isList_of I a1
      obtain ⟨its2, L2', r2⟩ := isList_of I b1
      refine SeqAt.RcAt.lists_lengths L L2' (by
        rw [List.size_toArray, List.size_toArray, ← r.length, ← r2.length, a2.len, b2.len]
        simpa using hl) sb.room.units0 X.prog X.w _ _ ⟨rfl, loopI_refl I⟩
theorem rcD_tup (e : Nat → Bool) (h : ∀ i d d', ds[i]? = some d → es[i]? = some d' → EqD X n d d' (e i)) : RcD X (n + 1) (.tup ds) (.tup es) ((List.range (min ds.length es.length)).all e && ds.length == es.length) := fun A pins s σ H x y u v sb I rx ry h1 h2 => by
  cases h1 with
  | @tup a xs _ a1 a2 => cases h2 with
    | @tup c ys _ b1 b2 =>
      cases rx
      cases ry
      have hx := a2.len
      have hy := b2.len
      obtain ⟨its, T, r⟩ := isTup_of I a1
      obtain ⟨its2, T2, r2⟩ := isTup_of I b1
      obtain ⟨⟨cls, dd, data, sl⟩, ho, hc, m, hd⟩ := id T
      obtain ⟨⟨cls2, dd2, data2, sl2⟩, ho2, hc2, m2, hd2⟩ := id T2
      simp only at hc hd hc2 hd2
      subst hc hd hc2 hd2
      refine wpAny_richCompare_same_room (op := .Eq) ⟨_, ho, rfl⟩ ⟨_, ho2, rfl⟩ F.slot_tuple_eq (GQ.call_here F.slot_tuple_eq ⟨_, ho, rfl⟩ F.entry_tuple_eq (F.args_tuple_eq_2 _ _) ?_) sb.room.units0
      refine b_tup_eq (R := wants (fun v s' => v ≠ .notImplemented ∧ v = .bool ((List.range (min ds.length es.length)).all e && ds.length == es.length) ∧ LoopI X pins σ H s') X.xe) a c its.toArray its2.toArray m m2 dd dd2 sl sl2 e (fun s' => LoopI X pins σ H s') (fun i j1 j2 s' q => turn_b e h sb a2 b2 r r2 i j1 j2 s' q)
        (fun s' k q hk => ⟨(fun z => nomatch z), ?_, q⟩) ho ho2 (loopI_refl I)
      rw [hk, List.size_toArray, List.size_toArray, ← r.length, ← r2.length, hx, hy]
end
end GL

set_option Elab.async false
set_option linter.all false
set_option autoImplicit false
set_option maxRecDepth 100000
set_option maxHeartbeats 4000000
namespace GL
open PySem PySem.Spec PyProof.Rows L2
open PySem.W (Frag InstAt findIn isFn subIn looks_subIn ifBound_K notFirst Looks)
abbrev kindL : List String := ["NoneType", "bool", "int", "str", "list", "tuple", "dict"]
structure OwnF (K : Frag) (C f : Addr) : Prop where
  eq : findIn K (.ref C) "__eq__" = some (some (.ref f))
  fn : isFn K (.ref f) = true
  nf : ∀ T ∈ kindL, notFirst K C (.type T) = true
  sb : ∀ T ∈ kindL, subIn K (.ref C) (.type T) = some false
def ownB (K : Frag) (C f : Addr) : Bool := decide (findIn K (.ref C) "__eq__" = some (some (.ref f))) && (isFn K (.ref f) && (kindL.all (fun T => notFirst K C (.type T)) && kindL.all (fun T => decide (subIn K (.ref C) (.type T) = some false))))
theorem ownB_of {K : Frag} {C f : Addr} (h : ownB K C f = true) : OwnF K C f := by
  unfold ownB at h
  simp only [Bool.and_eq_true, decide_eq_true_eq] at h
  obtain ⟨h1, h2, h3, h4⟩ := h
  exact ⟨h1, h2, fun T hT => List.all_eq_true.mp h3 T hT, fun T hT => of_decide_eq_true (List.all_eq_true.mp h4 T hT)⟩
/-- the own __eq__ at f: what it answers of data in its domain -/
def OwnRun (X : Cx) (n : Nat) (f : Addr) (o : Da → Da → Bool) (dom : Da → Da → Prop) : Prop :=
  ∀ (A : Around) (pins : List (Addr × Obj)) (s : Shared) (σ : L2.St) (H : Hp) (x y : V) (u v : Value) (d1 d2 : Da), Sub X n A → Inv X pins σ H s → RelV x u → RelV y v → DR X.K H x d1 → DR X.K H y d2 → dom d1 d2 →
    wpAny (model X.prog X.w) A (call (.ref f) [u, v]) (fun r s' => r = .bool (o d1 d2) ∧ LoopI X pins σ H s') X.xe s
theorem ownRun_of {X : Cx} {n : Nat} {f : Addr} {fd : FuncData} {ps : List Str} {R : List Da → Da → Prop} {o : Da → Da → Bool} {dom : Da → Da → Prop} (F : FnOk X.prog X.w X.K X.mg X.base CX0 n f fd ps (Pr X.K 2 R)) (hb : Binds X.K fd ps []) (hR : ∀ d1 d2, dom d1 d2 → R [d1, d2] (.bl (o d1 d2))) : OwnRun X n f o dom := fun A pins s σ H x y u v d1 d2 sb I rx ry h1 h2 hd => by
  have hsp : Pr X.K 2 R [x, y] H (fun v' H' => v' = .bl (o d1 d2) ∧ Ext H H') E0 := ⟨H, [d1, d2], .bl (o d1 d2), Same.refl H, rfl, .cons h1 (.cons h2 .nil), hR _ _ hd, fun v' G' H' n' dv => by
    cases dv
    exact ⟨rfl, fun a oo e => n'.s a oo e⟩⟩
  refine wpAny_mono (run_at (A := A) (us := [u, v]) (vs := [x, y]) F sb.room sb.fr hb I (.cons rx (.cons ry .nil)) hsp X.xe) (fun r s' z => ?_) fun _ _ e => e
  obtain ⟨v', H', I', rv, rfl, ex⟩ := z
  cases rv
  exact ⟨rfl, H', I', ex⟩
section
variable {X : Cx} {n : Nat} {C f : Addr} {o : Da → Da → Bool} {dom : Da → Da → Prop} {ns : List Str} {ds : List Da} {d : Da} {T : String}
theorem kd_looks {pins : List (Addr × Obj)} {s : Shared} {σ : L2.St} {H : Hp} {y : V} {v : Value} (I : Inv X pins σ H s) (ry : RelV y v) (h : DR X.K H y d) (ht : tyD d = some T) : Looks (model X.prog X.w) s.heap (typeOf v) (.type T) := by
  cases h with
  | non => cases ht; cases ry; exact fun A Q E s' k q => wpAny_typeOf (typeIs_none s') q
  | bl b => cases ht; cases ry; exact fun A Q E s' k q => wpAny_typeOf (PyProof.Rows.typeIs_bool s' b) q
  | int i => cases ht; obtain ⟨t, rfl⟩ := ry; exact fun A Q E s' k q => wpAny_typeOf (typeIs_int s' i t) q
  | str z => cases ht; obtain ⟨t, rfl⟩ := ry; exact fun A Q E s' k q => wpAny_typeOf (typeIs_str s' z t) q
  | lst h1 h2 =>
    cases ht; cases ry
    obtain ⟨its, ⟨ob, e1, e2, m, e3⟩, _⟩ := isList_of I h1
    exact fun A Q E s' k q => wpAny_typeOf_ref (k _ _ e1) (by rw [e2]; exact q)
  | tup h1 h2 =>
    cases ht; cases ry
    obtain ⟨its, ⟨ob, e1, e2, m, e3⟩, _⟩ := isTup_of I h1
    exact fun A Q E s' k q => wpAny_typeOf_ref (k _ _ e1) (by rw [e2]; exact q)
  | dct h1 h2 h3 =>
    cases ht; cases ry
    obtain ⟨_, ne, vs, kv, ob, es, ep, e1, e2, _⟩ := dk_rd I.hok (.inl h1)
    exact fun A Q E s' k q => wpAny_typeOf_ref (k _ _ e1) (by rw [e2.1]; exact q)
  | ty | obj | ins | exc | exc0 => cases ht
theorem ty_mem (h : tyD d = some T) : T ∈ kindL := by
  cases d <;> cases h <;> simp
/-- an instance on the left -/
theorem rcD_own (O : OwnF X.K C f) (R : OwnRun X n f o dom) (hd : dom (.ins C ns ds) d) (hk : (∃ T, tyD d = some T) ∨ (∃ C2 ns2 ds2, d = .ins C2 ns2 ds2 ∧ notFirst X.K C (.ref C2) = true)) : RcD X n (.ins C ns ds) d (o (.ins C ns ds) d) := fun A pins s σ H x y u v sb I rx ry h1 h2 => by
  have rx0 := rx
  have h10 := h1
  cases h1 with
  | @ins a _ dx _ vs _ a1 a2 a3 =>
    cases rx
    obtain ⟨mA, J, _⟩ := ins_get I.hok a1
    obtain ⟨od, J, _⟩ := J.look
    obtain ⟨m, hF⟩ := I.fr
    have go : wpAny (model X.prog X.w) A (call (.ref f) [.ref a, v]) (PySem.W.CmpBack fun r s' => r = .bool (o (.ins C ns ds) d) ∧ LoopI X pins σ H s') X.xe s := by
      refine wpAny_mono (R A pins s σ H (.ref a) y (.ref a) v _ d sb I rfl ry h10 h2 hd) (fun r s' z => ?_) fun _ _ e => e
      obtain ⟨rfl, z⟩ := z
      exact ⟨rfl, z⟩
    rcases hk with ⟨T, ht⟩ | ⟨C2, ns2, ds2, rfl, nf⟩
    · exact PySem.W.cmp_K (op := .Eq) (tb := .type T) sb.room.units0 hF I.ok.mod.kin J (kd_looks I ry h2 ht) (O.nf T (ty_mem ht)) O.eq O.fn go
    · cases h2 with
      | @ins c _ dy _ ws _ b1 b2 b3 =>
        cases ry
        obtain ⟨mB, J', _⟩ := ins_get I.hok b1
        obtain ⟨od', J', _⟩ := J'.look
        exact PySem.W.cmp_K (op := .Eq) (tb := .ref C2) sb.room.units0 hF I.ok.mod.kin J J'.type nf O.eq O.fn go
theorem v_neq_ref {pins : List (Addr × Obj)} {s : Shared} {H : Hp} {x : V} {u : Value} {a : Addr} (rx : RelV x u) (h : DR X.K H x d) (f : flatD d = true) : (u == Value.ref a) = false := by
  cases h with
  | non => cases rx; rfl
  | bl b => cases rx; rfl
  | int i => obtain ⟨t, rfl⟩ := rx; rfl
  | str z => obtain ⟨t, rfl⟩ := rx; rfl
  | _ => exact nomatch f
/-- an instance on the right of what is of a built-in kind -/
theorem rcD_refl (O : OwnF X.K C f) (R : OwnRun X n f o dom) (hd : dom (.ins C ns ds) d) (ht : tyD d = some T) : RcD X n d (.ins C ns ds) (o (.ins C ns ds) d) := fun A pins s σ H x y u v sb I rx ry h1 h2 => by
  have ry0 := ry
  have h20 := h2
  have hu := sb.room.units0
  cases h2 with
  | @ins a _ dx _ vs _ a1 a2 a3 =>
    cases ry
    obtain ⟨mA, J, _⟩ := ins_get I.hok a1
    obtain ⟨od, J, _⟩ := J.look
    have ob : s.heap.get? a = some (PySem.W.instObj C dx) := (I.hok a _ a1).2.2.2.1
    have go : wpAny (model X.prog X.w) A (call (.ref f) [.ref a, u]) (PySem.W.CmpBack fun r s' => r = .bool (o (.ins C ns ds) d) ∧ LoopI X pins σ H s') X.xe s := by
      refine wpAny_mono (R A pins s σ H (.ref a) x (.ref a) u _ d sb I rfl rx h20 h1 hd) (fun r s' z => ?_) fun _ _ e => e
      obtain ⟨rfl, z⟩ := z
      exact ⟨rfl, z⟩
    cases h1 with
    | non => cases rx; exact rc_refl hu I.kIn J (typeIs_none s) F.slot_NoneType_eq (O.sb _ (by simp)) (dec_none ob) O.eq O.fn go
    | bl b => cases rx; exact rc_refl hu I.kIn J (PyProof.Rows.typeIs_bool s b) F.slot_bool_eq (O.sb _ (by simp)) (fun E Q q => call_meets F.slot_bool_eq (PyProof.Rows.typeIs_bool s b) F.entry_int_eq (F.args_int_eq_2 _ _) (bool_eq_ins b a _ _ _) ⟨ob, q⟩) O.eq O.fn go
    | int i => obtain ⟨t, rfl⟩ := rx; exact rc_refl hu I.kIn J (typeIs_int s i t) F.slot_int_eq (O.sb _ (by simp)) (fun E Q q => call_meets F.slot_int_eq (typeIs_int s i t) F.entry_int_eq (F.args_int_eq_2 _ _) (int_eq_ins i t a _ _ _) ⟨ob, q⟩) O.eq O.fn go
    | str z => obtain ⟨t, rfl⟩ := rx; exact rc_refl hu I.kIn J (typeIs_str s z t) F.slot_str_eq (O.sb _ (by simp)) (fun E Q q => call_meets F.slot_str_eq (typeIs_str s z t) F.entry_str_eq (F.args_str_eq_2 _ _) (str_eq_ins z t a _ _ _) ⟨ob, q⟩) O.eq O.fn go
    | lst b1 b2 =>
      cases rx
      obtain ⟨its, ⟨⟨cls, dd, data, sl⟩, e1, e2, m, e3⟩, _⟩ := isList_of I b1
      simp only at e2 e3
      subst e2 e3
      exact rc_refl hu I.kIn J ⟨_, e1, rfl⟩ F.slot_list_eq (O.sb _ (by simp)) (fun E Q q => call_meets F.slot_list_eq ⟨_, e1, rfl⟩ F.entry_list_eq (F.args_list_eq_2 _ _) (list_eq_ins X.K C _ a _ m dd _ sl _ (O.sb _ (by simp))) ⟨I.kIn, e1, ob, q⟩) O.eq O.fn go
    | tup b1 b2 =>
      cases rx
      obtain ⟨its, ⟨⟨cls, dd, data, sl⟩, e1, e2, m, e3⟩, _⟩ := isTup_of I b1
      simp only at e2 e3
      subst e2 e3
      exact rc_refl hu I.kIn J ⟨_, e1, rfl⟩ F.slot_tuple_eq (O.sb _ (by simp)) (fun E Q q => call_meets F.slot_tuple_eq ⟨_, e1, rfl⟩ F.entry_tuple_eq (F.args_tuple_eq_2 _ _) (tuple_eq_ins X.K C _ a _ m dd _ sl _ (O.sb _ (by simp))) ⟨I.kIn, e1, ob, q⟩) O.eq O.fn go
    | dct b1 b2 b3 =>
      cases rx
      obtain ⟨_, ne, ws, kv, ob2, es, ep, e1, e2, e3, _⟩ := dk_rd I.hok (.inl b1)
      obtain ⟨cls, dd, data, sl⟩ := ob2
      have e2 := e2.1
      simp only at e2 e3
      subst e2 e3
      exact rc_refl hu I.kIn J ⟨_, e1, rfl⟩ F.slot_dict_eq (O.sb _ (by simp)) (fun E Q q => call_meets F.slot_dict_eq ⟨_, e1, rfl⟩ F.entry_dict_eq (F.args_dict_eq_2 _ _) (dict_eq_ins X.K C _ a _ _ dd _ sl _ (O.sb _ (by simp))) ⟨I.kIn, e1, ob, q⟩) O.eq O.fn go
    | ty | obj | ins | exc | exc0 => cases ht
end
end GL

set_option Elab.async false
set_option linter.all false
set_option autoImplicit false
set_option maxRecDepth 100000
set_option maxHeartbeats 4000000
namespace GL
open PySem PySem.Spec PyProof.Rows L2
open PySem.W (Frag InstAt findIn isFn subIn looks_subIn ifBound_K notFirst Looks)
section
variable {X : Cx} {n : Nat} {C f : Addr} {o : Da → Da → Bool} {dom : Da → Da → Prop} {ns : List Str} {ds es : List Da} {d d1 d2 : Da} {T : String} {b : Bool}
/-- from a rich comparison of what are no two like references -/
theorem eqD_rc (h : RcD X n d1 d2 b) (h1 : ∀ {H : Hp} {x y : V} {u v : Value}, RelV x u → RelV y v → DR X.K H x d1 → DR X.K H y d2 → (u == v) = true → b = true) (hf : ∀ {H : Hp} {x : V} {u : Value}, RelV x u → DR X.K H x d1 → ∀ z t, u ≠ .float z t) : EqD X n d1 d2 b := fun A pins s σ H x y u v sb I rx ry k1 k2 => by
  have fin := h A pins s σ H x y u v sb I rx ry k1 k2
  cases e : (u == v) with
  | false => exact eqBool_rc (hf rx k1) e (wpAny_mono fin (fun r s' q => ⟨b, q.1, rfl, q.2⟩) fun _ _ z => z)
  | true =>
    have hb := h1 rx ry k1 k2 e
    have e2 := eq_of_beq e
    subst e2
    exact SeqAt.EqAt.same (A := A) (s := s) u X.prog X.w X.xe _ ⟨hb.symm, loopI_refl I⟩
theorem no_float {K : Frag} {H : Hp} {x : V} {u : Value} (rx : RelV x u) (h : DR K H x d) : ∀ z t, u ≠ .float z t := fun z t e => by
  subst e
  cases h <;> first | (cases rx; done) | (obtain ⟨_, q⟩ := rx; cases q; done) | exact nomatch rx
theorem rel_ref {y : V} {a : Addr} (r : RelV y (.ref a)) : y = .ref a := by
  cases y with
  | ref b => cases r; rfl
  | non => cases r
  | bl b => cases r
  | int i => obtain ⟨t, q⟩ := (show ∃ t, Value.ref a = Value.int i t from r); cases q
  | str z => obtain ⟨t, q⟩ := (show ∃ t, Value.ref a = Value.str z t from r); cases q
  | byt z => obtain ⟨t, q⟩ := (show ∃ t, Value.ref a = Value.bytes z t from r); cases q
  | flt z => obtain ⟨t, q⟩ := (show ∃ t, Value.ref a = Value.float z t from r); cases q
  | ty m => cases r
theorem nf_ref {K : Frag} {H : Hp} {x : V} (h : DR K H x d) (ok : okE d = true) (nf : flatD d = false) : ∃ a, x = .ref a := by
  cases h with
  | lst | tup | dct | ins => exact ⟨_, rfl⟩
  | ty | obj | exc | exc0 => exact nomatch ok
  | non | bl | int | str => exact nomatch nf
theorem ref_eq {K : Frag} {H : Hp} {x y : V} {u v : Value} (rx : RelV x u) (ry : RelV y v) (h1 : DR K H x d1) (h2 : DR K H y d2) (o1 : okE d1 = true) (o2 : okE d2 = true) (nf : flatD d1 = false ∨ flatD d2 = false) (e : (u == v) = true) : d1 = d2 := by
  have e2 := eq_of_beq e
  subst e2
  have hxy : x = y := by
    rcases nf with nf | nf
    · obtain ⟨a, rfl⟩ := nf_ref h1 o1 nf
      cases rx
      exact (rel_ref ry).symm
    · obtain ⟨a, rfl⟩ := nf_ref h2 o2 nf
      cases ry
      exact rel_ref rx
  subst hxy
  exact DR.uniq d1 d2 o1 o2 h1 h2
/-- the answer inside a sequence: the same object is equal to itself -/
theorem RcD.eqD (h : RcD X n d1 d2 b) (o1 : okE d1 = true) (o2 : okE d2 = true) (nf : flatD d1 = false ∨ flatD d2 = false) (rf : d1 = d2 → b = true) : EqD X n d1 d2 b :=
  eqD_rc h (fun rx ry h1 h2 e => rf (ref_eq rx ry h1 h2 o1 o2 nf e)) fun rx h1 => no_float rx h1
end
/-! data with instances: one function -/
section
variable {X : Cx} {n : Nat} {o : Da → Da → Bool} {d : Da}
def flEq (d e : Da) : Bool := eqV (vOfD d) (vOfD e)
mutual
def eqDa (o : Da → Da → Bool) : Da → Da → Bool
  | .ins C ns ds, d => o (.ins C ns ds) d
  | .lst xs, d => match d with
    | .lst ys => eqDas o xs ys
    | .ins C ns ds => o (.ins C ns ds) (.lst xs)
    | _ => false
  | .tup xs, d => match d with
    | .tup ys => eqDas o xs ys
    | .ins C ns ds => o (.ins C ns ds) (.tup xs)
    | _ => false
  | d, .ins C ns ds => o (.ins C ns ds) d
  | .non, d => flatD d && flEq .non d
  | .bl b, d => flatD d && flEq (.bl b) d
  | .int i, d => flatD d && flEq (.int i) d
  | .str z, d => flatD d && flEq (.str z) d
  | _, _ => false
def eqDas (o : Da → Da → Bool) : List Da → List Da → Bool
  | [], [] => true
  | x :: xs, y :: ys => eqDa o x y && eqDas o xs ys
  | _, _ => false
end
mutual
/-- flat values, lists, tuples and instances that are good -/
def wfD (good : Da → Bool) : Da → Bool
  | .non | .bl _ | .int _ | .str _ => true
  | .lst ds | .tup ds => wfDs good ds
  | .ins C ns ds => good (.ins C ns ds) && okEs ds
  | _ => false
def wfDs (good : Da → Bool) : List Da → Bool
  | [] => true
  | d :: ds => wfD good d && wfDs good ds
end
mutual
def dpD : Da → Nat
  | .lst ds | .tup ds => dpDs ds + 1
  | _ => 0
def dpDs : List Da → Nat
  | [] => 0
  | d :: ds => max (dpD d) (dpDs ds)
end
mutual
theorem wf_ok {good : Da → Bool} : ∀ d : Da, wfD good d = true → okE d = true
  | .non, _ | .bl _, _ | .int _, _ | .str _, _ => rfl
  | .lst ds, h => wf_oks ds h
  | .tup ds, h => wf_oks ds h
  | .ins C ns ds, h => by
    simp only [wfD, Bool.and_eq_true] at h
    exact h.2
  | .ty _, h | .obj _, h | .exc _ _ _, h | .dct _ _, h => nomatch h
theorem wf_oks {good : Da → Bool} : ∀ ds : List Da, wfDs good ds = true → okEs ds = true
  | [], _ => rfl
  | d :: ds, h => by
    simp only [wfDs, Bool.and_eq_true] at h
    simp only [okEs, Bool.and_eq_true]
    exact ⟨wf_ok d h.1, wf_oks ds h.2⟩
end
theorem fl_refl : flatD d = true → flEq d d = true := fun h => by
  cases d with
  | non | bl | int | str => simp [flEq, vOfD, eqV]
  | _ => exact nomatch h
mutual
theorem eqDa_refl {good : Da → Bool} (ho : ∀ d, good d = true → o d d = true) : ∀ d : Da, wfD good d = true → eqDa o d d = true
  | .non, _ => by simp only [eqDa, flatD, Bool.true_and]; exact fl_refl rfl
  | .bl b, _ => by simp only [eqDa, flatD, Bool.true_and]; exact fl_refl rfl
  | .int i, _ => by simp only [eqDa, flatD, Bool.true_and]; exact fl_refl rfl
  | .str z, _ => by simp only [eqDa, flatD, Bool.true_and]; exact fl_refl rfl
  | .lst ds, h => by simp only [eqDa]; exact eqDas_refl ho ds h
  | .tup ds, h => by simp only [eqDa]; exact eqDas_refl ho ds h
  | .ins C ns ds, h => by
    simp only [wfD, Bool.and_eq_true] at h
    simp only [eqDa]; exact ho _ h.1
  | .ty _, h | .obj _, h | .exc _ _ _, h | .dct _ _, h => nomatch h
theorem eqDas_refl {good : Da → Bool} (ho : ∀ d, good d = true → o d d = true) : ∀ ds : List Da, wfDs good ds = true → eqDas o ds ds = true
  | [], _ => rfl
  | d :: ds, h => by
    simp only [wfDs, Bool.and_eq_true] at h
    simp only [eqDas, Bool.and_eq_true]
    exact ⟨eqDa_refl ho d h.1, eqDas_refl ho ds h.2⟩
end
/-- the i-th answer -/
def pairD (o : Da → Da → Bool) (ds es : List Da) (i : Nat) : Bool := match ds[i]?, es[i]? with
  | some d, some e => eqDa o d e
  | _, _ => false
theorem eqDas_len : ∀ {ds es : List Da}, ds.length ≠ es.length → eqDas o ds es = false
  | [], [], h => absurd rfl h
  | [], _ :: _, _ => by simp only [eqDas]
  | _ :: _, [], _ => by simp only [eqDas]
  | d :: ds, e :: es, h => by
    simp only [eqDas, eqDas_len (ds := ds) (es := es) (by simpa using h), Bool.and_false]
theorem range_all_cons (e : Nat → Bool) (n : Nat) : (List.range (n + 1)).all e = (e 0 && (List.range n).all fun i => e (i + 1)) := by
  rw [List.range_succ_eq_map, List.all_cons, List.all_map]
  rfl
theorem eqDas_all : ∀ {ds es : List Da}, ds.length = es.length → (List.range ds.length).all (pairD o ds es) = eqDas o ds es
  | [], [], _ => rfl
  | d :: ds, e :: es, h => by
    rw [List.length_cons, range_all_cons]
    simp only [eqDas]
    rw [← eqDas_all (ds := ds) (es := es) (by simpa using h)]
    rfl
theorem eqDas_tup (ds es : List Da) : ((List.range (min ds.length es.length)).all (pairD o ds es) && ds.length == es.length) = eqDas o ds es := by
  by_cases h : ds.length = es.length
  · rw [← eqDas_all h, h, Nat.min_self]
    simp
  · rw [eqDas_len h]
    simp [h]
/-- what is asked of the instances: their own == answers o, on either side -/
structure OwnsAt (X : Cx) (N : Nat) (o : Da → Da → Bool) (good : Da → Bool) : Prop where
  l : ∀ C ns ds d, good (.ins C ns ds) = true → wfD good d = true → RcD X N (.ins C ns ds) d (o (.ins C ns ds) d)
  r : ∀ C ns ds d T, good (.ins C ns ds) = true → wfD good d = true → tyD d = some T → RcD X N d (.ins C ns ds) (o (.ins C ns ds) d)
  rf : ∀ d, good d = true → o d d = true
theorem get_wf {good : Da → Bool} : ∀ {ds : List Da} {i : Nat} {d : Da}, wfDs good ds = true → ds[i]? = some d → wfD good d = true
  | [], _, _, _, h => by simp at h
  | d :: ds, 0, e, w, h => by
    simp only [wfDs, Bool.and_eq_true] at w
    simp at h; subst h; exact w.1
  | d :: ds, i + 1, e, w, h => by
    simp only [wfDs, Bool.and_eq_true] at w
    exact get_wf (i := i) w.2 (by simpa using h)
theorem get_dp : ∀ {ds : List Da} {i : Nat} {d : Da}, ds[i]? = some d → dpD d ≤ dpDs ds
  | [], _, _, h => by simp at h
  | d :: ds, 0, e, h => by
    simp at h; subst h; simp only [dpDs]; omega
  | d :: ds, i + 1, e, h => by
    have := get_dp (ds := ds) (i := i) (d := e) (by simpa using h)
    simp only [dpDs]; omega
theorem eqDa_run {N : Nat} {good : Da → Bool} (W : OwnsAt X N o good) : ∀ (m : Nat) (d1 d2 : Da), dpD d1 ≤ m → wfD good d1 = true → wfD good d2 = true → EqD X (N + m) d1 d2 (eqDa o d1 d2) := fun m => by
  have own_l : ∀ {m : Nat} {C : Addr} {ns : List Str} {ds : List Da} {d2 : Da}, wfD good (.ins C ns ds) = true → wfD good d2 = true → EqD X (N + m) (.ins C ns ds) d2 (o (.ins C ns ds) d2) := fun {m C ns ds d2} w1 w2 => by
    have g : good (.ins C ns ds) = true := by simp only [wfD, Bool.and_eq_true] at w1; exact w1.1
    exact ((W.l C ns ds d2 g w2).eqD (wf_ok _ w1) (wf_ok _ w2) (.inl rfl) (fun e => by subst e; exact W.rf _ g)).mono (Nat.le_add_right _ _)
  have own_r : ∀ {m : Nat} {C : Addr} {ns : List Str} {ds : List Da} {d : Da} {T : String}, wfD good (.ins C ns ds) = true → wfD good d = true → tyD d = some T → EqD X (N + m) d (.ins C ns ds) (o (.ins C ns ds) d) := fun {m C ns ds d T} w1 w2 ht => by
    have g : good (.ins C ns ds) = true := by simp only [wfD, Bool.and_eq_true] at w1; exact w1.1
    exact ((W.r C ns ds d T g w2 ht).eqD (wf_ok _ w2) (wf_ok _ w1) (.inr rfl) (fun e => by subst e; cases ht)).mono (Nat.le_add_right _ _)
  have fl : ∀ {m : Nat} {d d2 : Da}, flatD d = true → wfD good d = true → wfD good d2 = true → eqDa o d d2 = (match d2 with | .ins C ns ds => o (.ins C ns ds) d | _ => flatD d2 && flEq d d2) → EqD X (N + m) d d2 (eqDa o d d2) := fun {m d d2} f w1 w2 he => by
    rw [he]
    cases d2 with
    | ins C ns ds =>
      obtain ⟨T, ht⟩ : ∃ T, tyD d = some T := by cases d <;> first | exact ⟨_, rfl⟩ | exact nomatch f
      exact own_r w2 w1 ht
    | lst es => exact eqD_odd (.inr (.inr ⟨f, .inl ⟨es, rfl⟩⟩))
    | tup es => exact eqD_odd (.inr (.inr ⟨f, .inr ⟨es, rfl⟩⟩))
    | non => exact eqD_flat f rfl
    | bl b => exact eqD_flat f rfl
    | int i => exact eqD_flat f rfl
    | str z => exact eqD_flat f rfl
    | ty | obj | exc | dct => exact nomatch w2
  induction m with
  | zero =>
    intro d1 d2 hd w1 w2
    cases d1 with
    | ins C ns ds => simp only [eqDa]; exact own_l w1 w2
    | lst ds => simp only [dpD] at hd; omega
    | tup ds => simp only [dpD] at hd; omega
    | non => exact fl rfl w1 w2 (by cases d2 <;> simp only [eqDa])
    | bl b => exact fl rfl w1 w2 (by cases d2 <;> simp only [eqDa])
    | int i => exact fl rfl w1 w2 (by cases d2 <;> simp only [eqDa])
    | str z => exact fl rfl w1 w2 (by cases d2 <;> simp only [eqDa])
    | ty | obj | exc | dct => exact nomatch w1
  | succ m ih =>
    intro d1 d2 hd w1 w2
    cases d1 with
    | ins C ns ds => simp only [eqDa]; exact own_l w1 w2
    | non => exact fl rfl w1 w2 (by cases d2 <;> simp only [eqDa])
    | bl b => exact fl rfl w1 w2 (by cases d2 <;> simp only [eqDa])
    | int i => exact fl rfl w1 w2 (by cases d2 <;> simp only [eqDa])
    | str z => exact fl rfl w1 w2 (by cases d2 <;> simp only [eqDa])
    | ty | obj | exc | dct => exact nomatch w1
    | lst ds =>
      have hd' : dpDs ds ≤ m := by simp only [dpD] at hd; omega
      cases d2 with
      | lst es =>
        have it : ∀ i d d', ds[i]? = some d → es[i]? = some d' → EqD X (N + m) d d' (pairD o ds es i) := fun i d d' h1 h2 => by
          have := ih d d' (Nat.le_trans (get_dp h1) hd') (get_wf (show wfDs good ds = true from w1) h1) (get_wf (show wfDs good es = true from w2) h2)
          simpa [pairD, h1, h2] using this
        simp only [eqDa]
        refine RcD.eqD ?_ (wf_ok _ w1) (wf_ok _ w2) (.inl rfl) (fun e => by injection e with e; subst e; exact eqDas_refl W.rf _ w1)
        by_cases hl : ds.length = es.length
        · rw [← eqDas_all hl]; exact rcD_lst _ hl it
        · rw [eqDas_len hl]; exact rcD_lens hl
      | ins C ns cs => simp only [eqDa]; exact own_r w2 w1 rfl
      | tup es => simp only [eqDa]; exact eqD_odd (.inl ⟨ds, rfl, .inr ⟨es, rfl⟩⟩)
      | non | bl | int | str => simp only [eqDa]; exact eqD_odd (.inl ⟨ds, rfl, .inl rfl⟩)
      | ty | obj | exc | dct => exact nomatch w2
    | tup ds =>
      have hd' : dpDs ds ≤ m := by simp only [dpD] at hd; omega
      cases d2 with
      | tup es =>
        have it : ∀ i d d', ds[i]? = some d → es[i]? = some d' → EqD X (N + m) d d' (pairD o ds es i) := fun i d d' h1 h2 => by
          have := ih d d' (Nat.le_trans (get_dp h1) hd') (get_wf (show wfDs good ds = true from w1) h1) (get_wf (show wfDs good es = true from w2) h2)
          simpa [pairD, h1, h2] using this
        simp only [eqDa]
        refine RcD.eqD ?_ (wf_ok _ w1) (wf_ok _ w2) (.inl rfl) (fun e => by injection e with e; subst e; exact eqDas_refl W.rf _ w1)
        rw [← eqDas_tup]; exact rcD_tup _ it
      | ins C ns cs => simp only [eqDa]; exact own_r w2 w1 rfl
      | lst es => simp only [eqDa]; exact eqD_odd (.inr (.inl ⟨ds, rfl, .inr ⟨es, rfl⟩⟩))
      | non | bl | int | str => simp only [eqDa]; exact eqD_odd (.inr (.inl ⟨ds, rfl, .inl rfl⟩))
      | ty | obj | exc | dct => exact nomatch w2
end
end GL

set_option Elab.async false
set_option linter.all false
set_option autoImplicit false
set_option maxRecDepth 100000
set_option maxHeartbeats 4000000
namespace GL
open PySem PySem.Spec PyProof.Rows L2
open PySem.W (Frag InstAt findIn isFn subIn looks_subIn ifBound_K notFirst Looks)
section
variable {X : Cx} {n N : Nat} {o : Da → Da → Bool} {good : Da → Bool} {d d1 d2 : Da} {b : Bool} {ds es : List Da}
def topOk : Da → Da → Bool
  | .ins _ _ _, _ => true
  | .lst _, .lst _ => true
  | .tup _, .tup _ => true
  | d, .ins _ _ _ => (tyD d).isSome
  | _, _ => false
theorem rcDa_run (W : OwnsAt X N o good) {m : Nat} (hd : dpD d1 ≤ m) (w1 : wfD good d1 = true) (w2 : wfD good d2 = true) (ht : topOk d1 d2 = true) : RcD X (N + m) d1 d2 (eqDa o d1 d2) := by
  have mono : ∀ {k j : Nat} {e1 e2 : Da} {c : Bool}, RcD X k e1 e2 c → k ≤ j → RcD X j e1 e2 c := fun h e A pins s σ H x y u v sb => h A pins s σ H x y u v (sb.mono e)
  cases d1 with
  | ins C ns ds =>
    simp only [eqDa]
    simp only [wfD, Bool.and_eq_true] at w1
    exact mono (W.l C ns ds d2 w1.1 w2) (Nat.le_add_right _ _)
  | lst ds =>
    obtain ⟨k, rfl⟩ : ∃ k, m = k + 1 := ⟨m - 1, by simp only [dpD] at hd; omega⟩
    have hd' : dpDs ds ≤ k := by simp only [dpD] at hd; omega
    cases d2 with
    | lst es =>
      have it : ∀ i d d', ds[i]? = some d → es[i]? = some d' → EqD X (N + k) d d' (pairD o ds es i) := fun i d d' h1 h2 => by
        have := eqDa_run W k d d' (Nat.le_trans (get_dp h1) hd') (get_wf (show wfDs good ds = true from w1) h1) (get_wf (show wfDs good es = true from w2) h2)
        simpa [pairD, h1, h2] using this
      simp only [eqDa]
      by_cases hl : ds.length = es.length
      · rw [← eqDas_all hl]; exact rcD_lst _ hl it
      · rw [eqDas_len hl]; exact rcD_lens hl
    | ins C ns cs =>
      simp only [eqDa]
      simp only [wfD, Bool.and_eq_true] at w2
      exact mono (W.r C ns cs _ _ w2.1 w1 rfl) (Nat.le_add_right _ _)
    | _ => exact nomatch ht
  | tup ds =>
    obtain ⟨k, rfl⟩ : ∃ k, m = k + 1 := ⟨m - 1, by simp only [dpD] at hd; omega⟩
    have hd' : dpDs ds ≤ k := by simp only [dpD] at hd; omega
    cases d2 with
    | tup es =>
      have it : ∀ i d d', ds[i]? = some d → es[i]? = some d' → EqD X (N + k) d d' (pairD o ds es i) := fun i d d' h1 h2 => by
        have := eqDa_run W k d d' (Nat.le_trans (get_dp h1) hd') (get_wf (show wfDs good ds = true from w1) h1) (get_wf (show wfDs good es = true from w2) h2)
        simpa [pairD, h1, h2] using this
      simp only [eqDa]
      rw [← eqDas_tup]; exact rcD_tup _ it
    | ins C ns cs =>
      simp only [eqDa]
      simp only [wfD, Bool.and_eq_true] at w2
      exact mono (W.r C ns cs _ _ w2.1 w1 rfl) (Nat.le_add_right _ _)
    | _ => exact nomatch ht
  | non | bl | int | str =>
    cases d2 with
    | ins C ns cs =>
      simp only [eqDa]
      simp only [wfD, Bool.and_eq_true] at w2
      exact mono (W.r C ns cs _ _ w2.1 w1 rfl) (Nat.le_add_right _ _)
    | _ => exact nomatch ht
  | _ => exact nomatch w1
/-- x == y, by what is known of their data -/
def rRcD (X : Cx) (n : Nat) : R2 := fun x y H Q => ∃ d1 d2 b, DR X.K H x d1 ∧ DR X.K H y d2 ∧ RcD X n d1 d2 b ∧ ∀ H', Ext H H' → Q (.bl b) H'
theorem op_rcD (hr : Room n X.A) : OpR X (compareOp .Eq) (rRcD X n) := by
  intro pins s σ H x y v u Q I rx ry ⟨d1, d2, b, h1, h2, R, q⟩
  show wpAny (model X.prog X.w) X.A (richCompare .Eq v u) (EP X pins σ Q) X.xe s
  refine wpAny_mono (R X.A pins s σ H x y v u ⟨hr, rfl⟩ I rx ry h1 h2) (fun r s' z => ?_) fun _ _ x => x
  obtain ⟨rfl, H', I', e⟩ := z
  exact ⟨.bl b, H', I', rfl, q H' e⟩
/-- x in y, x not in y, y a list or tuple -/
def rInE (X : Cx) (n : Nat) (neg : Bool) : R2 := fun x y H Q => ∃ (d : Da) (ds : List Da) (e : Nat → Bool), (DR X.K H y (.lst ds) ∨ DR X.K H y (.tup ds)) ∧ DR X.K H x d ∧ (∀ i d', ds[i]? = some d' → EqD X n d' d (e i)) ∧
  ∀ H', Ext H H' → Q (.bl (if neg then !(List.range ds.length).any e else (List.range ds.length).any e)) H'
theorem turn_in (e : Nat → Bool) (h : ∀ i d', ds[i]? = some d' → EqD X n d' d (e i)) {A : Around} (sb : Sub X (n + 1) A) {pins : List (Addr × Obj)} {σ : L2.St} {H : Hp} {xs : List V} {its : List Value} {y : V} {v : Value} (p : DRs X.K H xs ds) (r : Vals xs its) (ry : RelV y v) (p2 : DR X.K H y d)
    (i : Nat) (h1 : i < its.toArray.size) (s' : Shared) (l : LoopI X pins σ H s') :
    wpAny (model X.prog X.w) A.in1 (eqBool its.toArray[i] v) (fun r s2 => r = e i ∧ LoopI X pins σ H s2) X.xe s' := by
  obtain ⟨H1, I1, e1⟩ := l
  have g1 : its[i]? = some its.toArray[i] := by
    have h1' : i < its.length := by simpa using h1
    rw [List.getElem?_eq_getElem h1'] <;> simp
  have k1 : i < xs.length := by rw [r.length]; simpa using h1
  obtain ⟨u, hu, ru⟩ := r.get (List.getElem?_eq_getElem k1)
  obtain ⟨dd, q1, q2⟩ := p.get (List.getElem?_eq_getElem k1)
  rw [g1] at hu
  rw [Option.some.inj hu]
  refine wpAny_mono (h i dd q1 A.in1 pins s' σ H1 _ _ u v sb.in1 I1 ru ry (q2.up e1) (p2.up e1)) (fun r s2 q => ?_) fun _ _ x => x
  obtain ⟨hr, H2, I2, e2⟩ := q
  exact ⟨hr, H2, I2, e1.trans e2⟩
/-- the built-in's answer -/
theorem in_run (e : Nat → Bool) (h : ∀ i d', ds[i]? = some d' → EqD X n d' d (e i)) {A : Around} (sb : Sub X (n + 1) A) {pins : List (Addr × Obj)} {s : Shared} {σ : L2.St} {H : Hp} {x y : V} {u v : Value} (I : Inv X pins σ H s) (rx : RelV x u) (ry : RelV y v) (p : DR X.K H y (.lst ds) ∨ DR X.K H y (.tup ds)) (p2 : DR X.K H x d) :
    wpAny (model X.prog X.w) A (contains v u) (fun r s' => r = (List.range ds.length).any e ∧ LoopI X pins σ H s') X.xe s := by
  rcases p with p | p
  · cases p with
    | @lst a xs _ a1 a2 =>
      cases ry
      have e0 := (I.hok a _ a1).2.choose_spec.choose_spec.2
      refine wpAny_contains_slot ⟨_, e0, rfl⟩ F.slot_list_contains (GQ.call_here F.slot_list_contains ⟨_, e0, rfl⟩ F.entry_list_contains (F.args_list_contains_2 _ _) ?_)
      refine b_in_list (R := wants (fun v s' => wpAny (model X.prog X.w) A (truthy v) (fun r s' => r = (List.range ds.length).any e ∧ LoopI X pins σ H s') X.xe s') X.xe) a u ds.length e (fun s' => LoopI X pins σ H s') (fun i s' q => ?_) (fun s' k q hk => wpAny_truthy_bool ⟨hk, q⟩) (loopI_refl I)
      obtain ⟨H1, I1, e1⟩ := id q
      obtain ⟨z, its, k, r, ee⟩ := I1.hok a _ (e1 _ _ a1)
      exact ⟨its.toArray, k, ee, by rw [List.size_toArray, ← r.length, a2.len], fun j1 => turn_in e h sb a2 r rx p2 i j1 s' q⟩
  · cases p with
    | @tup a xs _ a1 a2 =>
      cases ry
      obtain ⟨its, T, r⟩ := isTup_of I a1
      obtain ⟨⟨cls, dd, data, sl⟩, ho, hc, m, hd⟩ := id T
      simp only at hc hd
      subst hc hd
      refine wpAny_contains_slot ⟨_, ho, rfl⟩ F.slot_tuple_contains (GQ.call_here F.slot_tuple_contains ⟨_, ho, rfl⟩ F.entry_tuple_contains (F.args_tuple_contains_2 _ _) ?_)
      refine b_in_tup (R := wants (fun v s' => wpAny (model X.prog X.w) A (truthy v) (fun r s' => r = (List.range ds.length).any e ∧ LoopI X pins σ H s') X.xe s') X.xe) a u its.toArray m dd sl e (fun s' => LoopI X pins σ H s') (fun i j1 s' q => turn_in e h sb a2 r rx p2 i j1 s' q) (fun s' k q hk => wpAny_truthy_bool ⟨by rw [hk, List.size_toArray, ← r.length, a2.len], q⟩) ho (loopI_refl I)
theorem op_inE (hr : Room (n + 1) X.A) : OpR X (compareOp .In) (rInE X n false) := by
  intro pins s σ H x y v u Q I rx ry ⟨d, ds, e, h1, h2, h, q⟩
  show wpAny (model X.prog X.w) X.A (do return Value.bool (← contains u v)) (EP X pins σ Q) X.xe s
  refine wpAny_bind (wpAny_mono (in_run e h ⟨hr, rfl⟩ I rx ry h1 h2) (fun r s' z => ?_) fun _ _ x => x)
  obtain ⟨rfl, H', I', ex⟩ := z
  exact wpAny_pure ⟨.bl _, H', I', rfl, q H' ex⟩
theorem op_notInE (hr : Room (n + 1) X.A) : OpR X (compareOp .NotIn) (rInE X n true) := by
  intro pins s σ H x y v u Q I rx ry ⟨d, ds, e, h1, h2, h, q⟩
  show wpAny (model X.prog X.w) X.A (do return Value.bool (!(← contains u v))) (EP X pins σ Q) X.xe s
  refine wpAny_bind (wpAny_mono (in_run e h ⟨hr, rfl⟩ I rx ry h1 h2) (fun r s' z => ?_) fun _ _ x => x)
  obtain ⟨rfl, H', I', ex⟩ := z
  exact wpAny_pure ⟨.bl _, H', I', rfl, q H' ex⟩
end
section
variable {X : Cx} {n : Nat} {σ : L2.St} {G : Hp} {ta tb : TE} {d d1 d2 : Da} {b : Bool} {ds : List Da}
theorem nw_ext {G H H' : Hp} (s : Same G H) (e : Ext H H') : Nw G H G H' := ⟨e, Same.refl G, fun b o h => e b o (s b o h), fun _ _ _ z => z⟩
theorem ed_rcD (ha : Evd X.K ta σ G d1) (hb : Evd X.K tb σ G d2) (R : RcD X n d1 d2 b) : Evd X.K (tOp (rRcD X n) ta tb) σ G (.bl b) := ed_two ha (fun _ s => hb.up s) fun x y G' H' s e dx dy Q k =>
  ⟨d1, d2, b, dx.up e, dy.up e, R, fun H2 ex => k _ G' H2 (nw_ext e ex) (.bl b)⟩
theorem ed_inE {neg : Bool} (e : Nat → Bool) (ha : Evd X.K ta σ G d) (hb : Evd X.K tb σ G (.lst ds)) (h : ∀ i d', ds[i]? = some d' → EqD X n d' d (e i)) (hz : (if neg then !(List.range ds.length).any e else (List.range ds.length).any e) = b) : Evd X.K (tOp (rInE X n neg) ta tb) σ G (.bl b) := ed_two ha (fun _ s => hb.up s) fun x y G' H' s ex dx dy Q k =>
  ⟨d, ds, e, .inl (dy.up ex), dx.up ex, h, fun H2 e2 => by rw [hz]; exact k _ G' H2 (nw_ext ex e2) (.bl b)⟩
theorem ed_inT {neg : Bool} (e : Nat → Bool) (ha : Evd X.K ta σ G d) (hb : Evd X.K tb σ G (.tup ds)) (h : ∀ i d', ds[i]? = some d' → EqD X n d' d (e i)) (hz : (if neg then !(List.range ds.length).any e else (List.range ds.length).any e) = b) : Evd X.K (tOp (rInE X n neg) ta tb) σ G (.bl b) := ed_two ha (fun _ s => hb.up s) fun x y G' H' s ex dx dy Q k =>
  ⟨d, ds, e, .inr (dy.up ex), dx.up ex, h, fun H2 e2 => by rw [hz]; exact k _ G' H2 (nw_ext ex e2) (.bl b)⟩
end
end GL

set_option Elab.async false
set_option linter.all false
set_option autoImplicit false
set_option maxRecDepth 100000
set_option maxHeartbeats 4000000
namespace GL
open PySem PySem.Spec PyProof.Rows L2
open PySem.W (Frag InstAt findIn isFn subIn looks_subIn ifBound_K notFirst Looks)
section
variable {prog : Program} {w : World} {A : Around} {E : Value → Shared → Prop} {s : Shared} {K : Frag} {x C f g : Addr} {ox : Obj} {od : Option Obj} {a : Value} {T id : String}
/-- a op x, a of a built-in kind that declines, x an instance with the reflected method -/
theorem bin_refl {op : Operator} {Q : Value → Shared → Prop} (X : K.In s.heap) (I : InstAt s.heap x ox C od) (ha : s.TypeIs a T) (slot : Slot T (PySem.dunder op.info.2) id) (hfT : fillsNumberSlot (.type T) op.info.2 = pure true) (hc : PySem.W.selfFirst K C = true)
    (hs : findIn K (.ref C) (PySem.dunder op.info.2) = some (some (.ref f))) (hsub : subIn K (.ref C) (.type T) = some false)
    (dec : ∀ (E Q : Value → Shared → Prop), Q .notImplemented s → wpAny (model prog w) A (call (.builtin id) [a, .ref x]) Q E s)
    (hr : findIn K (.ref C) (dunderR op.info.2) = some (some (.ref g))) (hg : isFn K (.ref g) = true)
    (h : wpAny (model prog w) A (call (.ref g) [.ref x, a]) (PySem.W.CmpBack Q) E s) : wpAny (model prog w) A (binaryOp op a (.ref x)) Q E s := by
  obtain ⟨cd, rest, hcd, hm⟩ := PySem.W.ksp_first hc
  have two : wpAny (model prog w) A (tryMethod (.ref x) (dunderR op.info.2) a) (fun r s' => ∃ v, r = some v ∧ Q v s') E s := PySem.W.ksp_try X I hr hg h
  rcases hi : op.info with ⟨sym, nm⟩
  rw [hi] at slot hfT hs hr two
  dsimp only at slot hfT hs hr two
  simp only [binaryOp, hi]
  refine wpAny_holding (wpAny_bind ?_)
  unfold binaryOp1
  refine wpAny_bind (wpAny_typeOf ha (wpAny_bind (I.type.here (wpAny_bind (wpAny_of_eq hfT ?_)))))
  have hne : (Value.type T == Value.ref C) = false := Bool.eq_false_iff.mpr fun q => by cases beq_iff_eq.mp q
  simp only [hne, Bool.false_eq_true, if_false]
  refine wpAny_bind ((PySem.W.fills_K X hcd hm hs).here ?_)
  simp only [Bool.and_self, if_true]
  refine wpAny_bind ((looks_subIn X hsub).here ?_)
  have hpy : numberSlotInPython (.type T) nm = pure false := rfl
  simp only [Bool.false_eq_true, if_false, pure_bind, Bool.not_false, Bool.and_self, if_true, hpy]
  refine wpAny_bind (wpAny_tryMethod_declines ha slot (dec _ _ ⟨rfl, ?_⟩))
  refine wpAny_bind (wpAny_mono two (fun r s' z => ?_) fun _ _ e => e)
  obtain ⟨v, rfl, hq⟩ := z
  exact wpAny_bind (wpAny_rule (wpAny_pure (wpAny_pure hq)))
/-- the same of an order -/
theorem cmp_refl {op : CmpOp} {Q : Value → Shared → Prop} (hu : A.units < cLine) (X : K.In s.heap) (I : InstAt s.heap x ox C od) (ha : s.TypeIs a T) (slot : Slot T (cmpInfo op).2.1 id) (hsub : subIn K (.ref C) (.type T) = some false)
    (dec : ∀ (E Q : Value → Shared → Prop), Q .notImplemented s → wpAny (model prog w) A (call (.builtin id) [a, .ref x]) Q E s)
    (hs : findIn K (.ref C) (cmpInfo op).2.2 = some (some (.ref f))) (hf : isFn K (.ref f) = true)
    (h : wpAny (model prog w) A (call (.ref f) [.ref x, a]) (PySem.W.CmpBack Q) E s) : wpAny (model prog w) A (richCompare op a (.ref x)) Q E s := by
  have two : wpAny (model prog w) A (tryCompare (.ref x) (cmpInfo op).2.2 a) (fun r s' => ∃ v, r = some v ∧ Q v s') E s := by
    unfold tryCompare
    refine wpAny_bind (ifBound_K X I hs hf (wpAny_mono h (fun v s' hv => ?_) fun _ _ e => e))
    cases v <;> first | exact hv.elim | exact wpAny_pure ⟨_, rfl, hv⟩
  unfold richCompare
  rcases hi : cmpInfo op with ⟨sym, n1, n2⟩
  rw [hi] at slot hs two
  dsimp only at slot hs two
  simp only [ha.oneThing_none]
  refine wpAny_holding (wpAny_bind (wpAny_cRoomFor hu ?_))
  refine wpAny_bind (wpAny_typeOf ha (wpAny_bind (I.type.here ?_)))
  have hne : (Value.type T != Value.ref C) = true := by
    rw [bne_iff_ne]; exact fun z => nomatch z
  simp only [hne, if_true]
  refine wpAny_bind ((looks_subIn X hsub).here ?_)
  simp only [Bool.false_eq_true, if_false, Bool.not_false, if_true]
  refine wpAny_bind (m := tryCompare a _ _) (wpAny_tryCompare_declines ha slot (dec _ _ ⟨rfl, ?_⟩))
  refine wpAny_bind (m := tryCompare (.ref x) _ a) (wpAny_mono two (fun r s' z => ?_) fun _ _ e => e)
  obtain ⟨v, rfl, hq⟩ := z
  exact wpAny_pure hq
end
theorem int_add_ins (a : Int) (t : Tok) (x : Addr) (c : Value) (dd : Option Addr) (sl : Array (Option Value)) :
    Meets (Builtin.«int.__add__» ⟨[.int a t, .ref x], []⟩) (fun _ R s => s.heap.get? x = some { cls := c, dict := dd, data := .plain, slots := sl } ∧ R (.ok (.ret .notImplemented)) s) :=
  .of_wp fun prog w A R s h => by obtain ⟨hp, g, d, tk, os⟩ := s; obtain ⟨hl, h⟩ := h; wp_walk using wpAny_loadPart' hl; exact ⟨_, rfl, h⟩
theorem int_sub_ins (a : Int) (t : Tok) (x : Addr) (c : Value) (dd : Option Addr) (sl : Array (Option Value)) :
    Meets (Builtin.«int.__sub__» ⟨[.int a t, .ref x], []⟩) (fun _ R s => s.heap.get? x = some { cls := c, dict := dd, data := .plain, slots := sl } ∧ R (.ok (.ret .notImplemented)) s) :=
  .of_wp fun prog w A R s h => by obtain ⟨hp, g, d, tk, os⟩ := s; obtain ⟨hl, h⟩ := h; wp_walk using wpAny_loadPart' hl; exact ⟨_, rfl, h⟩
theorem int_mul_ins (a : Int) (t : Tok) (x : Addr) (c : Value) (dd : Option Addr) (sl : Array (Option Value)) :
    Meets (Builtin.«int.__mul__» ⟨[.int a t, .ref x], []⟩) (fun _ R s => s.heap.get? x = some { cls := c, dict := dd, data := .plain, slots := sl } ∧ R (.ok (.ret .notImplemented)) s) :=
  .of_wp fun prog w A R s h => by obtain ⟨hp, g, d, tk, os⟩ := s; obtain ⟨hl, h⟩ := h; wp_walk using wpAny_loadPart' hl; exact ⟨_, rfl, h⟩
theorem int_lt_ins (a : Int) (t : Tok) (x : Addr) (c : Value) (dd : Option Addr) (sl : Array (Option Value)) :
    Meets (Builtin.«int.__lt__» ⟨[.int a t, .ref x], []⟩) (fun _ R s => s.heap.get? x = some { cls := c, dict := dd, data := .plain, slots := sl } ∧ R (.ok (.ret .notImplemented)) s) :=
  .of_wp fun prog w A R s h => by obtain ⟨hp, g, d, tk, os⟩ := s; obtain ⟨hl, h⟩ := h; wp_walk using wpAny_loadPart' hl; exact ⟨_, rfl, h⟩
theorem int_le_ins (a : Int) (t : Tok) (x : Addr) (c : Value) (dd : Option Addr) (sl : Array (Option Value)) :
    Meets (Builtin.«int.__le__» ⟨[.int a t, .ref x], []⟩) (fun _ R s => s.heap.get? x = some { cls := c, dict := dd, data := .plain, slots := sl } ∧ R (.ok (.ret .notImplemented)) s) :=
  .of_wp fun prog w A R s h => by obtain ⟨hp, g, d, tk, os⟩ := s; obtain ⟨hl, h⟩ := h; wp_walk using wpAny_loadPart' hl; exact ⟨_, rfl, h⟩
theorem int_gt_ins (a : Int) (t : Tok) (x : Addr) (c : Value) (dd : Option Addr) (sl : Array (Option Value)) :
    Meets (Builtin.«int.__gt__» ⟨[.int a t, .ref x], []⟩) (fun _ R s => s.heap.get? x = some { cls := c, dict := dd, data := .plain, slots := sl } ∧ R (.ok (.ret .notImplemented)) s) :=
  .of_wp fun prog w A R s h => by obtain ⟨hp, g, d, tk, os⟩ := s; obtain ⟨hl, h⟩ := h; wp_walk using wpAny_loadPart' hl; exact ⟨_, rfl, h⟩
theorem int_ge_ins (a : Int) (t : Tok) (x : Addr) (c : Value) (dd : Option Addr) (sl : Array (Option Value)) :
    Meets (Builtin.«int.__ge__» ⟨[.int a t, .ref x], []⟩) (fun _ R s => s.heap.get? x = some { cls := c, dict := dd, data := .plain, slots := sl } ∧ R (.ok (.ret .notImplemented)) s) :=
  .of_wp fun prog w A R s h => by obtain ⟨hp, g, d, tk, os⟩ := s; obtain ⟨hl, h⟩ := h; wp_walk using wpAny_loadPart' hl; exact ⟨_, rfl, h⟩
end GL

set_option Elab.async false
set_option linter.all false
set_option autoImplicit false
set_option maxRecDepth 100000
set_option maxHeartbeats 4000000
namespace GL
open PySem PySem.Spec PyProof.Rows L2
open PySem.W (Frag findIn isFn subIn notFirst)
/-! own operators of a class beside integers -/
def OwnOrInt (C : Addr) (y : V) (H : Hp) : Prop := (∃ b dy gs, y = .ref b ∧ H b = some (.ins C dy gs)) ∨ ∃ i, y = .int i
def rBinO (C : Addr) (sp : Sp) : R2 := fun x y H Q => ∃ a dx fs, x = .ref a ∧ H a = some (.ins C dx fs) ∧ OwnOrInt C y H ∧ sp [.ref a, y] H Q E0
def rBinR (C : Addr) (sp : Sp) : R2 := fun x y H Q => ∃ i a dx fs, x = .int i ∧ y = .ref a ∧ H a = some (.ins C dx fs) ∧ sp [.ref a, .int i] H Q E0
structure BinK (K : Frag) (C : Addr) (nm : String) (f g : Addr) : Prop where
  c : PySem.W.selfFirst K C = true
  s : findIn K (.ref C) (PySem.dunder nm) = some (some (.ref f))
  fn : isFn K (.ref f) = true
  r : findIn K (.ref C) (dunderR nm) = some (some (.ref g))
  gn : isFn K (.ref g) = true
  t1 : (findIn K (.type "int") (PySem.dunder nm)).isSome = true
  t2 : (findIn K (.type "int") (dunderR nm)).isSome = true
  sb : subIn K (.type "int") (.ref C) = some false
  bs : subIn K (.ref C) (.type "int") = some false
def binB (K : Frag) (C : Addr) (nm : String) (f g : Addr) : Bool := PySem.W.selfFirst K C && (decide (findIn K (.ref C) (PySem.dunder nm) = some (some (.ref f))) && (isFn K (.ref f) && (decide (findIn K (.ref C) (dunderR nm) = some (some (.ref g))) && (isFn K (.ref g) && ((findIn K (.type "int") (PySem.dunder nm)).isSome && ((findIn K (.type "int") (dunderR nm)).isSome && (decide (subIn K (.type "int") (.ref C) = some false) && decide (subIn K (.ref C) (.type "int") = some false))))))))
theorem binB_of {K : Frag} {C : Addr} {nm : String} {f g : Addr} (h : binB K C nm f g = true) : BinK K C nm f g := by
  unfold binB at h
  simp only [Bool.and_eq_true, decide_eq_true_eq] at h
  obtain ⟨h1, h2, h3, h4, h5, h6, h7, h8, h9⟩ := h
  exact ⟨h1, h2, h3, h4, h5, h6, h7, h8, h9⟩
theorem some_of {α : Type} {o : Option α} (h : o.isSome = true) : ∃ a, o = some a := by
  cases o with
  | none => cases h
  | some a => exact ⟨a, rfl⟩
theorem ep_back {X : Cx} {pins : List (Addr × Obj)} {σ : L2.St} {Q : VK} {u : Value} {s' : Shared} (z : EP X pins σ Q u s') : PySem.W.CmpBack (EP X pins σ Q) u s' := by
  obtain ⟨v, H', I, r, q⟩ := z
  cases u with
  | notImplemented => exfalso; cases v <;> first | (obtain ⟨_, r⟩ := r; cases r; done) | (cases r; done)
  | _ => exact ⟨v, H', I, r, q⟩
section
variable {X : Cx} {n : Nat} {C f g : Addr} {fd : FuncData} {ps : List Str} {sp : Sp} {op : Operator}
theorem op_binO (O : BinK X.K C op.info.2 f g) (F : FnOk X.prog X.w X.K X.mg X.base CX0 n f fd ps sp) (hb : Binds X.K fd ps []) (hr : Room n X.A) : OpR X (binaryOp op) (rBinO C sp) := by
  intro pins s σ H x y v u Q I rx ry h
  obtain ⟨a, dx, fs, rfl, ha, hy, h⟩ := h
  cases rx
  obtain ⟨mA, J, _⟩ := ins_get I.hok ha
  obtain ⟨od, J, _⟩ := J.look
  obtain ⟨m, hF⟩ := I.fr
  have go : ∀ {u : Value}, RelV y u → wpAny (model X.prog X.w) X.A (call (.ref f) [.ref a, u]) (PySem.W.CmpBack (EP X pins σ Q)) X.xe s := fun {u} r => wpAny_mono (run_any (A := X.A) (us := [.ref a, u]) (vs := [.ref a, y]) F hr rfl hb pass0 I (.cons rfl (.cons r .nil)) h) (fun _ _ z => ep_back z) fun _ _ e => e
  rcases hy with ⟨b, dy, gs, rfl, hb'⟩ | ⟨i, rfl⟩
  · cases ry
    obtain ⟨mB, J', _⟩ := ins_get I.hok hb'
    obtain ⟨od', J', _⟩ := J'.look
    exact PySem.W.binop_K hF I.ok.mod.kin J J'.type O.c O.s O.fn (go rfl)
  · have r0 := ry
    obtain ⟨t, rfl⟩ := ry
    obtain ⟨fo, t1⟩ := some_of O.t1
    obtain ⟨ro, t2⟩ := some_of O.t2
    exact PySem.W.ksp_binT hF I.ok.mod.kin J rfl O.c O.s O.fn O.r (.inr ⟨g, rfl⟩) t1 t2 O.sb (go r0)
/-- i op x, by the reflected method at g -/
theorem op_binR {id : String} (O : BinK X.K C op.info.2 f g) (slot : Slot "int" (PySem.dunder op.info.2) id) (fill : fillsNumberSlot (.type "int") op.info.2 = pure true)
    (dec : ∀ (s : Shared) (i : Int) (t : Tok) (x : Addr) (c : Value) (dd : Option Addr) (sl : Array (Option Value)) (E Q : Value → Shared → Prop), s.heap.get? x = some { cls := c, dict := dd, data := .plain, slots := sl } → Q .notImplemented s → wpAny (model X.prog X.w) X.A (call (.builtin id) [.int i t, .ref x]) Q E s)
    (F : FnOk X.prog X.w X.K X.mg X.base CX0 n g fd ps sp) (hb : Binds X.K fd ps []) (hr : Room n X.A) : OpR X (binaryOp op) (rBinR C sp) := by
  intro pins s σ H x y v u Q I rx ry h
  obtain ⟨i, a, dx, fs, rfl, rfl, ha, h⟩ := h
  cases ry
  have r0 := rx
  obtain ⟨t, rfl⟩ := rx
  obtain ⟨mA, J, _⟩ := ins_get I.hok ha
  obtain ⟨od, J, _⟩ := J.look
  have ob : s.heap.get? a = some (PySem.W.instObj C dx) := (I.hok a _ ha).2.2.2.1
  exact bin_refl I.kIn J (typeIs_int s i t) slot fill O.c O.s O.bs (fun E Q q => dec s i t a _ _ _ E Q ob q) O.r O.gn
    (wpAny_mono (run_any (A := X.A) (us := [.ref a, .int i t]) (vs := [.ref a, .int i]) F hr rfl hb pass0 I (.cons rfl (.cons r0 .nil)) h) (fun _ _ z => ep_back z) fun _ _ e => e)
end
/-- orders -/
structure CmpK (K : Frag) (C : Addr) (op : CmpOp) (f g : Addr) : Prop where
  s : findIn K (.ref C) (cmpInfo op).2.1 = some (some (.ref f))
  fn : isFn K (.ref f) = true
  r : findIn K (.ref C) (cmpInfo op).2.2 = some (some (.ref g))
  gn : isFn K (.ref g) = true
  n1 : notFirst K C (.type "int") = true
  n2 : notFirst K C (.ref C) = true
  bs : subIn K (.ref C) (.type "int") = some false
def cmpB (K : Frag) (C : Addr) (op : CmpOp) (f g : Addr) : Bool := decide (findIn K (.ref C) (cmpInfo op).2.1 = some (some (.ref f))) && (isFn K (.ref f) && (decide (findIn K (.ref C) (cmpInfo op).2.2 = some (some (.ref g))) && (isFn K (.ref g) && (notFirst K C (.type "int") && (notFirst K C (.ref C) && decide (subIn K (.ref C) (.type "int") = some false))))))
theorem cmpB_of {K : Frag} {C : Addr} {op : CmpOp} {f g : Addr} (h : cmpB K C op f g = true) : CmpK K C op f g := by
  unfold cmpB at h
  simp only [Bool.and_eq_true, decide_eq_true_eq] at h
  obtain ⟨h1, h2, h3, h4, h5, h6, h7⟩ := h
  exact ⟨h1, h2, h3, h4, h5, h6, h7⟩
section
variable {X : Cx} {n : Nat} {C f g : Addr} {fd : FuncData} {ps : List Str} {sp : Sp} {op : CmpOp}
theorem op_cmpO (O : CmpK X.K C op f g) (hop : compareOp op = richCompare op) (F : FnOk X.prog X.w X.K X.mg X.base CX0 n f fd ps sp) (hb : Binds X.K fd ps []) (hr : Room n X.A) : OpR X (compareOp op) (rBinO C sp) := by
  rw [hop]
  intro pins s σ H x y v u Q I rx ry h
  obtain ⟨a, dx, fs, rfl, ha, hy, h⟩ := h
  cases rx
  obtain ⟨mA, J, _⟩ := ins_get I.hok ha
  obtain ⟨od, J, _⟩ := J.look
  obtain ⟨m, hF⟩ := I.fr
  have go : ∀ {u : Value}, RelV y u → wpAny (model X.prog X.w) X.A (call (.ref f) [.ref a, u]) (PySem.W.CmpBack (EP X pins σ Q)) X.xe s := fun {u} r => wpAny_mono (run_any (A := X.A) (us := [.ref a, u]) (vs := [.ref a, y]) F hr rfl hb pass0 I (.cons rfl (.cons r .nil)) h) (fun _ _ z => ep_back z) fun _ _ e => e
  rcases hy with ⟨b, dy, gs, rfl, hb'⟩ | ⟨i, rfl⟩
  · cases ry
    obtain ⟨mB, J', _⟩ := ins_get I.hok hb'
    obtain ⟨od', J', _⟩ := J'.look
    exact PySem.W.cmp_K (tb := .ref C) hr.units0 hF I.ok.mod.kin J J'.type O.n2 O.s O.fn (go rfl)
  · have r0 := ry
    obtain ⟨t, rfl⟩ := ry
    exact PySem.W.cmp_K (tb := .type "int") hr.units0 hF I.ok.mod.kin J (PySem.W.Looks.of_pure rfl) O.n1 O.s O.fn (go r0)
theorem op_cmpR {id : String} (O : CmpK X.K C op f g) (hop : compareOp op = richCompare op) (slot : Slot "int" (cmpInfo op).2.1 id)
    (dec : ∀ (s : Shared) (i : Int) (t : Tok) (x : Addr) (c : Value) (dd : Option Addr) (sl : Array (Option Value)) (E Q : Value → Shared → Prop), s.heap.get? x = some { cls := c, dict := dd, data := .plain, slots := sl } → Q .notImplemented s → wpAny (model X.prog X.w) X.A (call (.builtin id) [.int i t, .ref x]) Q E s)
    (F : FnOk X.prog X.w X.K X.mg X.base CX0 n g fd ps sp) (hb : Binds X.K fd ps []) (hr : Room n X.A) : OpR X (compareOp op) (rBinR C sp) := by
  rw [hop]
  intro pins s σ H x y v u Q I rx ry h
  obtain ⟨i, a, dx, fs, rfl, rfl, ha, h⟩ := h
  cases ry
  have r0 := rx
  obtain ⟨t, rfl⟩ := rx
  obtain ⟨mA, J, _⟩ := ins_get I.hok ha
  obtain ⟨od, J, _⟩ := J.look
  have ob : s.heap.get? a = some (PySem.W.instObj C dx) := (I.hok a _ ha).2.2.2.1
  exact cmp_refl hr.units0 I.kIn J (typeIs_int s i t) slot O.bs (fun E Q q => dec s i t a _ _ _ E Q ob q) O.r O.gn
    (wpAny_mono (run_any (A := X.A) (us := [.ref a, .int i t]) (vs := [.ref a, .int i]) F hr rfl hb pass0 I (.cons rfl (.cons r0 .nil)) h) (fun _ _ z => ep_back z) fun _ _ e => e)
end
/-! what integers say to instances -/
section
variable {prog : Program} {w : World} {A : Around} {s : Shared} {i : Int} {t : Tok} {x : Addr} {c : Value} {dd : Option Addr} {sl : Array (Option Value)} {E Q : Value → Shared → Prop}
theorem dec_add (h : s.heap.get? x = some { cls := c, dict := dd, data := .plain, slots := sl }) (q : Q .notImplemented s) : wpAny (model prog w) A (call (.builtin "int.__add__") [.int i t, .ref x]) Q E s := call_meets F.slot_int_add (typeIs_int s i t) F.entry_int_add (F.args_int_add_2 _ _) (int_add_ins i t x _ _ _) ⟨h, q⟩
theorem dec_sub (h : s.heap.get? x = some { cls := c, dict := dd, data := .plain, slots := sl }) (q : Q .notImplemented s) : wpAny (model prog w) A (call (.builtin "int.__sub__") [.int i t, .ref x]) Q E s := call_meets F.slot_int_sub (typeIs_int s i t) F.entry_int_sub (F.args_int_sub_2 _ _) (int_sub_ins i t x _ _ _) ⟨h, q⟩
theorem dec_mul (h : s.heap.get? x = some { cls := c, dict := dd, data := .plain, slots := sl }) (q : Q .notImplemented s) : wpAny (model prog w) A (call (.builtin "int.__mul__") [.int i t, .ref x]) Q E s := call_meets F.slot_int_mul (typeIs_int s i t) F.entry_int_mul (F.args_int_mul_2 _ _) (int_mul_ins i t x _ _ _) ⟨h, q⟩
theorem dec_lt (h : s.heap.get? x = some { cls := c, dict := dd, data := .plain, slots := sl }) (q : Q .notImplemented s) : wpAny (model prog w) A (call (.builtin "int.__lt__") [.int i t, .ref x]) Q E s := call_meets F.slot_int_lt (typeIs_int s i t) F.entry_int_lt (F.args_int_lt_2 _ _) (int_lt_ins i t x _ _ _) ⟨h, q⟩
theorem dec_le (h : s.heap.get? x = some { cls := c, dict := dd, data := .plain, slots := sl }) (q : Q .notImplemented s) : wpAny (model prog w) A (call (.builtin "int.__le__") [.int i t, .ref x]) Q E s := call_meets F.slot_int_le (typeIs_int s i t) F.entry_int_le (F.args_int_le_2 _ _) (int_le_ins i t x _ _ _) ⟨h, q⟩
theorem dec_gt (h : s.heap.get? x = some { cls := c, dict := dd, data := .plain, slots := sl }) (q : Q .notImplemented s) : wpAny (model prog w) A (call (.builtin "int.__gt__") [.int i t, .ref x]) Q E s := call_meets F.slot_int_gt (typeIs_int s i t) F.entry_int_gt (F.args_int_gt_2 _ _) (int_gt_ins i t x _ _ _) ⟨h, q⟩
theorem dec_ge (h : s.heap.get? x = some { cls := c, dict := dd, data := .plain, slots := sl }) (q : Q .notImplemented s) : wpAny (model prog w) A (call (.builtin "int.__ge__") [.int i t, .ref x]) Q E s := call_meets F.slot_int_ge (typeIs_int s i t) F.entry_int_ge (F.args_int_ge_2 _ _) (int_ge_ins i t x _ _ _) ⟨h, q⟩
end
section
variable {X : Cx} {n : Nat} {C f g : Addr} {fd : FuncData} {ps : List Str} {sp : Sp}
theorem op_raddO (O : BinK X.K C "add" f g) (F : FnOk X.prog X.w X.K X.mg X.base CX0 n g fd ps sp) (hb : Binds X.K fd ps []) (hr : Room n X.A) : OpR X (binaryOp .Add) (rBinR C sp) := op_binR (op := .Add) O PySem.F.slot_int_add PySem.F.fills_int_add (fun s i t x c dd sl E Q h q => dec_add h q) F hb hr
theorem op_rsubO (O : BinK X.K C "sub" f g) (F : FnOk X.prog X.w X.K X.mg X.base CX0 n g fd ps sp) (hb : Binds X.K fd ps []) (hr : Room n X.A) : OpR X (binaryOp .Sub) (rBinR C sp) := op_binR (op := .Sub) O PySem.F.slot_int_sub PySem.F.fills_int_sub (fun s i t x c dd sl E Q h q => dec_sub h q) F hb hr
theorem op_rmulO (O : BinK X.K C "mul" f g) (F : FnOk X.prog X.w X.K X.mg X.base CX0 n g fd ps sp) (hb : Binds X.K fd ps []) (hr : Room n X.A) : OpR X (binaryOp .Mult) (rBinR C sp) := op_binR (op := .Mult) O PySem.F.slot_int_mul PySem.F.fills_int_mul (fun s i t x c dd sl E Q h q => dec_mul h q) F hb hr
theorem op_ltO (O : CmpK X.K C .Lt f g) (F : FnOk X.prog X.w X.K X.mg X.base CX0 n f fd ps sp) (hb : Binds X.K fd ps []) (hr : Room n X.A) : OpR X (compareOp .Lt) (rBinO C sp) := op_cmpO O rfl F hb hr
theorem op_leO (O : CmpK X.K C .LtE f g) (F : FnOk X.prog X.w X.K X.mg X.base CX0 n f fd ps sp) (hb : Binds X.K fd ps []) (hr : Room n X.A) : OpR X (compareOp .LtE) (rBinO C sp) := op_cmpO O rfl F hb hr
theorem op_gtO (O : CmpK X.K C .Gt f g) (F : FnOk X.prog X.w X.K X.mg X.base CX0 n f fd ps sp) (hb : Binds X.K fd ps []) (hr : Room n X.A) : OpR X (compareOp .Gt) (rBinO C sp) := op_cmpO O rfl F hb hr
theorem op_geO (O : CmpK X.K C .GtE f g) (F : FnOk X.prog X.w X.K X.mg X.base CX0 n f fd ps sp) (hb : Binds X.K fd ps []) (hr : Room n X.A) : OpR X (compareOp .GtE) (rBinO C sp) := op_cmpO O rfl F hb hr
theorem op_rltO (O : CmpK X.K C .Lt f g) (F : FnOk X.prog X.w X.K X.mg X.base CX0 n g fd ps sp) (hb : Binds X.K fd ps []) (hr : Room n X.A) : OpR X (compareOp .Lt) (rBinR C sp) := op_cmpR O rfl PySem.F.slot_int_lt (fun s i t x c dd sl E Q h q => dec_lt h q) F hb hr
theorem op_rleO (O : CmpK X.K C .LtE f g) (F : FnOk X.prog X.w X.K X.mg X.base CX0 n g fd ps sp) (hb : Binds X.K fd ps []) (hr : Room n X.A) : OpR X (compareOp .LtE) (rBinR C sp) := op_cmpR O rfl PySem.F.slot_int_le (fun s i t x c dd sl E Q h q => dec_le h q) F hb hr
theorem op_rgtO (O : CmpK X.K C .Gt f g) (F : FnOk X.prog X.w X.K X.mg X.base CX0 n g fd ps sp) (hb : Binds X.K fd ps []) (hr : Room n X.A) : OpR X (compareOp .Gt) (rBinR C sp) := op_cmpR O rfl PySem.F.slot_int_gt (fun s i t x c dd sl E Q h q => dec_gt h q) F hb hr
theorem op_rgeO (O : CmpK X.K C .GtE f g) (F : FnOk X.prog X.w X.K X.mg X.base CX0 n g fd ps sp) (hb : Binds X.K fd ps []) (hr : Room n X.A) : OpR X (compareOp .GtE) (rBinR C sp) := op_cmpR O rfl PySem.F.slot_int_ge (fun s i t x c dd sl E Q h q => dec_ge h q) F hb hr
end
end GL

set_option Elab.async false
set_option linter.all false
set_option autoImplicit false
set_option maxRecDepth 100000
set_option maxHeartbeats 2000000
namespace GL
open PySem PySem.Spec PyProof.Rows L2
/-! C.m(..), m a static method of the class at C -/
structure SMet (K : PySem.W.Frag) (C : Addr) (mc : Value) (m : Str) (p g : Addr) : Prop where
  at_ : PySem.W.findCls K (.ref C) mc m = some (.get (.builtin "staticmethod.__get__") (.ref p) .none (.ref C))
  rc : ∃ rest, PySem.W.recIn K p "staticmethod" = some (.ref g :: rest)
  kp : PySem.W.keepIn K (.ref g) = true
def tSMeth (C : Addr) (sp : Sp) (E : XK) (ta : TE) (t : TA) : TE := fun σ H Q => ta σ H fun x H1 => x = .ref C ∧ t σ H1 fun vs H2 => sp vs H2 Q E
def tSMethK (C : Addr) (m : Nat) (sp : Sp) (gV : List V → List V → List V) (E : XK) (ta : TE) (tk : TA) : TE := fun σ H Q => ta σ H fun x H1 => x = .ref C ∧ tk σ H1 fun zs H2 => zs.length = m ∧ sp (gV [] zs) H2 Q E
section
variable {X : Cx} {CX : CXT} {k : Nat} {C p g : Addr} {mc : Value} {fd : FuncData} {ps ks : List Str} {sp : Sp} {E : XK} {o e : Expr} {es : List Expr} {kws : List Keyword} {m : Str} {pos apos : Pos} {ta : TE} {t tk : TA} {pl : Sem Bool} {gv : List Value → List Value → List Value} {gV : List V → List V → List V}
theorem getsm_ok {pins : List (Addr × Obj)} {σ : L2.St} {H : Hp} {s : Shared} {A : Around} {E : Value → Shared → Prop} {Q : Value × List Value → Shared → Prop} (I : Inv X pins σ H s) (r : ClX.CRead X.K C mc) (c : SMet X.K C mc m p g) (h : ∀ s', Inv X pins σ H s' → Q (.ref g, []) s') : wpAny (model X.prog X.w) A (getMethod (.ref C) m pl) Q E s := by
  obtain ⟨rest, hp⟩ := c.rc
  refine PySem.W.method_cls I.kIn r.ga ?_
  refine PySem.W.cls_bind I.kIn r.rd c.at_ ?_
  exact wpAny_call (PySem.W.sm_get (s := { s with toks := s.toks + 1 }) I.kIn hp (PySem.W.handed_on rfl (h _ (I.tok _))))
theorem pe_smeth (he : PE X o ta) (r : ClX.CRead X.K C mc) (c : SMet X.K C mc m p g) (F : FnOk X.prog X.w X.K X.mg X.base CX k g fd ps sp) (hb : Binds X.K fd ps []) (hr : Room k X.A) (hx : Passes CX X E) (ha : PA X (e :: es) t)
    (hst : starEach (e :: es) X.env = (false, eval e X.env) :: starEach es X.env := by rfl) (hpl : (backTo pos (starEach es X.env)).any (·.1) = false := by rfl)
    (ht : eval (.Call (.Attribute o m apos) (e :: es) [] pos) X.env = (do
      let ov ← eval o X.env
      standAt apos.atName
      let (f, first) ← holding [ov] (getMethod ov m pl)
      callWith pos f first (backTo pos (starEach (e :: es) X.env)) (backToKw pos (keywordEach [] X.env))) := by rfl) :
    PE X (.Call (.Attribute o m apos) (e :: es) [] pos) (tSMeth C sp E ta t) := by
  refine ⟨fun pins s σ H Q I h => ?_⟩
  refine PySem.W.methodCall_KW (pl := pl) (thn (he.run pins s σ H _ I h) fun u s1 ⟨x, H1, I1, rx, ex, q⟩ => ?_) ht
  subst ex
  obtain rfl : u = Value.ref C := rx
  refine getsm_ok I1 r c fun s2 I2 => ?_
  refine PySem.W.callWith_K (first := []) (h₀ := X.base) I.ok.mod.kin c.kp (thn (ha.run pos pins s2 σ H1 _ I2 q) fun us s3 ⟨vs, H2, I3, rv, q2⟩ => ⟨I3.kIn, ?_⟩) hst hpl
  exact run_fn (us := us) (vs := vs) (dvs := []) (ds := []) F hr hb .nil hx I3 rv (by rw [List.append_nil]; exact q2)
theorem pe_smethK0 (he : PE X o ta) (r : ClX.CRead X.K C mc) (c : SMet X.K C mc m p g) (F : FnOk X.prog X.w X.K X.mg X.base CX k g fd ps sp) (hb : KBn X.K fd ps 0 ks gv gV) (hr : Room k X.A) (hx : Passes CX X E) (hkw : PK X kws tk)
    (hall : (backToKw pos (keywordEach kws X.env)).all (·.1.isSome) = true := by rfl) (hks : (backToKw pos (keywordEach kws X.env)).filterMap (·.1) = ks := by rfl) (hpl : ((backTo pos (starEach [] X.env)).any (·.1) || (backToKw pos (keywordEach kws X.env)).any (·.1.isNone)) = false := by rfl)
    (ht : eval (.Call (.Attribute o m apos) [] kws pos) X.env = (do
      let ov ← eval o X.env
      standAt apos.atName
      let (f, first) ← holding [ov] (getMethod ov m pl)
      callWith pos f first (backTo pos (starEach [] X.env)) (backToKw pos (keywordEach kws X.env))) := by rfl) :
    PE X (.Call (.Attribute o m apos) [] kws pos) (tSMethK C ks.length sp gV E ta tk) := by
  refine ⟨fun pins s σ H Q I h => ?_⟩
  refine PySem.W.methodCall_KW (pl := pl) (thn (he.run pins s σ H _ I h) fun u s1 ⟨x, H1, I1, rx, ex, q⟩ => ?_) ht
  subst ex
  obtain rfl : u = Value.ref C := rx
  refine getsm_ok I1 r c fun s2 I2 => ?_
  refine PySem.W.callWith_of (P := fun h => X.K.In h) hpl (PySem.W.keeps_K c.kp) ?_
  refine evalArgs_kw2_nil hall ?_
  refine thn (hkw.run pos pins s2 σ H1 _ I2 q) fun ws s3 ⟨zs, H2, I3, rz, l2, q2⟩ => ⟨I3.kIn, ?_⟩
  rw [hks]
  have l3 : ws.length = ks.length := rz.length.symm.trans l2
  have rel := hb.rel (vs := []) (us := []) .nil rz
  refine wpAny_call (codeAny_mono (F.run X.A X.stack s3 H2 ⟨[], ks.zip ws⟩ (gv [] ws) (gV [] zs) Q E hr I3.env0 (hb.to s3 [] ws I3.kIn rfl l3) rel q2) fun q s' z => ?_)
  cases q with
  | error er => exact hx pins σ H2 s3 er s' I3 z
  | ok fl => cases fl with
    | ret u => exact I3.after z
    | next | brk | cont => exact False.elim z
end
/-! all of these as data -/
section
variable {K : PySem.W.Frag} {σ : L2.St} {G : Hp} {ta tb : TE} {tA tk : TA} {C : Addr} {ns : List Str} {ds es : List Da} {d d2 : Da} {i : Int} {E : XK} {n : Nat} {R : List Da → Da → Prop} {o : Out} {Ro : List Da → Out → Prop}
theorem ed_binO (ha : Evd K ta σ G (.ins C ns ds)) (hb : Evd K tb σ G d2) (h2 : (∃ ns2 ds2, d2 = .ins C ns2 ds2) ∨ ∃ i, d2 = .int i) (hR : R [.ins C ns ds, d2] d) : Evd K (tOp (rBinO C (Pr K 2 R)) ta tb) σ G d := ed_two ha (fun _ s => hb.up s) fun v w G' H' _ e dv dw Q k => by
  have dv0 := dv
  have dw0 := dw
  cases dv with
  | ins a1 a2 a3 =>
    refine ⟨_, _, _, rfl, e _ _ a1, ?_, G', [.ins C ns ds, d2], d, e, rfl, .cons dv0 (.cons dw0 .nil), hR, fun v2 G2 H2 n2 d3 => k v2 G2 H2 n2 d3⟩
    rcases h2 with ⟨ns2, ds2, rfl⟩ | ⟨j, rfl⟩
    · cases dw with
      | ins b1 b2 b3 => exact .inl ⟨_, _, _, rfl, e _ _ b1⟩
    · cases dw
      exact .inr ⟨j, rfl⟩
theorem ed_binR (ha : Evd K ta σ G (.int i)) (hb : Evd K tb σ G (.ins C ns ds)) (hR : R [.ins C ns ds, .int i] d) : Evd K (tOp (rBinR C (Pr K 2 R)) ta tb) σ G d := ed_two ha (fun _ s => hb.up s) fun v w G' H' _ e dv dw Q k => by
  have dw0 := dw
  cases dv
  cases dw with
  | ins a1 a2 a3 =>
    exact ⟨i, _, _, _, rfl, rfl, e _ _ a1, G', [.ins C ns ds, .int i], d, e, rfl, .cons dw0 (.cons (.int i) .nil), hR, fun v2 G2 H2 n2 d3 => k v2 G2 H2 n2 d3⟩
theorem ed_prop (h : Evd K ta σ G (.ins C ns ds)) (hR : R [.ins C ns ds] d) : Evd K (tProp C (Pr K 1 R) [] E ta) σ G d := fun H e Q q => h H e _ fun v G1 H1 n1 dv => by
  have dv0 := dv
  cases dv with
  | ins a1 a2 a3 => exact ⟨_, _, _, rfl, n1.b _ _ a1, G1, [.ins C ns ds], d, n1.b, rfl, .cons dv0 .nil, hR, fun v2 G2 H2 n2 d2 => q v2 G2 H2 (n1.trans n2) d2⟩
theorem ed_smeth (ho : Evd K ta σ G (.obj C)) (h : Evs K tA σ G ds) (hl : ds.length = n) (hR : R ds d) : Evd K (tSMeth C (Pr K n R) E ta tA) σ G d := fun H e Q q => ho H e _ fun v G1 H1 n1 dv => by
  cases dv
  exact ⟨rfl, (h.up n1.a) H1 n1.b _ fun vs G2 H2 n2 dvs => ⟨G2, ds, d, n2.b, hl, dvs, hR, fun v2 G3 H3 n3 d3 => q v2 G3 H3 (n1.trans (n2.trans n3)) d3⟩⟩
theorem o_smeth (ho : Evd K ta σ G (.obj C)) (h : Evs K tA σ G ds) (hl : ds.length = n) (hR : Ro ds o) : EvO K (fun E => tSMeth C (Po K n Ro) E ta tA) σ G o := fun H e Q E q => ho H e _ fun v G1 H1 n1 dv => by
  cases dv
  exact ⟨rfl, (h.up n1.a) H1 n1.b _ fun vs G2 H2 n2 dvs => ⟨G2, ds, o, n2.b, hl, dvs, hR, q.up (n1.trans n2)⟩⟩
end
end GL

set_option Elab.async false
set_option linter.all false
set_option autoImplicit false
set_option maxRecDepth 100000
set_option maxHeartbeats 2000000
namespace GL
open PySem PySem.Spec PyProof.Rows L2
/-! what a class offers, told without addresses -/
section
variable (P : Program) (w : World) (K : PySem.W.Frag) (mg : Str → Option Value) (base : Heap) (C : Addr)
def PropG (x : Str) (k : Nat) (sp : Sp) : Prop := ∃ p g fd, PropOf K C x p g ∧ FnOk P w K mg base CX0 k g fd ["self"] sp ∧ Binds K fd ["self"] []
def SMetG (x : Str) (k : Nat) (ps : List Str) (sp : Sp) : Prop := ∃ mc p g fd, ClX.CRead K C mc ∧ SMet K C mc x p g ∧ FnOk P w K mg base CX0 k g fd ps sp ∧ Binds K fd ps []
def MkG (k n : Nat) (gV : List V → List V → List V) (sp : Sp) : Prop := ∃ f fd ps g, Mk K C f ∧ FnOk P w K mg base CX0 k f fd ps sp ∧ KBn K fd ps (n + 1) [] g gV
/-- the left method of an operator -/
def BinG (nm : String) (k : Nat) (sp : Sp) : Prop := ∃ f g fd ps, BinK K C nm f g ∧ FnOk P w K mg base CX0 k f fd ps sp ∧ Binds K fd ps []
/-- the reflected one -/
def BinRG (nm : String) (k : Nat) (sp : Sp) : Prop := ∃ f g fd ps, BinK K C nm f g ∧ FnOk P w K mg base CX0 k g fd ps sp ∧ Binds K fd ps []
def CmpG (op : CmpOp) (k : Nat) (sp : Sp) : Prop := ∃ f g fd ps, CmpK K C op f g ∧ FnOk P w K mg base CX0 k f fd ps sp ∧ Binds K fd ps []
def CmpRG (op : CmpOp) (k : Nat) (sp : Sp) : Prop := ∃ f g fd ps, CmpK K C op f g ∧ FnOk P w K mg base CX0 k g fd ps sp ∧ Binds K fd ps []
def NegG (k : Nat) (sp : Sp) : Prop := ∃ f fd ps, PySem.W.findIn K (.ref C) "__neg__" = some (some (.ref f)) ∧ PySem.W.isFn K (.ref f) = true ∧ FnOk P w K mg base CX0 k f fd ps sp ∧ Binds K fd ps []
def MethG (x : Str) (k : Nat) (ps : List Str) (sp : Sp) : Prop := ∃ f fd, Meth K C x f ∧ FnOk P w K mg base CX0 k f fd ps sp ∧ Binds K fd ps []
end
section
variable {X : Cx} {k n : Nat} {C : Addr} {x m : Str} {sp : Sp} {E : XK} {e : Expr} {es : List Expr} {p pos apos : Pos} {ta : TE} {t : TA} {gV : List V → List V → List V} {ps : List Str} {pl : Sem Bool}
theorem pe_propG (h : PropG X.prog X.w X.K X.mg X.base C x k sp) (he : PE X e ta) (c : Cls X.K C) (hr : Room (k + 1) X.A) (hab : attributeBase e x X.env (eval e X.env) = eval e X.env := by rfl) : PE X (.Attribute e x pos) (tProp C sp [] E0 ta) := by
  obtain ⟨p, g, fd, hp, F, hb⟩ := h
  exact pe_prop he c hp F hr hb .nil pass0 hab
theorem pe_smethG (h : SMetG X.prog X.w X.K X.mg X.base C m k ps sp) (he : PE X e ta) (hr : Room k X.A) {e1 : Expr} (ha : PA X (e1 :: es) t)
    (hst : starEach (e1 :: es) X.env = (false, eval e1 X.env) :: starEach es X.env := by rfl) (hpl : (backTo pos (starEach es X.env)).any (·.1) = false := by rfl)
    (ht : eval (.Call (.Attribute e m apos) (e1 :: es) [] pos) X.env = (do
      let ov ← eval e X.env
      standAt apos.atName
      let (f, first) ← holding [ov] (getMethod ov m pl)
      callWith pos f first (backTo pos (starEach (e1 :: es) X.env)) (backToKw pos (keywordEach [] X.env))) := by rfl) : PE X (.Call (.Attribute e m apos) (e1 :: es) [] pos) (tSMeth C sp E0 ta t) := by
  obtain ⟨mc, p, g, fd, r, c, F, hb⟩ := h
  exact pe_smeth he r c F hb hr pass0 ha hst hpl ht
theorem pe_mkG (h : MkG X.prog X.w X.K X.mg X.base C k n gV sp) (hr : Room (k + 1) X.A) (hg : Gl X x) (hm : X.mg x = some (.ref C)) (ha : PA X (e :: es) t)
    (hdb : (x == ("__debug__" : Str)) = false := by decide) (he : starEach (e :: es) X.env = (false, eval e X.env) :: starEach es X.env := by rfl) (hpl : (backTo pos (starEach es X.env)).any (·.1) = false := by rfl)
    (hpl2 : ((backTo pos (starEach (e :: es) X.env)).any (·.1) || (backToKw pos (keywordEach [] X.env)).any (·.1.isNone)) = false := by rfl) : PE X (.Call (.Name x p) (e :: es) [] pos) (tMakeN C n 0 sp gV E0 t tNil) := by
  obtain ⟨f, fd, ps, g, M, F, hb⟩ := h
  exact pe_makeN M F hr hg hm hb pass0 ha pk_nil (by rfl) (by rfl) hdb he hpl2
theorem op_addG (h : BinG X.prog X.w X.K X.mg X.base C "add" k sp) (hr : Room k X.A) : OpR X (binaryOp .Add) (rBinO C sp) := by
  obtain ⟨f, g, fd, ps, O, F, hb⟩ := h
  exact op_binO (op := .Add) O F hb hr
theorem op_subG (h : BinG X.prog X.w X.K X.mg X.base C "sub" k sp) (hr : Room k X.A) : OpR X (binaryOp .Sub) (rBinO C sp) := by
  obtain ⟨f, g, fd, ps, O, F, hb⟩ := h
  exact op_binO (op := .Sub) O F hb hr
theorem op_mulG (h : BinG X.prog X.w X.K X.mg X.base C "mul" k sp) (hr : Room k X.A) : OpR X (binaryOp .Mult) (rBinO C sp) := by
  obtain ⟨f, g, fd, ps, O, F, hb⟩ := h
  exact op_binO (op := .Mult) O F hb hr
theorem op_raddG (h : BinRG X.prog X.w X.K X.mg X.base C "add" k sp) (hr : Room k X.A) : OpR X (binaryOp .Add) (rBinR C sp) := by
  obtain ⟨f, g, fd, ps, O, F, hb⟩ := h
  exact op_raddO O F hb hr
theorem op_rsubG (h : BinRG X.prog X.w X.K X.mg X.base C "sub" k sp) (hr : Room k X.A) : OpR X (binaryOp .Sub) (rBinR C sp) := by
  obtain ⟨f, g, fd, ps, O, F, hb⟩ := h
  exact op_rsubO O F hb hr
theorem op_rmulG (h : BinRG X.prog X.w X.K X.mg X.base C "mul" k sp) (hr : Room k X.A) : OpR X (binaryOp .Mult) (rBinR C sp) := by
  obtain ⟨f, g, fd, ps, O, F, hb⟩ := h
  exact op_rmulO O F hb hr
theorem op_cmpG {op : CmpOp} (hop : compareOp op = richCompare op) (h : CmpG X.prog X.w X.K X.mg X.base C op k sp) (hr : Room k X.A) : OpR X (compareOp op) (rBinO C sp) := by
  obtain ⟨f, g, fd, ps, O, F, hb⟩ := h
  exact op_cmpO O hop F hb hr
theorem op_rltG (h : CmpRG X.prog X.w X.K X.mg X.base C .Lt k sp) (hr : Room k X.A) : OpR X (compareOp .Lt) (rBinR C sp) := by
  obtain ⟨f, g, fd, ps, O, F, hb⟩ := h
  exact op_rltO O F hb hr
theorem op_rleG (h : CmpRG X.prog X.w X.K X.mg X.base C .LtE k sp) (hr : Room k X.A) : OpR X (compareOp .LtE) (rBinR C sp) := by
  obtain ⟨f, g, fd, ps, O, F, hb⟩ := h
  exact op_rleO O F hb hr
theorem op_rgtG (h : CmpRG X.prog X.w X.K X.mg X.base C .Gt k sp) (hr : Room k X.A) : OpR X (compareOp .Gt) (rBinR C sp) := by
  obtain ⟨f, g, fd, ps, O, F, hb⟩ := h
  exact op_rgtO O F hb hr
theorem op_rgeG (h : CmpRG X.prog X.w X.K X.mg X.base C .GtE k sp) (hr : Room k X.A) : OpR X (compareOp .GtE) (rBinR C sp) := by
  obtain ⟨f, g, fd, ps, O, F, hb⟩ := h
  exact op_rgeO O F hb hr
theorem un_negG (h : NegG X.prog X.w X.K X.mg X.base C k sp) (hr : Room k X.A) : UnR X (unaryOp .USub) (rUnO C sp E0) := by
  obtain ⟨f, fd, ps, hs, hf, F, hb⟩ := h
  exact un_negO F hs hf hb hr pass0
end
theorem ins_fin {K : PySem.W.Frag} {G H G4 H4 H' : Hp} {a C dx : Addr} {o : HO} {ns : List Str} {us : List V} {es : List Da} {Q : VK} (n : Nw G H G4 H4) (ha : H a = some o) (ga : G a = none)
    (k : ∀ G' H', (∀ b o, b ≠ a → H b = some o → H' b = some o) → Same G G' → Same G' H' → (∀ b o, b ≠ a → H b = some o → G b = none → G' b = none) → DR K G' (.ref a) (.ins C ns es) → Q .non H')
    (e1 : H' a = some (.ins C dx (ns.zip us))) (e2 : ∀ b, b ≠ a → H' b = H4 b) (hl : ns.length = us.length) (dd : DRs K G4 us es) : Q .non H' := by
  have g4 : G4 a = none := n.n a _ ha ga
  have up : Same G4 (upd G4 a (.ins C dx (ns.zip us))) := same_upd (Same.refl _) g4
  refine k (upd G4 a (.ins C dx (ns.zip us))) H' (fun b u hb z => by rw [e2 b hb]; exact n.s _ _ z) (n.a.trans up) (fun b u z => ?_) (fun b u hb z q => by rw [upd_ne hb]; exact n.n _ _ z q) (.ins upd_same hl (dd.up up))
  by_cases hb : b = a
  · subst hb; rw [upd_same] at z; rw [e1]; exact z
  · rw [upd_ne hb] at z; rw [e2 b hb]; exact n.b _ _ z
end GL

set_option Elab.async false
set_option linter.all false
set_option autoImplicit false
set_option maxRecDepth 100000
set_option maxHeartbeats 2000000
namespace GL
open PySem PySem.Spec PyProof.Rows L2
/-! texts, where nothing in the heap changes; zfill, join, parts of texts -/
section
variable {K : PySem.W.Frag} {σ : L2.St} {H G : Hp} {ta tb te : TE} {z y : Str} {i j : Int} {tl th : TO} {lo hi : Option Int}
theorem vi_fdivWN' (hc : CDivWN i j) (ha : Val ta σ H (.int i)) (hb : Val tb σ H (.int j)) : Val (tOp (rI CDivWN fun i j => .int (i.fdiv j)) ta tb) σ H (.int (i.fdiv j)) := val_op ha hb fun Q q => ⟨i, j, rfl, rfl, hc, q⟩
theorem vi_mulW (hc : CMulW i j) (ha : Val ta σ H (.int i)) (hb : Val tb σ H (.int j)) : Val (tOp (rI CMulW fun i j => .int (i * j)) ta tb) σ H (.int (i * j)) := val_op ha hb fun Q q => ⟨i, j, rfl, rfl, hc, q⟩
theorem vi_strI (h : Val te σ H (.int i)) (hi : i.natAbs.log2 < 1920) : Val (tCB rStrI (tCons te tNil)) σ H (.str (toString i)) := fun Q q => h _ ⟨i, rfl, hi, q⟩
def rZf : V → List V → Hp → VK → Prop := fun x xs H Q => ∃ a i, x = .str a ∧ xs = [.int i] ∧ PadOk i = true ∧ Q (.str (Txt.zfill a i)) H
theorem vi_zfill (ha : Val ta σ H (.str z)) (hb : Val tb σ H (.int i)) (hi : PadOk i = true) : Val (tM1 rZf ta tb) σ H (.str (Txt.zfill z i)) := fun Q q => ha _ ⟨⟨z, rfl⟩, hb _ ⟨z, i, rfl, rfl, hi, q⟩⟩
theorem vi_lenS (h : Val te σ H (.str z)) (hz : z.length ≤ 1000) : Val (tCB rLenS1 (tCons te tNil)) σ H (.int z.length) := fun Q q => h _ ⟨z, rfl, sizeK hz, q⟩
def rIntS : List V → Hp → VK → Prop := fun xs H Q => ∃ a n, xs = [.str a] ∧ PySem.intText? a = some n ∧ a.length ≤ 640 ∧ Q (.int n) H
theorem vi_intS (h : Val te σ H (.str z)) (hn : PySem.intText? z = some i) (hz : z.length ≤ 640) : Val (tCB rIntS (tCons te tNil)) σ H (.int i) := fun Q q => h _ ⟨z, i, rfl, hn, hz, q⟩
theorem vi_slS (h : Val te σ H (.str z)) (hz : z.length ≤ 1000) (hl : ∀ Q, Q lo H → tl σ H Q) (hh : ∀ Q, Q hi H → th σ H Q) : Val (tSl C8.rSlX te tl th) σ H (.str (Txt.slice z lo hi)) := fun Q q => h _ (hl _ (hh _ (by
  unfold C8.rSlX
  exact ⟨z, rfl, sizeK hz, q⟩)))
theorem vi_if {tt : TT} {b : Bool} {v : V} (ht : Ans tt σ H b) (h1 : b = true → Val ta σ H v) (h2 : b = false → Val tb σ H v) : Val (tIf tt ta tb) σ H v := fun Q q => ht _ (by
  cases b with
  | true => rw [if_pos rfl]; exact h1 rfl Q q
  | false => rw [if_neg Bool.false_ne_true]; exact h2 rfl Q q)
theorem pa_i {o : V} (h : Val te σ H o) (ho : o = .int i) : Val te σ H (.int i) := ho ▸ h
end
theorem slice_codes (z : Str) (lo hi : Option Int) : codes (Txt.slice z lo hi) = List.take (HT.sIx z.length z.length hi - HT.sIx z.length 0 lo) (List.drop (HT.sIx z.length 0 lo) (codes z)) := by
  rw [← C8.cutS_slice]; rfl
theorem slice_to' {z : Str} {n : Nat} : codes (Txt.slice z none (some (n : Int))) = (codes z).take n := by
  cases z with | mk a =>
  have := @SX.slice_to a.toList (n : Int) (by omega)
  have e : SX.S a.toList = ⟨a⟩ := by simp [SX.S]
  rw [e] at this
  rw [this]
  simp [codes]
theorem slice_from' {z : Str} {n : Nat} : codes (Txt.slice z (some (n : Int)) none) = (codes z).drop n := by
  cases z with | mk a =>
  have := @SX.slice_from a.toList (n : Int) (by omega)
  have e : SX.S a.toList = ⟨a⟩ := by simp [SX.S]
  rw [e] at this
  rw [this]
  simp [codes]
theorem sIx_nn {n d : Nat} {k : Nat} : HT.sIx n d (some (k : Int)) = min k n := by
  unfold HT.sIx
  simp only
  split
  · omega
  · omega
theorem slice_mid {z : Str} {n m : Nat} : codes (Txt.slice z (some (n : Int)) (some (m : Int))) = ((codes z).take m).drop n := by
  rw [slice_codes, sIx_nn, sIx_nn, List.drop_take]
  have hl : (codes z).length = z.length := codes_len z
  by_cases h : n ≤ z.length
  · rw [Nat.min_eq_left h]
    by_cases h2 : m ≤ z.length
    · rw [Nat.min_eq_left h2]
    · rw [Nat.min_eq_right (show z.length ≤ m by omega), List.take_of_length_le (show (List.drop n (codes z)).length ≤ z.length - n by rw [List.length_drop]; omega), List.take_of_length_le (show (List.drop n (codes z)).length ≤ m - n by rw [List.length_drop]; omega)]
  · rw [Nat.min_eq_right (show z.length ≤ n by omega), List.drop_of_length_le (show (codes z).length ≤ z.length by omega), List.drop_of_length_le (show (codes z).length ≤ n by omega)]
    simp
/-- joined with nothing between -/
theorem join_codes : ∀ ys : List Str, codes (Txt.join ("" : Str) ys) = (ys.map codes).flatten
  | [] => by
    rw [TL.join_eq]
    exact (by decide +kernel : codes (Str.join ("" : Str) []) = [])
  | y :: ys => by
    have ih := join_codes ys
    rw [TL.join_eq] at ih ⊢
    have e : (("" : Str)) = ⟨#[]⟩ := by decide +kernel
    rw [e] at ih ⊢
    rw [join_nil_cons, codes_app, ih]
    rfl
theorem zfill_pad {n k : Nat} : codes (Txt.zfill (natS n) (k : Int)) = pad k n := by
  have hz : ∀ x : Str, ADig (codes x) → codes x ≠ [] → ∀ m, codes (zfilled x m) = List.replicate m 48 ++ codes x := fun x hx ne m => by
    unfold zfilled
    obtain ⟨c, r, e⟩ : ∃ c r, codes x = c :: r := by
      cases h : codes x with
      | nil => exact absurd h ne
      | cons c r => exact ⟨c, r, rfl⟩
    have hc := hx c (by rw [e]; simp)
    have h0 : x.cps[0]? = some c := by
      rw [← Array.getElem?_toList]
      show (codes x)[0]? = some c
      rw [e]; rfl
    rw [h0]
    split
    · next h => cases h; omega
    · next h => cases h; omega
    · show (Builtin.Str.padded x m 0 48).cps.toList = _
      rw [padded_list]
      simp [codes]
  unfold Txt.zfill pad
  split
  · next h =>
    rw [show k - (natS n).length = 0 by omega]
    rfl
  · next h =>
    rw [hz _ (natS_dig n) (natS_ne n), Int.toNat_natCast]
theorem toString_nat (n : Nat) : ((toString (n : Int) : String) : Str) = natS n := rfl
end GL

set_option Elab.async false
set_option linter.all false
set_option maxRecDepth 100000
set_option maxHeartbeats 4000000
namespace GL
open PySem PySem.Spec PyProof.Rows L2
section
variable {K : PySem.W.Frag} {σ : L2.St} {G : Hp} {ta tb : TE} {i j : Int} {b c : Bool}
theorem ed_gcd (ha : Evd K ta σ G (.int i)) (hb : Evd K tb σ G (.int j)) : Evd K (tCB rGcd (tCons ta (tCons tb tNil))) σ G (.int (gcdI i j)) := fun H e Q q => ha H e _ fun v G1 H1 n1 dv => (hb.up n1.a) H1 n1.b _ fun w G2 H2 n2 dw => by
  cases dv; cases dw
  exact ⟨i, j, rfl, q _ G2 H2 (n1.trans n2) (.int _)⟩
theorem ed_mulW (hc : CMulW i j) (ha : Evd K ta σ G (.int i)) (hb : Evd K tb σ G (.int j)) : Evd K (tOp (rI CMulW fun i j => .int (i * j)) ta tb) σ G (.int (i * j)) := ed_two ha (fun _ s => hb.up s) fun v w G' H' _ e dv dw Q k => by
  cases dv; cases dw
  exact ⟨i, j, rfl, rfl, hc, k _ G' H' (Nw.refl e) (.int _)⟩
theorem ed_fdivWN (hc : CDivWN i j) (ha : Evd K ta σ G (.int i)) (hb : Evd K tb σ G (.int j)) : Evd K (tOp (rI CDivWN fun i j => .int (i.fdiv j)) ta tb) σ G (.int (i.fdiv j)) := ed_two ha (fun _ s => hb.up s) fun v w G' H' _ e dv dw Q k => by
  cases dv; cases dw
  exact ⟨i, j, rfl, rfl, hc, k _ G' H' (Nw.refl e) (.int _)⟩
theorem ed_subI (ha : Evd K ta σ G (.int i)) (hb : Evd K tb σ G (.int j)) : Evd K (tOp (rI0 fun i j => .int (i - j)) ta tb) σ G (.int (i - j)) := ed_two ha (fun _ s => hb.up s) fun v w G' H' _ e dv dw Q k => by
  cases dv; cases dw
  exact ⟨i, j, rfl, rfl, k _ G' H' (Nw.refl e) (.int _)⟩
theorem ed_negI (ha : Evd K ta σ G (.int i)) : Evd K (tUn (rU fun i => .int (-i)) ta) σ G (.int (-i)) := fun H e Q q => ha H e _ fun v G1 H1 n1 dv => by
  cases dv
  exact ⟨i, rfl, q _ G1 H1 n1 (.int _)⟩
theorem ed_ltI (ha : Evd K ta σ G (.int i)) (hb : Evd K tb σ G (.int j)) : Evd K (tOp (rI0 fun i j => .bl (decide (i < j))) ta tb) σ G (.bl (decide (i < j))) := ed_two ha (fun _ s => hb.up s) fun v w G' H' _ e dv dw Q k => by
  cases dv; cases dw
  exact ⟨i, j, rfl, rfl, k _ G' H' (Nw.refl e) (.bl _)⟩
theorem ed_leI (ha : Evd K ta σ G (.int i)) (hb : Evd K tb σ G (.int j)) : Evd K (tOp (rI0 fun i j => .bl (decide (i ≤ j))) ta tb) σ G (.bl (decide (i ≤ j))) := ed_two ha (fun _ s => hb.up s) fun v w G' H' _ e dv dw Q k => by
  cases dv; cases dw
  exact ⟨i, j, rfl, rfl, k _ G' H' (Nw.refl e) (.bl _)⟩
theorem ed_geI (ha : Evd K ta σ G (.int i)) (hb : Evd K tb σ G (.int j)) : Evd K (tOp (rI0 fun i j => .bl (decide (j ≤ i))) ta tb) σ G (.bl (decide (j ≤ i))) := ed_two ha (fun _ s => hb.up s) fun v w G' H' _ e dv dw Q k => by
  cases dv; cases dw
  exact ⟨i, j, rfl, rfl, k _ G' H' (Nw.refl e) (.bl _)⟩
theorem ed_orT (ha : Evd K ta σ G (.bl true)) : Evd K (tOrV ta tb) σ G (.bl true) := fun H e Q q => ha H e _ fun v G1 H1 n1 dv => by
  cases dv
  exact ⟨true, rfl, q _ G1 H1 n1 (.bl true)⟩
theorem x_orV (ha : Evd K ta σ G (.bl b)) (hb : Evd K tb σ G (.bl c)) : Evd K (tOrV ta tb) σ G (.bl (b || c)) := fun H e Q q => ha H e _ fun v G1 H1 n1 dv => by
  cases dv
  refine ⟨b, rfl, ?_⟩
  cases b with
  | true => exact q _ G1 H1 n1 (.bl true)
  | false => exact (hb.up n1.a) H1 n1.b Q fun v2 G2 H2 n2 d2 => q v2 G2 H2 (n1.trans n2) d2
theorem ed_notB (ha : Evd K ta σ G (.bl b)) : Evd K (tNotV ta) σ G (.bl (!b)) := fun H e Q q => ha H e _ fun v G1 H1 n1 dv => by
  cases dv
  exact ⟨b, rfl, q _ G1 H1 n1 (.bl _)⟩
end
/-- sizes of products -/
theorem sz_mul {n m : Nat} {i j : Int} (h1 : i.natAbs < 2 ^ n) (h2 : j.natAbs < 2 ^ m) (hn : 0 < n) (hm : 0 < m) (h : n + m ≤ 1000000) : CMulW i j := wide_mul h1 h2 hn hm h
end GL

set_option Elab.async false
set_option linter.all false
set_option maxRecDepth 100000
set_option maxHeartbeats 4000000
namespace K02
open PySem PySem.Spec PyProof.Rows L2 GL
abbrev s_digits_of : Stmt := top 5
abbrev s_number_text : Stmt := top 6
abbrev s_is_digits : Stmt := top 7
abbrev s_read_digits : Stmt := top 8
def DIGL : Str := "0123456789"
theorem in_digl {c : Nat} : c ∈ DIGL.cps.toList ↔ 48 ≤ c ∧ c ≤ 57 := by
  have e : DIGL.cps.toList = [48, 49, 50, 51, 52, 53, 54, 55, 56, 57] := by decide +kernel
  rw [e]
  simp only [List.mem_cons, List.not_mem_nil, or_false]
  omega
def isDg (x : Str) : Bool := decide ((0 : Int) < (x.length : Int)) && ((codes x).map fun c => decide (c ∈ DIGL.cps.toList)).all id
theorem isDg_iff {x : Str} : isDg x = true ↔ ADig (codes x) ∧ codes x ≠ [] := by
  unfold isDg
  rw [Bool.and_eq_true, decide_eq_true_eq, List.all_eq_true]
  constructor
  · rintro ⟨h1, h2⟩
    refine ⟨fun c hc => ?_, fun e => ?_⟩
    · have := h2 _ (List.mem_map.mpr ⟨c, hc, rfl⟩)
      exact in_digl.mp (of_decide_eq_true this)
    · have := codes_len x
      rw [e] at this
      simp at this
      omega
  · rintro ⟨h1, h2⟩
    refine ⟨?_, fun b hb => ?_⟩
    · have := codes_len x
      have : 0 < (codes x).length := List.length_pos_iff.mpr h2
      omega
    · obtain ⟨c, hc, rfl⟩ := List.mem_map.mp hb
      exact decide_eq_true (in_digl.mpr (h1 c hc))
structure TX (P : Program) (w : World) (K : PySem.W.Frag) (mg : Str → Option Value) (base : Heap) : Prop where
  n_str : mg "str" = none
  n_int : mg "int" = none
  n_len : mg "len" = none
  n_all : mg "all" = none
  n_range : mg "range" = none
  s_DIGITS : ∃ t, mg "DIGITS" = some (.str DIGL t)
  i_CHUNK : ∃ t, mg "CHUNK" = some (.int 60 t)
def Rdig (ds : List Da) (d : Da) : Prop := ∃ n : Nat, ds = [.int (n : Int)] ∧ n < 10 ^ 600 ∧ d = .str (natS n)
def intS (i : Int) : Str := if i < 0 then ("-" : Str) ++ natS i.natAbs else natS i.natAbs
def Rnum (ds : List Da) (d : Da) : Prop := ∃ i : Int, ds = [.int i] ∧ i.natAbs < 10 ^ 600 ∧ d = .str (intS i)
def Rdgs (ds : List Da) (d : Da) : Prop := ∃ x : Str, ds = [.str x] ∧ x.length ≤ 1000 ∧ d = .bl (isDg x)
def Rrdd (ds : List Da) (d : Da) : Prop := ∃ x : Str, ds = [.str x] ∧ x.length ≤ 1000 ∧ isDg x = true ∧ d = .int (dVal (codes x) : Int)
theorem p60 : (10 : Int) ^ (60 : Int).toNat = ((10 ^ 60 : Nat) : Int) := by decide +kernel
theorem log_small {n : Nat} (h : n < 10 ^ 60) : ((n : Int)).natAbs.log2 < 1920 := by
  rw [Int.natAbs_natCast]
  by_cases hz : n = 0
  · subst hz; decide
  · exact (Nat.log2_lt hz).mpr (Nat.lt_trans h (by decide +kernel))
theorem div60 : CDivWN 5 ((10 ^ 60 : Nat) : Int) := ⟨by decide +kernel, by
  rw [Int.natAbs_natCast]
  exact Nat.lt_of_le_of_lt (show Nat.log2 (10 ^ 60) ≤ 200 by decide +kernel) (by decide)⟩
section
variable {P : Program} {w : World} {K : PySem.W.Frag} {mg : Str → Option Value} {base : Heap}
theorem sc_digits_of : FnScope ["number", "chunks", "rest"] ["number"] (defScope s_digits_of) := ⟨rfl, rfl, rfl, by decide +kernel, rfl, by decide +kernel, by decide +kernel⟩
theorem ok_digits_of {f : Addr} {fd : FuncData} (F : Fun K "digits_of" "digits_of" s_digits_of f fd) (T : TX P w K mg base) : FnOk P w K mg base CX0 1 f fd ["number"] (Pr K 1 Rdig) := by
  refine F.ok sc_digits_of Pr.len fun cdv A outer s H vs Q E hr h => ?_
  obtain ⟨G, ds, d, hs, hl, hd, ⟨n, rfl, hn, rfl⟩, k⟩ := h
  obtain ⟨v, rfl, dv⟩ := one_of hd
  cases dv
  refine ⟨_, (pss_cons (ps_set (i := 1) sc_digits_of.nd rfl (Or.inl rfl) (pe_lst pa_nil))
    (pss_cons (ps_set (i := 2) sc_digits_of.nd rfl (Or.inl rfl) (pv 0))
    (pss_cons (ps_while PassesOwn.never (pt_cmpR op_ge (pv 2) (pe_op op_pow pe_int pe_int) (nomark _))
      (pss_cons (ps_expr (pe_bm PySem.F.plainAttrs_list PySem.F.slot_list_append PySem.F.type_list_append mt_append (pv 1) (pa_cons (pe_m1 PySem.F.slot_str_zfill PySem.F.type_str_zfill mt_zfill (pe_callTy call_str_int (by rfl) T.n_str (by decide +kernel) (pa_cons (pe_op op_mod (pv 2) (pe_op op_pow pe_int pe_int)) pa_nil)) (pe_kI T.i_CHUNK rfl)) pa_nil)))
      (pss_one (ps_set (i := 2) sc_digits_of.nd rfl (Or.inl rfl) (pe_op op_fdivWN (pv 2) (pe_op op_pow pe_int pe_int))))))
    (pss_cons (ps_expr (pe_bm PySem.F.plainAttrs_list PySem.F.slot_list_append PySem.F.type_list_append mt_append (pv 1) (pa_cons (pe_callTy call_str_int (by rfl) T.n_str (by decide +kernel) (pa_cons (pv 2) pa_nil)) pa_nil)))
    (pss_one (ps_ret (pe_join pe_str (pe_revL (pv 1))))))))), ?_⟩
  refine ⟨Nat.zero_le _, fun p hp => ?_⟩
  refine ⟨_, rfl, ?_⟩
  refine ⟨fun m σ' H' => ∃ cs : List Str, σ' = [some (.int (n : Int)), some (.ref p), some (.int (m : Int))] ∧ H' p = some (.lst (cs.map V.str)) ∧ But p H H' ∧ codes (natS n) = codes (natS m) ++ (cs.reverse.map codes).flatten ∧ m ≤ n ∧ cs.length + m ≤ n + cs.length ∧ 60 * cs.length ≤ ((cs.map codes).flatten).length,
    ⟨n, [], rfl, upd_same, But.upd, by simp, Nat.le_refl _, by omega, by simp⟩, fun m σ' H' hW => ?_⟩
  obtain ⟨cs, rfl, hp', bt, hc, hm, hm2, hlen⟩ := hW
  have total : ((cs.map codes).flatten).length ≤ 600 := by
    have e := congrArg List.length hc
    rw [codes_len, List.length_append] at e
    have : (natS n).length ≤ 600 := (natS_len (by decide)).mpr hn
    have e2 : ((cs.reverse.map codes).flatten).length = ((cs.map codes).flatten).length := by
      rw [List.length_flatten, List.length_flatten, List.map_reverse, List.map_reverse, List.sum_reverse]
    omega
  have cl : cs.length ≤ 10 := by omega
  have pw : ∀ {σ : L2.St} {H : Hp}, Val (tOp (rI CPow fun i j => .int (i ^ j.toNat)) (tC (.int 10)) (tC (.int 60))) σ H (.int ((10 ^ 60 : Nat) : Int)) := fun {σ H} => pa_i (vi_pow (i := 10) (j := 60) ⟨by decide, by decide, by decide⟩ val_c val_c) (by rw [p60])
  refine an_ge (val_var rfl) pw _ ?_
  by_cases hb : ((10 ^ 60 : Nat) : Int) ≤ (m : Int)
  · have hbn : 10 ^ 60 ≤ m := by exact_mod_cast hb
    rw [if_pos (decide_eq_true hb)]
    have lt : m % 10 ^ 60 < 10 ^ 60 := Nat.mod_lt _ (Nat.pow_pos (by decide))
    refine ⟨fun σ' H' => ∃ cs : List Str, σ' = [some (.int (n : Int)), some (.ref p), some (.int ((m / 10 ^ 60 : Nat) : Int))] ∧ H' p = some (.lst (cs.map V.str)) ∧ But p H H' ∧ codes (natS n) = codes (natS (m / 10 ^ 60)) ++ (cs.reverse.map codes).flatten ∧ 60 * cs.length ≤ ((cs.map codes).flatten).length,
      fun σ' H' ⟨cs, e1, e2, e3, e4, e5⟩ => ⟨m / 10 ^ 60, Nat.div_lt_self (Nat.lt_of_lt_of_le (Nat.pow_pos (by decide)) hbn) (Nat.one_lt_pow (by decide) (by decide)), cs, e1, e2, e3, e4, Nat.le_trans (Nat.div_le_self _ _) hm, by have := Nat.div_le_self m (10 ^ 60); omega, e5⟩, ?_⟩
    show tSeq _ _ _ _ H'
    refine ⟨_, rfl, .inl ⟨rfl, _, SqL.of hp'⟩, ?_⟩
    refine vi_zfill (i := ((60 : Nat) : Int)) (vi_strI (i := ((m % 10 ^ 60 : Nat) : Int)) (pa_i (vi_mod (j := ((10 ^ 60 : Nat) : Int)) (by decide +kernel) (val_var (v := .int (m : Int)) rfl) pw) (by rw [Int.natCast_emod])) (log_small lt)) val_c (by decide +kernel) _ ?_
    refine ⟨p, _, _, rfl, rfl, hp', by rw [List.length_map]; exact Nat.lt_of_lt_of_le (show cs.length < 1000 by omega) (by decide), ?_⟩
    refine (pa_i (vi_fdivWN' (i := (m : Int)) (j := ((10 ^ 60 : Nat) : Int)) div60 (val_var rfl) pw) (by rw [Int.fdiv_eq_ediv_of_nonneg _ (by decide +kernel)]; rfl : (V.int ((m : Int).fdiv ((10 ^ 60 : Nat) : Int))) = .int ((m / 10 ^ 60 : Nat) : Int))) _ ?_
    have hpad : (codes (Txt.zfill (natS (m % 10 ^ 60)) ((60 : Nat) : Int))).length = 60 := by rw [zfill_pad]; exact pad_len (by decide) lt
    refine ⟨cs ++ [Txt.zfill (natS (m % 10 ^ 60)) ((60 : Nat) : Int)], rfl, by rw [upd_same, List.map_append]; rfl, bt.trans But.upd, ?_, ?_⟩
    · rw [hc, natS_split (by decide) hbn, List.reverse_append, List.reverse_singleton, List.singleton_append, List.map_cons, List.flatten_cons, zfill_pad, List.append_assoc]
    · rw [List.length_append, List.length_singleton, List.map_append, List.map_singleton, List.flatten_append, List.length_append, List.flatten_cons, List.flatten_nil, List.append_nil, hpad]
      omega
  · rw [if_neg (by rw [decide_eq_true_eq]; exact hb)]
    have lt : m < 10 ^ 60 := by
      have : ¬ 10 ^ 60 ≤ m := fun z => hb (by exact_mod_cast z)
      omega
    show tSeq _ _ _ _ H'
    refine ⟨_, rfl, .inl ⟨rfl, _, SqL.of hp'⟩, ?_⟩
    refine vi_strI (i := (m : Int)) (val_var rfl) (log_small lt) _ ?_
    refine ⟨p, _, _, rfl, rfl, hp', by rw [List.length_map]; exact Nat.lt_of_lt_of_le (show cs.length < 1000 by omega) (by decide), ?_⟩
    refine ⟨⟨_, rfl⟩, _, rfl, p, _, rfl, SqL.of upd_same, fun p2 hp2 => ?_⟩
    have ej : codes (Txt.join ("" : Str) (natS m :: cs.reverse)) = codes (natS n) := by
      rw [join_codes, List.map_cons, List.flatten_cons, hc]
    refine ⟨_, p2, natS m :: cs.reverse, rfl, rfl, .inl (SqL.of (by
      rw [upd_same, List.reverse_append]
      show _ = some (HO.lst (V.str (natS m) :: cs.reverse.map V.str))
      rw [List.map_reverse]
      rfl)), ?_, ?_⟩
    · have l1 : (natS m).length ≤ 60 := (natS_len (by decide)).mpr lt
      have l2 : ((cs.reverse.map fun y : Str => y.length)).sum = ((cs.map codes).flatten).length := by
        rw [List.length_flatten, List.map_map, List.map_reverse, List.sum_reverse]
        exact congrArg List.sum (List.map_congr_left fun y _ => (codes_len y).symm)
      simp only [List.map_cons, List.sum_cons, List.length_cons, List.length_reverse]
      have e0 : (("" : Str)).length = 0 := by decide +kernel
      simp only [e0, l2]
      omega
    rw [str_ext ej]
    refine k _ G _ ⟨fun b o h => ?_, Same.refl G, fun b o h => ?_, fun _ _ _ z => z⟩ (.str _)
    · have ne : b ≠ p := fun e => by rw [e, hp] at h; cases h
      have h1 := bt b o ne h
      have h2 : b ≠ p2 := fun e => by
        rw [← e, upd_ne ne, h1] at hp2
        cases hp2
      rw [upd_ne h2, upd_ne ne]; exact h1
    · have h := hs b o h
      have ne : b ≠ p := fun e => by rw [e, hp] at h; cases h
      have h1 := bt b o ne h
      have h2 : b ≠ p2 := fun e => by
        rw [← e, upd_ne ne, h1] at hp2
        cases hp2
      rw [upd_ne h2, upd_ne ne]; exact h1
theorem intS_neg {i : Int} (h : i < 0) : intS i = ("-" : Str) ++ natS (-i).natAbs := by rw [intS, if_pos h, Int.natAbs_neg]
theorem natS_600 {n : Nat} (h : n < 10 ^ 600) : (natS n).length ≤ 600 := (natS_len (by decide)).mpr h
theorem sc_number_text : FnScope ["number"] ["number"] (defScope s_number_text) := ⟨rfl, rfl, rfl, by decide +kernel, rfl, by decide +kernel, by decide +kernel⟩
theorem ok_number_text {f : Addr} {fd : FuncData} (F : Fun K "number_text" "number_text" s_number_text f fd) (cd : CalO P w K mg base 1 "digits_of" ["number"] (Pr K 1 Rdig)) : FnOk P w K mg base CX0 2 f fd ["number"] (Pr K 1 Rnum) := by
  refine F.ok sc_number_text Pr.len fun cdv A outer s H vs Q E hr h => ?_
  obtain ⟨G, ds, d, hs, hl, hd, ⟨i, rfl, hi, rfl⟩, k⟩ := h
  obtain ⟨v, rfl, dv⟩ := one_of hd
  refine ⟨_, (pss_cons (ps_if (pt_cmpR op_lt (pv 0) pe_int (nomark _)) (pss_one (ps_ret (pe_joined (PJ.cons pe_str (PJ.cons (pe_fmt (pe_calO cd (hr.mono (by decide)) rfl (pa_cons (pe_un un_neg (pv 0)) pa_nil))) PJ.nil))))) pss_nil)
    (pss_one (ps_ret (pe_calO cd (hr.mono (by decide)) rfl (pa_cons (pv 0) pa_nil))))), ?_⟩
  have l6 := natS_600 hi
  refine qn_if hs (et_of (K := K) (ed_ltI (ed_var rfl dv) xc_int)) (fun hb G1 H1 n1 => ?_) fun hb G1 H1 n1 => ?_
  · have hb := of_decide_eq_true hb
    have e : (-i) = ((i.natAbs : Nat) : Int) := by omega
    refine ret_d k n1 (ed_is (ed_js (.cons xc_str (.cons (ed_fmtS (x_callR (d := .str (natS i.natAbs)) (xs_cons (ed_is (ed_negI (ed_var rfl (dv.up n1.a))) (congrArg Da.int e)) es_nil) rfl ⟨_, rfl, hi, rfl⟩) (by omega)) .nil)) ?_) (congrArg Da.str ?_)) rfl
    · have e1 : ("-" : Str).length = 1 := by decide
      simp only [List.map_cons, List.map_nil, List.sum_cons, List.sum_nil, e1]
      omega
    · rw [intS, if_pos hb]
      simp only [List.foldl_cons, List.foldl_nil]
      refine str_ext ?_
      rw [codes_app, codes_app, codes_app]
      rfl
  · have hb := of_decide_eq_false hb
    have e : i = ((i.natAbs : Nat) : Int) := by omega
    refine ret_d k n1 (ed_is (x_callR (R := Rdig) (d := .str (natS i.natAbs)) (xs_cons (ed_is (ed_var rfl (dv.up n1.a)) (congrArg Da.int e)) es_nil) rfl ⟨_, rfl, hi, rfl⟩) (by rw [intS, if_neg hb])) rfl
theorem sc_is_digits : FnScope ["text", "sign"] ["text"] (defScope s_is_digits) := ⟨rfl, rfl, rfl, by decide +kernel, rfl, by decide +kernel, by decide +kernel⟩
def sgOf : Da → Nat
  | .str s => s.cps.getD 0 0
  | _ => 0
theorem dg_list (x : Str) : (((x.cps.toList.map fun c => Da.str (sgn c)).filter fun _ => true).map fun d => Da.bl (decide (sgOf d ∈ DIGL.cps.toList))) = (x.cps.toList.map fun c => decide (c ∈ DIGL.cps.toList)).map Da.bl := by
  rw [List.filter_eq_self.mpr fun _ _ => rfl, List.map_map, List.map_map]
  rfl
theorem ok_is_digits {f : Addr} {fd : FuncData} (F : Fun K "is_digits" "is_digits" s_is_digits f fd) (T : TX P w K mg base) : FnOk P w K mg base CX0 1 f fd ["text"] (Pr K 1 Rdgs) := by
  refine F.ok sc_is_digits Pr.len fun cdv A outer s H vs Q E hr h => ?_
  obtain ⟨G, ds, d, hs, hl, hd, ⟨x, rfl, hx, rfl⟩, k⟩ := h
  obtain ⟨v, rfl, dv⟩ := one_of hd
  refine ⟨_, (pss_one (ps_ret (pe_and (pe_cmpR op_gt (pe_callB call_len_str (by rfl) T.n_len PySem.boot_len (pa_cons (pv 0) pa_nil)) pe_int (nomark _)) (pe_one (pe_callB (cr_all rfl) (by rfl) T.n_all (by decide +kernel) (pa_cons (pe_lc (own := [("sign", 1)]) (g := (gName 1)) (tt := tYes) rfl sc_is_digits.nd (pi_str (pv 0)) (blkOk_by (N := ["text", "sign"]) (sc := defScope s_is_digits) (by decide +kernel)) (fun _ _ _ _ _ => (pg_name (i := 1) sc_is_digits.nd rfl (Or.inl rfl))) (fun _ _ _ _ _ => pts_nil) (fun _ _ _ _ _ => (pe_cmpR op_inS (pv 1) (pe_kS T.s_DIGITS rfl) (by rfl)))) pa_nil)))))), ?_⟩
  refine ret_d k (Nw.refl hs) (x_andV (ed_gtI (ed_lenS (ed_var rfl dv) hx) xc_int rfl) (ed_all (ed_is (ed_lcS (fun _ => true) (fun d => .bl (decide (sgOf d ∈ DIGL.cps.toList))) (ed_var rfl dv) hx fun y d G' H' s1 s2 hm dy => ?_) (congrArg Da.lst (dg_list x))))) rfl
  obtain ⟨c, _, rfl⟩ := List.mem_map.mp hm
  exact ⟨_, go_name, rfl, et_yes, fun _ G2 s3 => ed_inS (c := c) (ed_var rfl (dy.up s3)) xc_str⟩
theorem sc_read_digits : FnScope ["text", "first", "number", "at"] ["text"] (defScope s_read_digits) := ⟨rfl, rfl, rfl, by decide +kernel, rfl, by decide +kernel, by decide +kernel⟩
theorem ad_take {l : List Nat} (h : ADig l) (n : Nat) : ADig (l.take n) := fun c hc => h c (List.mem_of_mem_take hc)
theorem ad_drop {l : List Nat} (h : ADig l) (n : Nat) : ADig (l.drop n) := fun c hc => h c (List.mem_of_mem_drop hc)
theorem ok_read_digits {f : Addr} {fd : FuncData} (F : Fun K "read_digits" "read_digits" s_read_digits f fd) (T : TX P w K mg base) : FnOk P w K mg base CX0 1 f fd ["text"] (Pr K 1 Rrdd) := by
  refine F.ok sc_read_digits Pr.len fun cdv A outer s H vs Q E hr h => ?_
  obtain ⟨G, ds, d, hs, hl, hd, ⟨x, rfl, hx, hg, rfl⟩, k⟩ := h
  obtain ⟨v, rfl, dv⟩ := one_of hd
  cases dv
  obtain ⟨ad, ne⟩ := isDg_iff.mp hg
  have hlen := codes_len x
  refine ⟨_, (pss_cons (ps_set (i := 1) sc_read_digits.nd rfl (Or.inl rfl) (pe_op op_mod (pe_callB call_len_str (by rfl) T.n_len PySem.boot_len (pa_cons (pv 0) pa_nil)) (pe_kI T.i_CHUNK rfl)))
    (pss_cons (ps_set (i := 2) sc_read_digits.nd rfl (Or.inl rfl) (pe_ifExp (pt_cmpR op_gt (pv 1) pe_int (nomark _)) (pe_callTy call_int_str (by rfl) T.n_int (by decide +kernel) (pa_cons (pe_slice C8.sl_txt (pv 0) po_none (po_some (pv 1))) pa_nil)) pe_int))
    (pss_cons (ps_for PassesOwn.never rfl (pi_range3 rfl T.n_range (pa_cons (pv 1) (pa_cons (pe_callB call_len_str (by rfl) T.n_len PySem.boot_len (pa_cons (pv 0) pa_nil)) (pa_cons (pe_kI T.i_CHUNK rfl) pa_nil)))) (pg_name (i := 3) sc_read_digits.nd rfl (Or.inl rfl))
      (pss_one (ps_set (i := 2) sc_read_digits.nd rfl (Or.inl rfl) (pe_op op_add (pe_op op_mulW (pv 2) (pe_op op_pow pe_int pe_int)) (pe_callTy call_int_str (by rfl) T.n_int (by decide +kernel) (pa_cons (pe_slice C8.sl_txt (pv 0) (po_some (pv 3)) (po_some (pe_op op_add (pv 3) (pe_kI T.i_CHUNK rfl)))) pa_nil))))))
    (pss_one (ps_ret (pv 2)))))), ?_⟩
  obtain ⟨q, hq⟩ : ∃ q, x.length = x.length % 60 + q * 60 := ⟨x.length / 60, by omega⟩
  generalize ha : x.length % 60 = a at hq
  have a60 : a < 60 := by omega
  refine pa_i (vi_mod (i := (x.length : Int)) (j := 60) (by decide) (vi_lenS (val_var (v := .str x) rfl) hx) val_c) (by show V.int ((x.length : Int) % 60) = V.int (a : Int); congr 1; omega) _ ?_
  have slv : ∀ {i j : Nat} {te : TE} {σ : L2.St} {H : Hp}, Val te σ H (.str (Txt.slice x (some (i : Int)) (some (j : Int)))) → i < j → j ≤ x.length → j ≤ i + 60 → Val (tCB rIntS (tCons te tNil)) σ H (.int (dVal (((codes x).take j).drop i) : Int)) := fun {i j te σ H} h h1 h2 h3 => by
    have e : codes (Txt.slice x (some (i : Int)) (some (j : Int))) = ((codes x).take j).drop i := slice_mid
    have hl : (((codes x).take j).drop i).length = j - i := by rw [List.length_drop, List.length_take]; omega
    have l60 : (Txt.slice x (some (i : Int)) (some (j : Int))).length ≤ 640 := by rw [← codes_len, e, hl]; omega
    refine vi_intS h ?_ l60
    rw [← e]
    exact int_of (by rw [e]; exact ad_drop (ad_take ad _) _) (by rw [e]; intro z; rw [z] at hl; simp at hl; omega) l60
  have e0 : (if (0 : Int) < (a : Int) then (dVal ((codes x).take a) : Int) else 0) = (dVal ((codes x).take a) : Int) := by
    split
    · rfl
    · next h =>
      have : a = 0 := by omega
      subst this
      simp [dVal, NumText.digitsVal]
  have num : Val (tIf (tTest (tOp (rI0 fun i j => .bl (decide (j < i))) (tVar 1) (tC (.int 0)))) (tCB rIntS (tCons (tSl C8.rSlX (tVar 0) tNoPart (tPart (tVar 1))) tNil)) (tC (.int 0))) [some (.str x), some (.int (a : Int)), none, none] H (.int (dVal ((codes x).take a) : Int)) := by
    refine vi_if (an_gt (val_var rfl) val_c) (fun hb => ?_) fun hb => ?_
    · have hb := of_decide_eq_true hb
      have e : codes (Txt.slice x none (some (a : Int))) = (codes x).take a := slice_to'
      have hl : ((codes x).take a).length = a := by rw [List.length_take]; omega
      have l60 : (Txt.slice x none (some (a : Int))).length ≤ 640 := by rw [← codes_len, e, hl]; omega
      refine vi_intS (vi_slS (val_var rfl) hx (fun _ q => q) fun _ q => ⟨.int (a : Int), rfl, (a : Int), rfl, q⟩) ?_ l60
      rw [← e]
      exact int_of (by rw [e]; exact ad_take ad _) (by rw [e]; intro z; rw [z] at hl; simp at hl; omega) l60
    · have hb := of_decide_eq_false hb
      have : a = 0 := by omega
      subst this
      exact pa_i val_c (by simp [dVal, NumText.digitsVal])
  refine num _ ?_
  have szq : Builtin.Range.rangeSize (a : Int) (x.length : Int) 60 = (q : Int) := by
    unfold Builtin.Range.rangeSize
    rw [if_pos (by decide)]
    split <;> omega
  refine ⟨_, rfl, vi_lenS (val_var (v := .str x) rfl) hx _ ⟨(a : Int), (x.length : Int), 60, q, rfl, ⟨by decide, by decide, ?_, ?_⟩, ?_⟩⟩
  · unfold Builtin.Range.small
    rw [szq]
    unfold Builtin.Range.rangeFitsLong
    rw [if_pos (by decide)]
    simp only [Bool.and_eq_true, Bool.or_eq_true, decide_eq_true_eq, beq_iff_eq]
    omega
  · exact szq
  refine for_rangeC (lo := (a : Int)) (c := 60) (n := q) (fun i σ' H' => H' = H ∧ ∃ o, σ' = [some (.str x), some (.int (a : Int)), some (.int (dVal ((codes x).take (a + i * 60)) : Int)), o]) ⟨rfl, none, by rw [Nat.zero_mul, Nat.add_zero]; rfl⟩ ?_ ?_
  · rintro i σ' H' hi ⟨rfl, o, rfl⟩
    have e1 : ((a : Int) + (i : Int) * 60) = ((a + i * 60 : Nat) : Int) := by omega
    show tAsg _ _ _ [some (V.str x), some (.int (a : Int)), some (.int (dVal ((codes x).take (a + i * 60)) : Int)), some (.int ((a : Int) + (i : Int) * 60))] H'
    rw [e1]
    have i1 : a + (i + 1) * 60 ≤ x.length := by
      have : (i + 1) * 60 ≤ q * 60 := Nat.mul_le_mul_right _ hi
      omega
    have hv : dVal ((codes x).take (a + (i + 1) * 60)) = dVal ((codes x).take (a + i * 60)) * 10 ^ 60 + dVal (((codes x).take (a + i * 60 + 60)).drop (a + i * 60)) := by
      have e : (codes x).take (a + (i + 1) * 60) = (codes x).take (a + i * 60) ++ ((codes x).take (a + i * 60 + 60)).drop (a + i * 60) := by
        rw [show a + (i + 1) * 60 = a + i * 60 + 60 by omega]
        have := List.take_append_drop (a + i * 60) ((codes x).take (a + i * 60 + 60))
        rw [List.take_take, Nat.min_eq_left (by omega)] at this
        exact this.symm
      rw [e, dVal_app]
      congr 3
      rw [List.length_drop, List.length_take]
      omega
    refine (pa_i (vi_add (vi_mulW (i := (dVal ((codes x).take (a + i * 60)) : Int)) (j := ((10 ^ 60 : Nat) : Int)) ?_ (val_var rfl) (pa_i (vi_pow (i := 10) (j := 60) ⟨by decide, by decide, by decide⟩ val_c val_c) (by rw [p60]))) (slv (i := a + i * 60) (j := a + i * 60 + 60) (vi_slS (val_var rfl) hx (fun _ q => ⟨_, rfl, _, rfl, q⟩) fun _ q => ⟨.int ((a + i * 60 : Nat) : Int), rfl, _, 60, rfl, rfl, _, rfl, q⟩) (by omega) (by omega) (by omega))) (o := V.int ((dVal ((codes x).take (a + i * 60)) : Int) * ((10 ^ 60 : Nat) : Int) + (dVal (((codes x).take (a + i * 60 + 60)).drop (a + i * 60)) : Int))) (by rw [hv]; congr 1 : _ = V.int (dVal ((codes x).take (a + (i + 1) * 60)) : Int))) _ ?_
    · have hb : dVal ((codes x).take (a + i * 60)) < 2 ^ 4000 := by
        refine Nat.lt_of_lt_of_le (dVal_lt (ad_take ad _)) (Nat.le_trans (Nat.pow_le_pow_left (show 10 ≤ 2 ^ 4 by decide) _) ?_)
        rw [← Nat.pow_mul]
        exact Nat.pow_le_pow_right (by decide) (by rw [List.length_take]; omega)
      refine sz_mul (n := 4000) (m := 400) ?_ ?_ (by decide) (by decide) (by decide)
      · rw [Int.natAbs_natCast]; exact hb
      · rw [Int.natAbs_natCast]
        exact Nat.lt_of_lt_of_le (show 10 ^ 60 < 2 ^ 200 by decide +kernel) (Nat.pow_le_pow_right (by decide) (by decide))
    · exact ⟨rfl, _, rfl⟩
  · rintro σ' H' ⟨rfl, o, rfl⟩
    have ef : (codes x).take (a + q * 60) = codes x := List.take_of_length_le (by omega)
    refine ⟨_, rfl, ?_⟩
    rw [ef]
    exact k _ G _ (Nw.refl hs) (.int _)
end
end K02

set_option Elab.async false
set_option linter.all false
set_option maxRecDepth 100000
set_option maxHeartbeats 4000000
namespace K02
open PySem PySem.Spec PyProof.Rows L2 GL
def rateN : List Str := ["_top", "_bottom"]
def rateD (C : Addr) (r : Int × Int) : Da := .ins C rateN [.int r.1, .int r.2]
/-- what a rate may be asked about -/
def askR (C : Addr) (d : Da) : Prop := (∃ t, tyD d = some t) ∨ ∃ r, d = rateD C r
def intD : Da → Bool
  | .int _ => true
  | _ => false
def fracD : Da → Bool
  | .int _ => true
  | .ins _ _ _ => true
  | _ => false
def szD : Da → Prop
  | .int i => i.natAbs < 2 ^ 8000
  | _ => True
def Rint (C : Addr) (ds : List Da) (d : Da) : Prop := ∃ e, ds = [e] ∧ askR C e ∧ d = .bl (intD e)
def Rfr (C : Addr) (ds : List Da) (d : Da) : Prop := ∃ e, ds = [e] ∧ askR C e ∧ d = .bl (fracD e)
/-- what Rate(a, b) is -/
def dueR (CR : Addr) : Da → Da → IOut
  | .int x, .int y => if y = 0 then .err CR ["part"] [.str "bottom"] else .set rateN [.int (nrm x y).1, .int (nrm x y).2]
  | .int _, _ => .err CR ["part"] [.str "bottom"]
  | _, _ => .err CR ["part"] [.str "top"]
def Rini (C CR : Addr) (ds : List Da) (o : IOut) : Prop := ∃ a b, ds = [a, b] ∧ askR C a ∧ askR C b ∧ szD a ∧ szD b ∧ o = dueR CR a b
def Rtop (C : Addr) (ds : List Da) (d : Da) : Prop := ∃ r, ds = [rateD C r] ∧ d = .int r.1
def Rbot (C : Addr) (ds : List Da) (d : Da) : Prop := ∃ r, ds = [rateD C r] ∧ d = .int r.2
structure TR (P : Program) (w : World) (K : PySem.W.Frag) (mg : Str → Option Value) (base : Heap) (C : Addr) : Prop where
  n_isinstance : mg "isinstance" = none
  n_int : mg "int" = none
  n_bool : mg "bool" = none
  n_list : mg "list" = none
  n_len : mg "len" = none
  n_abs : mg "abs" = none
  n_range : mg "range" = none
  n_repr : mg "repr" = none
  n_tuple : mg "tuple" = none
  n_str : mg "str" = none
  m_Rate : mg "Rate" = some (.ref C)
  m_gcd : mg "gcd" = some (.builtin "math.gcd")
  cls : Cls K C
  J : InC K C
  kt : PySem.W.kitOne K (.ref C) (.ref C) = some true
  kb : ∀ T ∈ kindL, PySem.W.kitOne K (.type T) (.ref C) = some false
  ki : PySem.W.kitOne K (.ref C) (.type "int") = some false
  ks : PySem.W.kitOne K (.ref C) (.type "str") = some false
  n1 : NoAttr K C "_top"
  n2 : NoAttr K C "_bottom"
abbrev s_is_integer : Stmt := top 11
abbrev s_is_fraction : Stmt := top 20
abbrev s_lead : Stmt := top 21
abbrev s_terms_of : Stmt := top 22
abbrev s__law_pen : Stmt := top 24
abbrev s__law_draw : Stmt := top 25
abbrev s__law_pick : Stmt := top 26
abbrev s__law_number : Stmt := top 27
abbrev s__law_divisor : Stmt := top 28
abbrev s__law_heard : Stmt := top 29
abbrev s__law_is_count : Stmt := top 30
abbrev s__law_is_text : Stmt := top 31
abbrev s__law_made_right : Stmt := top 32
abbrev s__law_bent : Stmt := top 33
abbrev s__law_refused_right : Stmt := top 34
abbrev s_law : Stmt := top 35
abbrev sR_init : Stmt := inClass (top 19) 0
abbrev sR_top : Stmt := inClass (top 19) 1
abbrev sR_bottom : Stmt := inClass (top 19) 2
abbrev sR_eq : Stmt := inClass (top 19) 11
abbrev sR_bool : Stmt := inClass (top 19) 16
abbrev sR_str : Stmt := inClass (top 19) 17
abbrev sR_read : Stmt := inClass (top 19) 18
abbrev sR_of : Stmt := inClass (top 19) 19
section
variable {P : Program} {w : World} {K : PySem.W.Frag} {mg : Str → Option Value} {base : Heap} {C : Addr} {σ : L2.St} {G : Hp} {te : TE} {r : Int × Int} {e : Da}
theorem f_top (T : TR P w K mg base C) (h : Evd K te σ G (rateD C r)) : Evd K (tFld K te "_top") σ G (.int r.1) := ed_fld h T.cls T.n1 0 rfl fun vs e => match vs, e with | [_, _], _ => rfl
theorem f_bot (T : TR P w K mg base C) (h : Evd K te σ G (rateD C r)) : Evd K (tFld K te "_bottom") σ G (.int r.2) := ed_fld h T.cls T.n2 1 rfl fun vs e => match vs, e with | [_, _], _ => rfl
theorem sc_is_integer : FnScope ["value"] ["value"] (defScope s_is_integer) := ⟨rfl, rfl, rfl, by decide +kernel, rfl, by decide +kernel, by decide +kernel⟩
theorem ok_is_integer {f : Addr} {fd : FuncData} (F : Fun K "is_integer" "is_integer" s_is_integer f fd) (T : TR P w K mg base C) : FnOk P w K mg base CX0 1 f fd ["value"] (Pr K 1 (Rint C)) := by
  refine F.ok sc_is_integer Pr.len fun cdv A outer s H vs Q E hr h => ?_
  obtain ⟨G, ds, d, hs, hl, hd, ⟨e, rfl, ha, rfl⟩, k⟩ := h
  obtain ⟨v, rfl, dv⟩ := one_of hd
  refine ⟨_, (pss_one (ps_ret (pe_and (pe_callB call_isi (by rfl) T.n_isinstance PyProof.Rows.boot_isinstance (pa_cons (pv 0) (pa_cons (pe_bltn (v := .ty "int") rfl T.n_int (by decide +kernel) rfl) pa_nil))) (pe_one (pe_not (pe_callB call_isi (by rfl) T.n_isinstance PyProof.Rows.boot_isinstance (pa_cons (pv 0) (pa_cons (pe_bltn (v := .ty "bool") rfl T.n_bool (by decide +kernel) rfl) pa_nil)))))))), ?_⟩
  rcases ha with ⟨t, ht⟩ | ⟨r, rfl⟩
  · cases e with
    | int i => exact ret_d k (Nw.refl hs) (x_andV (b := true) (c := true) (ed_isi (ed_var rfl dv) rfl (by decide +kernel)) (ed_notB (b := false) (ed_isi (ed_var rfl dv) rfl (by decide +kernel)))) rfl
    | bl b => exact ret_d k (Nw.refl hs) (x_andV (b := true) (c := false) (ed_isi (ed_var rfl dv) rfl (by decide +kernel)) (ed_notB (b := true) (ed_isi (ed_var rfl dv) rfl (by decide +kernel)))) rfl
    | non | str | lst | tup | dct => exact ret_d k (Nw.refl hs) (ed_andV (b := false) (c := false) (ed_isi (ed_var rfl dv) rfl (by decide +kernel)) fun z => nomatch z) rfl
    | ty | obj | ins | exc => exact nomatch ht
  · exact ret_d k (Nw.refl hs) (ed_andV (b := false) (c := false) (ed_isC (ed_var rfl dv) (ed_c fun _ => .ty "int") cls_ty T.J T.ki) fun z => nomatch z) rfl
theorem ed_int (ha : askR C e) (h : Evd K te σ G e) : Evd K (tCall (Pr K 1 (Rint C)) [] E0 (tCons te tNil)) σ G (.bl (intD e)) := x_callR (xs_cons h es_nil) rfl ⟨e, rfl, ha, rfl⟩
theorem sc_is_fraction : FnScope ["value"] ["value"] (defScope s_is_fraction) := ⟨rfl, rfl, rfl, by decide +kernel, rfl, by decide +kernel, by decide +kernel⟩
theorem frac_int {t : String} (h : tyD e = some t) : (false || intD e) = fracD e := by
  cases e <;> first | rfl | exact nomatch h
theorem ok_is_fraction {f : Addr} {fd : FuncData} (F : Fun K "is_fraction" "is_fraction" s_is_fraction f fd) (T : TR P w K mg base C) (ci : CalO P w K mg base 1 "is_integer" ["value"] (Pr K 1 (Rint C))) : FnOk P w K mg base CX0 2 f fd ["value"] (Pr K 1 (Rfr C)) := by
  refine F.ok sc_is_fraction Pr.len fun cdv A outer s H vs Q E hr h => ?_
  obtain ⟨G, ds, d, hs, hl, hd, ⟨e, rfl, ha, rfl⟩, k⟩ := h
  obtain ⟨v, rfl, dv⟩ := one_of hd
  refine ⟨_, (pss_one (ps_ret (pe_or (pe_callB call_isi (by rfl) T.n_isinstance PyProof.Rows.boot_isinstance (pa_cons (pv 0) (pa_cons (pe_own T.m_Rate rfl) pa_nil))) (pe_one (pe_calO ci (hr.mono (by decide)) rfl (pa_cons (pv 0) pa_nil)))))), ?_⟩
  rcases ha with ⟨t, ht⟩ | ⟨r, rfl⟩
  · exact ret_d k (Nw.refl hs) (ed_is (x_orV (ed_isB (ed_var rfl dv) (ed_c fun _ => .obj C) ht (T.kb _ (ty_mem ht))) (ed_int (.inl ⟨t, ht⟩) (ed_var rfl dv))) (congrArg Da.bl (frac_int ht))) rfl
  · exact ret_d k (Nw.refl hs) (ed_orT (ed_isC (ed_var rfl dv) (ed_c fun _ => .obj C) cls_obj T.J T.kt)) rfl
theorem ed_frac (ha : askR C e) (h : Evd K te σ G e) : Evd K (tCall (Pr K 1 (Rfr C)) [] E0 (tCons te tNil)) σ G (.bl (fracD e)) := x_callR (xs_cons h es_nil) rfl ⟨e, rfl, ha, rfl⟩
theorem due_top {CR : Addr} {a b : Da} (h : intD a = false) : dueR CR a b = .err CR ["part"] [.str "top"] := by cases a <;> first | rfl | exact nomatch h
theorem due_bot {CR : Addr} {x : Int} {b : Da} (h : intD b = false) : dueR CR (.int x) b = .err CR ["part"] [.str "bottom"] := by cases b <;> first | rfl | exact nomatch h
theorem of_intD {a : Da} (h : intD a = true) : ∃ x, a = .int x := by cases a <;> first | exact ⟨_, rfl⟩ | exact nomatch h
theorem sc_init : FnScope ["self", "top", "bottom", "shared"] ["self", "top", "bottom"] (defScope sR_init) := ⟨rfl, rfl, rfl, by decide +kernel, rfl, by decide +kernel, by decide +kernel⟩
theorem ok_init {f fR CR : Addr} {fd fdR : FuncData} (F : FunD K "__init__" "Rate.__init__" (defArgs sR_init) (defBody sR_init) (defScope sR_init) [.int 1] [] f fd) (T : TR P w K mg base C) (ci : CalO P w K mg base 1 "is_integer" ["value"] (Pr K 1 (Rint C)))
    (O_BadRate : OMk K CR fR) (G_BadRate : FnOk P w K mg base CX0 5 fR fdR ["self", "part"] (Pk K CR 1 ["part"] gI)) (b_BadRate : Binds K fdR ["self", "part"] []) (m_BadRate : mg "BadRate" = some (.ref CR)) : FnOk P w K mg base (L2.CX P w) 7 f fd ["self", "top", "bottom"] (PiO K C 2 (Rini C CR)) := by
  refine F.ok (CX := L2.CX P w) sc_init PiO.len fun cdv A outer s H vs Q E hr h => ?_
  obtain ⟨G, a, dx, ws, ds, o, rfl, hl, hs, ga, ha, hd, ⟨x, y, rfl, hx, hy, sx, sy, rfl⟩, k⟩ := h
  obtain ⟨v1, v2, rfl, d1, d2⟩ := two_of hd
  refine ⟨_, (pss_cons (ps_if (pt_not (pt_val (pe_calO ci (hr.mono (by decide)) rfl (pa_cons (pv 1) pa_nil)))) (pss_one (ps_raise rfl (takes_of rfl rfl rfl rfl) (pmk_oex O_BadRate.o O_BadRate.i O_BadRate.t G_BadRate (hr.mono (by decide)) b_BadRate .nil pass0 rfl m_BadRate (pa_cons pe_str pa_nil)))) pss_nil)
      (pss_cons (ps_if (PW.pt (pw_or (pt_not (pt_val (pe_calO ci (hr.mono (by decide)) rfl (pa_cons (pv 2) pa_nil)))) (pw_or1 (pt_cmpR op_eq (pv 2) pe_int (nomark _))))) (pss_one (ps_raise rfl (takes_of rfl rfl rfl rfl) (pmk_oex O_BadRate.o O_BadRate.i O_BadRate.t G_BadRate (hr.mono (by decide)) b_BadRate .nil pass0 rfl m_BadRate (pa_cons pe_str pa_nil)))) pss_nil)
      (pss_cons (ps_set (i := 3) sc_init.nd rfl (Or.inl rfl) (pe_ifExp (pt_cmpR op_gt (pv 2) pe_int (nomark _)) (pe_callBfun cr_gcd (by rfl) T.m_gcd (pa_cons (pv 1) (pa_cons (pv 2) pa_nil))) (pe_un un_neg (pe_callBfun cr_gcd (by rfl) T.m_gcd (pa_cons (pv 1) (pa_cons (pv 2) pa_nil))))))
      (pss_cons (ps_fld (pv 0) (pe_op op_fdivWN (pv 1) (pv 3)) (by rfl))
      (pss_one (ps_fld (pv 0) (pe_op op_fdivWN (pv 2) (pv 3)) (by rfl))))))), ?_⟩
  have bad : ∀ {G1 H1 : Hp} {σ : L2.St} {z : Str}, Nw G H G1 H1 → ErrTo K G H E CR ["part"] [.str z] → tMkO CR (Pk K CR 1 ["part"] gI) [] (tCons (tC (.str z)) tNil) σ H1 (fun cls d H' => E cls d H') := fun {G1 H1 σ z} n1 q =>
    rz_mk n1.b (xs_cons xc_str es_nil) rfl (by decide) (gI1 rfl) (ErrTo.of q n1)
  refine qd_if hs (b := !intD x) (et_not (et_B (K := K) (ed_int hx (ed_var rfl d1)))) (fun hb G1 H1 n1 => ?_) fun hb G1 H1 n1 => ?_
  · rw [Bool.not_eq_true'] at hb
    rw [due_top hb] at k
    exact bad n1 k
  rw [Bool.not_eq_false'] at hb
  obtain ⟨x, rfl⟩ := of_intD hb
  cases d1
  refine st_next ?_
  dsimp only
  cases hy2 : intD y with
  | false =>
    rw [due_bot hy2] at k
    refine qd_if n1.b (b := true) (et_or (b := true) (c := true) (et_is (et_not (et_B (K := K) (ed_int hy (ed_var rfl (d2.up n1.a))))) (by rw [hy2]; rfl)) fun z => nomatch z) (fun _ G2 H2 n2 => ?_) fun z => nomatch z
    exact bad (n1.trans n2) k
  | true =>
  obtain ⟨y, rfl⟩ := of_intD hy2
  cases d2
  refine qd_if n1.b (b := false || decide (y = 0)) (x_or (b := false) (et_is (et_not (b := true) (et_B (K := K) (ed_int hy (ed_var rfl (.int y))))) rfl) (et_of (ed_eqI (K := K) (ed_var rfl (.int y)) xc_int rfl))) (fun hb2 G2 H2 n2 => ?_) fun hb2 G2 H2 n2 => ?_
  · rw [Bool.false_or, decide_eq_true_eq] at hb2
    rw [show dueR CR (.int x) (.int y) = .err CR ["part"] [.str "bottom"] from if_pos hb2] at k
    exact bad (n1.trans n2) k
  have ne : y ≠ 0 := by simpa using hb2
  rw [show dueR CR (.int x) (.int y) = .set rateN [.int (nrm x y).1, .int (nrm x y).2] from if_neg ne] at k
  have n2 := n1.trans n2
  refine st_next ?_
  dsimp only
  have sev : ∀ G, Evd K (tIf (tTest (tOp (rI0 fun i j => .bl (decide (j < i))) (tVar 2) (tC (.int 0)))) (tCB rGcd (tCons (tVar 1) (tCons (tVar 2) tNil))) (tUn (rU fun i => .int (-i)) (tCB rGcd (tCons (tVar 1) (tCons (tVar 2) tNil))))) [some (.ref a), some (.int x), some (.int y), none] G (.int (shd x y)) := fun G => x_if (et_of (K := K) (ed_gtI (ed_var rfl (.int y)) xc_int rfl)) (fun e => by
    rw [show shd x y = gcdI x y from if_pos (of_decide_eq_true e)]
    exact ed_gcd (ed_var rfl (.int x)) (ed_var rfl (.int y))) fun e => by
    rw [show shd x y = -gcdI x y from if_neg (of_decide_eq_false e)]
    exact ed_negI (ed_gcd (ed_var rfl (.int x)) (ed_var rfl (.int y)))
  have big : (shd x y).natAbs.log2 < 9000 := by
    have h1 : (shd x y).natAbs ≤ y.natAbs := by rw [shd_abs]; exact Nat.gcd_le_right _ (by omega)
    have h2 := PySem.Flt.log2_lt_of (k := 8000) (by decide) (Nat.lt_of_le_of_lt h1 sy)
    omega
  refine qd_asg n2.b (sev G2) fun v3 G3 H3 n3 d3 => ?_
  cases d3
  have n3 := n2.trans n3
  have h4 : H3 a = some (.ins C dx []) := n3.s _ _ ha
  refine ⟨_, rfl, _, rfl, x, shd x y, rfl, rfl, ⟨shd_ne ne, big⟩, .ref a, rfl, a, C, dx, _, rfl, h4, T.cls, T.n1, by decide, ?_⟩
  refine ⟨_, rfl, _, rfl, y, shd x y, rfl, rfl, ⟨shd_ne ne, big⟩, .ref a, rfl, a, C, dx, _, rfl, upd_same, T.cls, T.n2, Nat.le_of_ble_eq_true rfl, ?_⟩
  exact ins_fin (us := [.int (nrm x y).1, .int (nrm x y).2]) n3 ha ga k upd_same (fun b hb => by rw [upd_ne hb, upd_ne hb]) rfl (.cons (.int _) (.cons (.int _) .nil))
end
end K02

set_option Elab.async false
set_option linter.all false
set_option autoImplicit false
set_option maxRecDepth 100000
set_option maxHeartbeats 2000000
namespace GL
open PySem PySem.Spec PyProof.Rows L2
/-! C.m(k = v), m a class method; what a class offers where the call may raise -/
section
variable {X : Cx} {CX : CXT} {k n : Nat} {C p g : Addr} {mc : Value} {fd : FuncData} {ps ks : List Str} {sp : Sp} {E : XK} {o e : Expr} {es : List Expr} {kws : List Keyword} {m x : Str} {pos apos np : Pos} {ta : TE} {t tk : TA} {pl : Sem Bool} {gv : List Value → List Value → List Value} {gV : List V → List V → List V}
section
variable (P : Program) (w : World) (K : PySem.W.Frag) (mg : Str → Option Value) (base : Heap) (C : Addr)
def SMetX (x : Str) (k : Nat) (ps : List Str) (sp : Sp) : Prop := ∃ mc p g fd, ClX.CRead K C mc ∧ SMet K C mc x p g ∧ FnOk P w K mg base (L2.CX P w) k g fd ps sp ∧ Binds K fd ps [] ∧ KBn K fd ps 0 ps (fun _ us => us) (fun _ zs => zs)
def CMetX (x : Str) (k : Nat) (ps : List Str) (sp : Sp) : Prop := ∃ mc p g fd, ClX.CRead K C mc ∧ ClX.CMet K C mc x p g ∧ FnOk P w K mg base (L2.CX P w) k g fd ps sp ∧ Binds K fd ps [] ∧ KBn K fd ps 1 (ps.drop 1) (fun vs us => vs ++ us) (fun vs zs => vs ++ zs)
def MkX (k n : Nat) (ks : List Str) (gV : List V → List V → List V) (sp : Sp) : Prop := ∃ f fd ps g, Mk K C f ∧ FnOk P w K mg base (L2.CX P w) k f fd ps sp ∧ KBn K fd ps (n + 1) ks g gV
end
theorem pe_mkX (h : MkX X.prog X.w X.K X.mg X.base C k n [] gV sp) (hx : Passes (L2.CX X.prog X.w) X E) (hr : Room (k + 1) X.A) (hg : Gl X x) (hm : X.mg x = some (.ref C)) (ha : PA X (e :: es) t)
    (hdb : (x == ("__debug__" : Str)) = false := by decide) (he : starEach (e :: es) X.env = (false, eval e X.env) :: starEach es X.env := by rfl) (hpl : (backTo pos (starEach es X.env)).any (·.1) = false := by rfl)
    (hpl2 : ((backTo pos (starEach (e :: es) X.env)).any (·.1) || (backToKw pos (keywordEach [] X.env)).any (·.1.isNone)) = false := by rfl) : PE X (.Call (.Name x np) (e :: es) [] pos) (tMakeN C n 0 sp gV E t tNil) := by
  obtain ⟨f, fd, ps, g, M, F, hb⟩ := h
  exact pe_makeN M F hr hg hm hb hx ha pk_nil (by rfl) (by rfl) hdb he hpl2
theorem pe_mkXV {i : Nat} (h : MkX X.prog X.w X.K X.mg X.base C k n [] gV sp) (hx : Passes (L2.CX X.prog X.w) X E) (hr : Room (k + 1) X.A) (hi : X.N[i]? = some x) (hv : Vis X.env.scope x) (ha : PA X (e :: es) t)
    (hdb : (x == ("__debug__" : Str)) = false := by decide) (hdc : (x == ("__classdict__" : Str)) = false := by decide) (he : starEach (e :: es) X.env = (false, eval e X.env) :: starEach es X.env := by rfl) (hpl : (backTo pos (starEach es X.env)).any (·.1) = false := by rfl) : PE X (.Call (.Name x np) (e :: es) [] pos) (fun σ H Q => σ[i]? = some (some (.ref C)) ∧ tMakeN C n 0 sp gV E t tNil σ H Q) := by
  obtain ⟨f, fd, ps, g, M, F, hb⟩ := h
  exact pe_makeV M F hr hi hv hb hx ha hdb hdc he hpl
theorem pe_smethX (h : SMetX X.prog X.w X.K X.mg X.base C m k ps sp) (hx : Passes (L2.CX X.prog X.w) X E) (he : PE X o ta) (hr : Room k X.A) {e1 : Expr} (ha : PA X (e1 :: es) t)
    (hst : starEach (e1 :: es) X.env = (false, eval e1 X.env) :: starEach es X.env := by rfl) (hpl : (backTo pos (starEach es X.env)).any (·.1) = false := by rfl)
    (ht : eval (.Call (.Attribute o m apos) (e1 :: es) [] pos) X.env = (do
      let ov ← eval o X.env
      standAt apos.atName
      let (f, first) ← holding [ov] (getMethod ov m pl)
      callWith pos f first (backTo pos (starEach (e1 :: es) X.env)) (backToKw pos (keywordEach [] X.env))) := by rfl) : PE X (.Call (.Attribute o m apos) (e1 :: es) [] pos) (tSMeth C sp E ta t) := by
  obtain ⟨mc, p, g, fd, r, c, F, hb, _⟩ := h
  exact pe_smeth he r c F hb hr hx ha hst hpl ht
theorem pe_smethXK (h : SMetX X.prog X.w X.K X.mg X.base C m k ps sp) (hx : Passes (L2.CX X.prog X.w) X E) (he : PE X o ta) (hr : Room k X.A) (hkw : PK X kws tk)
    (hall : (backToKw pos (keywordEach kws X.env)).all (·.1.isSome) = true := by rfl) (hks : (backToKw pos (keywordEach kws X.env)).filterMap (·.1) = ps := by rfl) (hpl : ((backTo pos (starEach [] X.env)).any (·.1) || (backToKw pos (keywordEach kws X.env)).any (·.1.isNone)) = false := by rfl)
    (ht : eval (.Call (.Attribute o m apos) [] kws pos) X.env = (do
      let ov ← eval o X.env
      standAt apos.atName
      let (f, first) ← holding [ov] (getMethod ov m pl)
      callWith pos f first (backTo pos (starEach [] X.env)) (backToKw pos (keywordEach kws X.env))) := by rfl) : PE X (.Call (.Attribute o m apos) [] kws pos) (tSMethK C ps.length sp (fun _ zs => zs) E ta tk) := by
  obtain ⟨mc, p, g, fd, r, c, F, _, hb⟩ := h
  exact pe_smethK0 he r c F hb hr hx hkw hall hks hpl ht
theorem pe_cmethX (h : CMetX X.prog X.w X.K X.mg X.base C m k ps sp) (hfn : ∀ {k g fd}, FnOk X.prog X.w X.K X.mg X.base (L2.CX X.prog X.w) k g fd ps sp → Binds X.K fd ps [] → FnR X.prog X.w X.K X.mg X.base (L2.CX X.prog X.w) k g sp) (hx : Passes (L2.CX X.prog X.w) X E) (he : PE X o ta) (hr : Room k X.A) {e1 : Expr} (ha : PA X (e1 :: es) t)
    (hst : starEach (e1 :: es) X.env = (false, eval e1 X.env) :: starEach es X.env := by rfl) (hpl : (backTo pos (starEach es X.env)).any (·.1) = false := by rfl)
    (ht : eval (.Call (.Attribute o m apos) (e1 :: es) [] pos) X.env = (do
      let ov ← eval o X.env
      standAt apos.atName
      let (f, first) ← holding [ov] (getMethod ov m pl)
      callWith pos f first (backTo pos (starEach (e1 :: es) X.env)) (backToKw pos (keywordEach [] X.env))) := by rfl) : PE X (.Call (.Attribute o m apos) (e1 :: es) [] pos) (ClX.tCMeth C sp E ta t) := by
  obtain ⟨mc, p, g, fd, r, c, F, hb, _⟩ := h
  exact ClX.pe_cmeth he r c (hfn F hb) hr hx ha hst hpl ht
theorem pe_cmethXK {q : Str} (h : CMetX X.prog X.w X.K X.mg X.base C m k (q :: ps) sp) (hx : Passes (L2.CX X.prog X.w) X E) (he : PE X o ta) (hr : Room k X.A) (hkw : PK X kws tk)
    (hall : (backToKw pos (keywordEach kws X.env)).all (·.1.isSome) = true := by rfl) (hks : (backToKw pos (keywordEach kws X.env)).filterMap (·.1) = ps := by rfl) (hpl : ((backTo pos (starEach [] X.env)).any (·.1) || (backToKw pos (keywordEach kws X.env)).any (·.1.isNone)) = false := by rfl)
    (ht : eval (.Call (.Attribute o m apos) [] kws pos) X.env = (do
      let ov ← eval o X.env
      standAt apos.atName
      let (f, first) ← holding [ov] (getMethod ov m pl)
      callWith pos f first (backTo pos (starEach [] X.env)) (backToKw pos (keywordEach kws X.env))) := by rfl) : PE X (.Call (.Attribute o m apos) [] kws pos) (tCMethK C ps.length sp (fun vs zs => vs ++ zs) E ta tk) := by
  obtain ⟨mc, p, g, fd, r, c, F, _, hb⟩ := h
  exact pe_cmethK0 he r c F hb hr hx hkw hall hks hpl ht
end
/-! these as data -/
section
variable {K : PySem.W.Frag} {σ : L2.St} {G : Hp} {ta tb te : TE} {tA tk : TA} {C : Addr} {ds : List Da} {d e : Da} {n : Nat} {Ro : List Da → Out → Prop} {o : Out}
theorem o_smethK {m : Nat} (ho : Evd K ta σ G (.obj C)) (h : Evs K tk σ G ds) (hl : ds.length = n) (hm : ds.length = m) (hR : Ro ds o) : EvO K (fun E => tSMethK C m (Po K n Ro) (fun _ zs => zs) E ta tk) σ G o := fun H e Q E q => ho H e _ fun v G1 H1 n1 dv => by
  cases dv
  exact ⟨rfl, (h.up n1.a) H1 n1.b _ fun vs G2 H2 n2 dvs => ⟨by rw [dvs.len]; exact hm, G2, ds, o, n2.b, hl, dvs, hR, q.up (n1.trans n2)⟩⟩
end
end GL

set_option Elab.async false
set_option linter.all false
set_option maxRecDepth 100000
set_option maxHeartbeats 4000000
namespace K02
open PySem PySem.Spec PyProof.Rows L2 GL
/-- a rate, or an integer as a rate -/
def FrD (C : Addr) (d : Da) (r : Int × Int) : Prop := (∃ k : Int, d = .int k ∧ r = (k, 1)) ∨ d = rateD C r
structure Gd (C : Addr) (d : Da) (r : Int × Int) : Prop where
  fr : FrD C d r
  ok : FrOk r
  sz : Sz 3000 r
def leadR (r t : Int × Int) : Int := r.1 * t.2 - t.1 * r.2
def dueOf (CR : Addr) : Da → Out
  | .int i => .val (.ins 0 [] [.int i])
  | _ => .err CR ["part"] [.str "value"]
/-- what Rate.of(d) is -/
def ofD (C CR : Addr) (d : Da) (o : Out) : Prop := (∃ i : Int, d = .int i ∧ i.natAbs < 2 ^ 8000 ∧ o = .val (rateD C (i, 1))) ∨ (∃ r, d = rateD C r ∧ o = .val (rateD C r)) ∨ ((∃ t, tyD d = some t) ∧ intD d = false ∧ o = .err CR ["part"] [.str "value"])
def Rof (C CR : Addr) (ds : List Da) (o : Out) : Prop := ∃ e, ds = [e] ∧ ofD C CR e o
def Rlead (C : Addr) (ds : List Da) (d : Da) : Prop := ∃ r e t, ds = [rateD C r, e] ∧ FrOk r ∧ Sz 3000 r ∧ Gd C e t ∧ d = .int (leadR r t)
/-- what a rate is compared with -/
def askE (C : Addr) (d : Da) : Prop := (∃ r, Gd C d r) ∨ ((∃ t, tyD d = some t) ∧ intD d = false)
def eqR : Da → Da → Bool
  | .ins _ _ [.int a, .int b], .ins _ _ [.int c, .int d] => decide (a = c ∧ b = d)
  | .ins _ _ [.int a, .int b], .int i => decide (a = i ∧ b = 1)
  | _, _ => false
def Req (C : Addr) (ds : List Da) (d : Da) : Prop := ∃ r e, ds = [rateD C r, e] ∧ FrOk r ∧ Sz 3000 r ∧ askE C e ∧ d = .bl (eqR (rateD C r) e)
def Rbool (C : Addr) (ds : List Da) (d : Da) : Prop := ∃ r, ds = [rateD C r] ∧ d = .bl (r.1 != 0)
def rateS (r : Int × Int) : Str := if r.2 = 1 then intS r.1 else intS r.1 ++ "/" ++ intS r.2
def Szd (r : Int × Int) : Prop := r.1.natAbs < 10 ^ 301 ∧ r.2.natAbs < 10 ^ 301
def Rstr (C : Addr) (ds : List Da) (d : Da) : Prop := ∃ r, ds = [rateD C r] ∧ Szd r ∧ d = .str (rateS r)
structure TS (P : Program) (w : World) (K : PySem.W.Frag) (mg : Str → Option Value) (base : Heap) (C CR : Addr) : Prop extends TR P w K mg base C where
  ci : CalO P w K mg base 1 "is_integer" ["value"] (Pr K 1 (Rint C))
  cf : CalO P w K mg base 2 "is_fraction" ["value"] (Pr K 1 (Rfr C))
  p_top : PropG P w K mg base C "top" 1 (Pr K 1 (Rtop C))
  p_bottom : PropG P w K mg base C "bottom" 1 (Pr K 1 (Rbot C))
  mk1 : MkX P w K mg base C 7 1 [] (fun vs _ => vs ++ [.int 1]) (PiO K C 2 (Rini C CR))
  mk2 : MkX P w K mg base C 7 2 [] (fun vs _ => vs) (PiO K C 2 (Rini C CR))
  m_BadRate : mg "BadRate" = some (.ref CR)
  eR : ∃ fR fdR, OMk K CR fR ∧ FnOk P w K mg base CX0 5 fR fdR ["self", "part"] (Pk K CR 1 ["part"] gI) ∧ Binds K fdR ["self", "part"] []
structure TS2 (P : Program) (w : World) (K : PySem.W.Frag) (mg : Str → Option Value) (base : Heap) (C CR : Addr) : Prop extends TS P w K mg base C CR where
  s_of : SMetX P w K mg base C "of" 9 ["value"] (Po K 1 (Rof C CR))
section
variable {K : PySem.W.Frag} {C CR : Addr} {σ : L2.St} {G : Hp} {te ta tb : TE} {r t : Int × Int} {e d : Da} {a b : Int} {o : Out}
theorem ed_top (h : Evd K te σ G (rateD C r)) : Evd K (tProp C (Pr K 1 (Rtop C)) [] E0 te) σ G (.int r.1) := ed_prop h ⟨r, rfl, rfl⟩
theorem ed_bot (h : Evd K te σ G (rateD C r)) : Evd K (tProp C (Pr K 1 (Rbot C)) [] E0 te) σ G (.int r.2) := ed_prop h ⟨r, rfl, rfl⟩
theorem o_mk2 (h : Evd K ta σ G d) (h2 : Evd K tb σ G e) (a1 : askR C d) (a2 : askR C e) (s1 : szD d) (s2 : szD e) : EvO K (fun E => tMakeN C 2 0 (PiO K C 2 (Rini C CR)) (fun vs _ => vs) E (tCons ta (tCons tb tNil)) tNil) σ G ((dueR CR d e).out C) :=
  o_make (xs_cons h (xs_cons h2 es_nil)) es_nil rfl rfl [d, e] rfl (fun p H' vs ws r1 r2 => ⟨vs, rfl, r1⟩) ⟨d, e, rfl, a1, a2, s1, s2, rfl⟩
theorem due_fine (ne : b ≠ 0) : (dueR CR (.int a) (.int b)).out C = .val (rateD C (nrm a b)) := by
  rw [show dueR CR (.int a) (.int b) = .set rateN [.int (nrm a b).1, .int (nrm a b).2] from if_neg ne]
  rfl
theorem ask_int {i : Int} : askR C (.int i) := .inl ⟨_, rfl⟩
theorem ed_mk (h : Evd K ta σ G (.int a)) (h2 : Evd K tb σ G (.int b)) (ne : b ≠ 0) (sa : a.natAbs < 2 ^ 8000) (sb : b.natAbs < 2 ^ 8000) (E : XK) : Evd K (tMakeN C 2 0 (PiO K C 2 (Rini C CR)) (fun vs _ => vs) E (tCons ta (tCons tb tNil)) tNil) σ G (rateD C (nrm a b)) :=
  EvO.val (EvO.is (o_mk2 h h2 ask_int ask_int sa sb) (due_fine ne)) E
theorem ed_mk1 (h : Evd K ta σ G (.int a)) (sa : a.natAbs < 2 ^ 8000) (E : XK) : Evd K (tMakeN C 1 0 (PiO K C 2 (Rini C CR)) (fun vs _ => vs ++ [.int 1]) E (tCons ta tNil) tNil) σ G (rateD C (a, 1)) := by
  have z : EvO K (fun E => tMakeN C 1 0 (PiO K C 2 (Rini C CR)) (fun vs _ => vs ++ [.int 1]) E (tCons ta tNil) tNil) σ G ((dueR CR (.int a) (.int 1)).out C) := o_make (xs_cons h es_nil) es_nil rfl rfl [.int a, .int 1] rfl (fun p H' vs ws r1 r2 => by
    obtain ⟨u1, rfl, e1⟩ := one_of r1
    exact ⟨[u1, .int 1], rfl, .cons e1 (.cons (.int 1) .nil)⟩) ⟨.int a, .int 1, rfl, ask_int, ask_int, sa, (show (1 : Int).natAbs < 2 ^ 8000 from Nat.one_lt_two_pow (by decide)), rfl⟩
  have z2 := EvO.val (EvO.is z (due_fine (by decide))) E
  rw [nrm_one] at z2
  exact z2
theorem o_of (ho : Evd K ta σ G (.obj C)) (h : Evd K te σ G e) (g : ofD C CR e o) : EvO K (fun E => tSMeth C (Po K 1 (Rof C CR)) E ta (tCons te tNil)) σ G o := o_smeth ho (xs_cons h es_nil) rfl ⟨e, rfl, g⟩
theorem pow_up {x n m : Nat} (h : x < 2 ^ n) (e : n ≤ m) : x < 2 ^ m := Nat.lt_of_lt_of_le h (Nat.pow_le_pow_right (by decide) e)
theorem Gd.of (g : Gd C e r) : ofD C CR e (.val (rateD C r)) := by
  rcases g.fr with ⟨i, rfl, rfl⟩ | rfl
  · exact .inl ⟨i, rfl, pow_up g.sz.1 (by decide), rfl⟩
  · exact .inr (.inl ⟨r, rfl, rfl⟩)
theorem ed_of (ho : Evd K ta σ G (.obj C)) (h : Evd K te σ G e) (g : Gd C e r) (E : XK) : Evd K (tSMeth C (Po K 1 (Rof C CR)) E ta (tCons te tNil)) σ G (rateD C r) := EvO.val (o_of ho h g.of) E
theorem Gd.rate (ok : FrOk r) (s : Sz 3000 r) : Gd C (rateD C r) r := ⟨.inr rfl, ok, s⟩
theorem Gd.ask (g : Gd C e r) : askR C e ∧ fracD e = true := by
  rcases g.fr with ⟨i, rfl, rfl⟩ | rfl
  · exact ⟨ask_int, rfl⟩
  · exact ⟨.inr ⟨r, rfl⟩, rfl⟩
theorem ed_mul3 {i j : Int} (h1 : i.natAbs < 2 ^ 3000) (h2 : j.natAbs < 2 ^ 3000) (ha : Evd K ta σ G (.int i)) (hb : Evd K tb σ G (.int j)) : Evd K (tOp (rI CMulW fun i j => .int (i * j)) ta tb) σ G (.int (i * j)) := ed_mulW (wide_mul h1 h2 (by decide) (by decide) (by decide)) ha hb
theorem eq_lead (okr : FrOk r) (g : Gd C e t) : (decide (leadR r t = 0)) = eqR (rateD C r) e := by
  have h : leadR r t = 0 ↔ r = t := ⟨fun z => fr_uniq okr g.ok (by unfold leadR at z; omega), fun z => by subst z; unfold leadR; omega⟩
  rcases g.fr with ⟨i, rfl, rfl⟩ | rfl
  · show _ = decide (r.1 = i ∧ r.2 = 1)
    rw [decide_eq_decide, h, Prod.ext_iff]
  · show _ = decide (r.1 = t.1 ∧ r.2 = t.2)
    rw [decide_eq_decide, h, Prod.ext_iff]
theorem intS_len {i : Int} {n : Nat} (h0 : 0 < n) (h : i.natAbs < 10 ^ n) : (intS i).length ≤ n + 1 := by
  have := (natS_len (n := i.natAbs) h0).mpr h
  unfold intS
  split
  · rw [str_len]
    have e1 : ("-" : Str).length = 1 := by decide
    omega
  · omega
theorem up600 {i : Nat} (h : i < 10 ^ 301) : i < 10 ^ 600 := Nat.lt_of_lt_of_le h (Nat.pow_le_pow_right (by decide) (by decide))
end
section
variable {P : Program} {w : World} {K : PySem.W.Frag} {mg : Str → Option Value} {base : Heap} {C CR : Addr}
theorem sc_top : FnScope ["self"] ["self"] (defScope sR_top) := ⟨rfl, rfl, rfl, by decide +kernel, rfl, by decide +kernel, by decide +kernel⟩
theorem ok_top {f : Addr} {fd : FuncData} (F : Fun K "top" "Rate.top" sR_top f fd) (T : TR P w K mg base C) : FnOk P w K mg base CX0 1 f fd ["self"] (Pr K 1 (Rtop C)) := by
  refine F.ok sc_top Pr.len fun cdv A outer s H vs Q E hr h => ?_
  obtain ⟨G, ds, d, hs, hl, hd, ⟨r, rfl, rfl⟩, k⟩ := h
  obtain ⟨v, rfl, dv⟩ := one_of hd
  exact ⟨_, (pss_one (ps_ret (pe_fld (pv 0) (by rfl)))), ret_d k (Nw.refl hs) (f_top T (ed_var rfl dv)) rfl⟩
theorem sc_bottom : FnScope ["self"] ["self"] (defScope sR_bottom) := ⟨rfl, rfl, rfl, by decide +kernel, rfl, by decide +kernel, by decide +kernel⟩
theorem ok_bottom {f : Addr} {fd : FuncData} (F : Fun K "bottom" "Rate.bottom" sR_bottom f fd) (T : TR P w K mg base C) : FnOk P w K mg base CX0 1 f fd ["self"] (Pr K 1 (Rbot C)) := by
  refine F.ok sc_bottom Pr.len fun cdv A outer s H vs Q E hr h => ?_
  obtain ⟨G, ds, d, hs, hl, hd, ⟨r, rfl, rfl⟩, k⟩ := h
  obtain ⟨v, rfl, dv⟩ := one_of hd
  exact ⟨_, (pss_one (ps_ret (pe_fld (pv 0) (by rfl)))), ret_d k (Nw.refl hs) (f_bot T (ed_var rfl dv)) rfl⟩
theorem sc_of : FnScope ["value"] ["value"] (defScope sR_of) := ⟨rfl, rfl, rfl, by decide +kernel, rfl, by decide +kernel, by decide +kernel⟩
theorem ok_of {f : Addr} {fd : FuncData} (F : Fun K "of" "Rate.of" sR_of f fd) (T : TS P w K mg base C CR) : FnOk P w K mg base (L2.CX P w) 9 f fd ["value"] (Po K 1 (Rof C CR)) := by
  refine F.okX sc_of Po.len fun cdv A outer s H vs Q E hr h => ?_
  obtain ⟨G, ds, o, hs, hl, hd, ⟨e, rfl, g⟩, k⟩ := h
  obtain ⟨v, rfl, dv⟩ := one_of hd
  obtain ⟨fR, fdR, O_BadRate, G_BadRate, b_BadRate⟩ := T.eR
  have m_BadRate := T.m_BadRate
  refine ⟨_, (pss_cons (ps_if (pt_val (pe_callB call_isi (by rfl) T.n_isinstance PyProof.Rows.boot_isinstance (pa_cons (pv 0) (pa_cons (pe_own T.m_Rate rfl) pa_nil)))) (pss_one (ps_ret (pv 0))) pss_nil)
      (pss_cons (ps_if (pt_not (pt_val (pe_calO T.ci (hr.mono (by decide)) rfl (pa_cons (pv 0) pa_nil)))) (pss_one (ps_raise rfl (takes_of rfl rfl rfl rfl) (pmk_oex O_BadRate.o O_BadRate.i O_BadRate.t G_BadRate (hr.mono (by decide)) b_BadRate .nil pass0 rfl m_BadRate (pa_cons pe_str pa_nil)))) pss_nil)
      (pss_one (ps_ret (pe_mkX T.mk1 passL (hr.mono (by decide)) rfl T.m_Rate (pa_cons (pv 0) pa_nil)))))), ?_⟩
  rcases g with ⟨i, rfl, hi, rfl⟩ | ⟨r, rfl, rfl⟩ | ⟨⟨t, ht⟩, hn, rfl⟩
  · refine qn_no hs (et_B (K := K) (ed_isB (ed_var rfl dv) (ed_c fun _ => .obj C) rfl (T.kb _ (by simp)))) fun G1 H1 n1 => ?_
    refine qn_no n1.b (et_not (b := true) (et_B (K := K) (ed_int ask_int (ed_var rfl (dv.up n1.a))))) fun G2 H2 n2 => ?_
    have n2 := n1.trans n2
    exact ret_d k n2 (ed_mk1 (ed_var rfl (dv.up n2.a)) hi E0) rfl
  · exact qn_yes hs (et_B (K := K) (ed_isC (ed_var rfl dv) (ed_c fun _ => .obj C) cls_obj T.J T.kt)) fun G1 H1 n1 => ret_d k n1 (ed_var rfl (dv.up n1.a)) rfl
  · refine qn_no hs (et_B (K := K) (ed_isB (ed_var rfl dv) (ed_c fun _ => .obj C) ht (T.kb _ (ty_mem ht)))) fun G1 H1 n1 => ?_
    refine qn_yes n1.b (et_is (et_not (et_B (K := K) (ed_int (.inl ⟨t, ht⟩) (ed_var rfl (dv.up n1.a))))) (by rw [hn]; rfl)) fun G2 H2 n2 => ?_
    exact rz_mk (n1.trans n2).b (xs_cons xc_str es_nil) rfl (by decide) (gI1 rfl) (ErrTo.of k (n1.trans n2))
theorem sc_lead : FnScope ["one", "other", "right"] ["one", "other"] (defScope s_lead) := ⟨rfl, rfl, rfl, by decide +kernel, rfl, by decide +kernel, by decide +kernel⟩
theorem ok_lead {f : Addr} {fd : FuncData} (F : Fun K "lead" "lead" s_lead f fd) (T : TS2 P w K mg base C CR) : FnOk P w K mg base CX0 10 f fd ["one", "other"] (Pr K 2 (Rlead C)) := by
  refine F.ok sc_lead Pr.len fun cdv A outer s H vs Q E hr h => ?_
  obtain ⟨G, ds, d, hs, hl, hd, ⟨r, e, t, rfl, okr, sr, g, rfl⟩, k⟩ := h
  obtain ⟨v, u, rfl, dv, du⟩ := two_of hd
  refine ⟨_, (pss_cons (ps_set (i := 2) sc_lead.nd rfl (Or.inl rfl) (pe_smethX T.s_of passL (pe_own T.m_Rate (by rfl)) (hr.mono (by decide)) (pa_cons (pv 1) pa_nil)))
      (pss_one (ps_ret (pe_op op_sub (pe_op op_mulW (pe_propG T.p_top (pv 0) T.cls (hr.mono (by decide))) (pe_propG T.p_bottom (pv 2) T.cls (hr.mono (by decide)))) (pe_op op_mulW (pe_propG T.p_top (pv 2) T.cls (hr.mono (by decide))) (pe_propG T.p_bottom (pv 0) T.cls (hr.mono (by decide)))))))), ?_⟩
  refine qd_asg hs (ed_of (ed_c fun _ => .obj C) (ed_var rfl du) g E0) fun v2 G1 H1 n1 d2 => ?_
  have dv := dv.up n1.a
  exact ret_d k n1 (ed_subI (ed_mul3 sr.1 g.sz.2 (ed_top (ed_var rfl dv)) (ed_bot (ed_var rfl d2))) (ed_mul3 g.sz.1 sr.2 (ed_top (ed_var rfl d2)) (ed_bot (ed_var rfl dv)))) rfl
theorem sc_eq : FnScope ["self", "other"] ["self", "other"] (defScope sR_eq) := ⟨rfl, rfl, rfl, by decide +kernel, rfl, by decide +kernel, by decide +kernel⟩
theorem eq_no {r : Int × Int} {e : Da} (h : ∃ t, tyD e = some t) (hn : intD e = false) : eqR (rateD C r) e = false ∧ fracD e = false := by
  obtain ⟨t, ht⟩ := h
  cases e with
  | non | bl | str | lst | tup | dct => exact ⟨rfl, rfl⟩
  | int i => exact nomatch hn
  | ty | obj | ins | exc => exact nomatch ht
theorem ed_boolB {K : PySem.W.Frag} {te : TE} {σ : L2.St} {G : Hp} {b : Bool} (h : Evd K te σ G (.bl b)) : Evd K (tCB (fun xs H Q => (∃ i, xs = [V.int i] ∧ Q (.bl (i != 0)) H) ∨ ∃ k, xs = [V.bl k] ∧ Q (.bl k) H) (tCons te tNil)) σ G (.bl b) := fun H e Q q => h H e _ fun v G1 H1 n1 d1 => by
  cases d1
  exact .inr ⟨_, rfl, q _ G1 H1 n1 (.bl _)⟩
theorem ok_eq {f : Addr} {fd : FuncData} (F : Fun K "__eq__" "Rate.__eq__" sR_eq f fd) (T : TS2 P w K mg base C CR) (cl : CalO P w K mg base 10 "lead" ["one", "other"] (Pr K 2 (Rlead C))) : FnOk P w K mg base CX0 11 f fd ["self", "other"] (Pr K 2 (Req C)) := by
  refine F.ok sc_eq Pr.len fun cdv A outer s H vs Q E hr h => ?_
  obtain ⟨G, ds, d, hs, hl, hd, ⟨r, e, rfl, okr, sr, ask, rfl⟩, k⟩ := h
  obtain ⟨v, u, rfl, dv, du⟩ := two_of hd
  refine ⟨_, (pss_one (ps_ret (pe_and (pe_calO T.cf (hr.mono (by decide)) rfl (pa_cons (pv 1) pa_nil)) (pe_one (pe_cmpR op_eq (pe_calO cl (hr.mono (by decide)) rfl (pa_cons (pv 0) (pa_cons (pv 1) pa_nil))) pe_int (nomark _)))))), ?_⟩
  rcases ask with ⟨t, g⟩ | ⟨ht, hn⟩
  · obtain ⟨a1, a2⟩ := g.ask
    refine ret_d k (Nw.refl hs) (ed_is (x_andV (b := true) (ed_is (ed_frac a1 (ed_var rfl du)) (by rw [a2])) (ed_eqI (x_callR (R := Rlead C) (xs_cons (ed_var rfl dv) (xs_cons (ed_var rfl du) es_nil)) rfl ⟨r, e, t, rfl, okr, sr, g, rfl⟩) xc_int rfl)) ?_) rfl
    rw [Bool.true_and, eq_lead okr g]
  · obtain ⟨e1, e2⟩ := eq_no (C := C) (r := r) ht hn
    refine ret_d k (Nw.refl hs) (ed_is (ed_andV (b := false) (c := false) (ed_is (ed_frac (.inl ht) (ed_var rfl du)) (by rw [e2])) fun z => nomatch z) ?_) rfl
    rw [e1]; rfl
theorem sc_bool : FnScope ["self"] ["self"] (defScope sR_bool) := ⟨rfl, rfl, rfl, by decide +kernel, rfl, by decide +kernel, by decide +kernel⟩
theorem ok_bool {f : Addr} {fd : FuncData} (F : Fun K "__bool__" "Rate.__bool__" sR_bool f fd) (T : TS P w K mg base C CR) : FnOk P w K mg base CX0 3 f fd ["self"] (Pr K 1 (Rbool C)) := by
  refine F.ok sc_bool Pr.len fun cdv A outer s H vs Q E hr h => ?_
  obtain ⟨G, ds, d, hs, hl, hd, ⟨r, rfl, rfl⟩, k⟩ := h
  obtain ⟨v, rfl, dv⟩ := one_of hd
  refine ⟨_, (pss_one (ps_ret (pe_callTy call_bool1 (by rfl) T.n_bool (by decide +kernel) (pa_cons (pe_cmpR op_ne (pe_propG T.p_top (pv 0) T.cls (hr.mono (by decide))) pe_int (nomark _)) pa_nil)))), ?_⟩
  refine ret_d k (Nw.refl hs) (ed_is (ed_boolB (ed_neI (ed_top (ed_var rfl dv)) xc_int rfl)) ?_) rfl
  have : (!decide (r.1 = 0)) = (r.1 != 0) := by
    by_cases h : r.1 = 0 <;> simp [h]
  rw [← this]
theorem sc_str : FnScope ["self"] ["self"] (defScope sR_str) := ⟨rfl, rfl, rfl, by decide +kernel, rfl, by decide +kernel, by decide +kernel⟩
theorem ok_str {f : Addr} {fd : FuncData} (F : Fun K "__str__" "Rate.__str__" sR_str f fd) (T : TS P w K mg base C CR) (ct : CalO P w K mg base 2 "number_text" ["number"] (Pr K 1 Rnum)) : FnOk P w K mg base CX0 3 f fd ["self"] (Pr K 1 (Rstr C)) := by
  refine F.ok sc_str Pr.len fun cdv A outer s H vs Q E hr h => ?_
  obtain ⟨G, ds, d, hs, hl, hd, ⟨r, rfl, sz, rfl⟩, k⟩ := h
  obtain ⟨v, rfl, dv⟩ := one_of hd
  refine ⟨_, (pss_cons (ps_if (pt_cmpR op_eq (pe_propG T.p_bottom (pv 0) T.cls (hr.mono (by decide))) pe_int (nomark _)) (pss_one (ps_ret (pe_joined1 (pe_fmt (pe_calO ct (hr.mono (by decide)) rfl (pa_cons (pe_propG T.p_top (pv 0) T.cls (hr.mono (by decide))) pa_nil)))))) pss_nil)
    (pss_one (ps_ret (pe_joined (PJ.cons (pe_fmt (pe_calO ct (hr.mono (by decide)) rfl (pa_cons (pe_propG T.p_top (pv 0) T.cls (hr.mono (by decide))) pa_nil))) (PJ.cons pe_str (PJ.cons (pe_fmt (pe_calO ct (hr.mono (by decide)) rfl (pa_cons (pe_propG T.p_bottom (pv 0) T.cls (hr.mono (by decide))) pa_nil))) PJ.nil))))))), ?_⟩
  have l1 := intS_len (i := r.1) (n := 301) (by decide) sz.1
  have l2 := intS_len (i := r.2) (n := 301) (by decide) sz.2
  have ct : ∀ {te : TE} {σ : L2.St} {G : Hp} {i : Int}, Evd K te σ G (.int i) → i.natAbs < 10 ^ 301 → Evd K (tCall (Pr K 1 Rnum) [] E0 (tCons te tNil)) σ G (.str (intS i)) := fun {te σ G i} h hi => x_callR (R := Rnum) (xs_cons h es_nil) rfl ⟨i, rfl, up600 hi, rfl⟩
  refine qn_if hs (et_of (K := K) (ed_eqI (ed_bot (ed_var rfl dv)) xc_int rfl)) (fun hb G1 H1 n1 => ?_) fun hb G1 H1 n1 => ?_
  · exact ret_d k n1 (ed_is (ed_fmtS (ct (ed_top (ed_var rfl (dv.up n1.a))) sz.1) (by omega)) (by rw [rateS, if_pos (of_decide_eq_true hb)])) rfl
  · refine ret_d k n1 (ed_is (ed_js (.cons (ed_fmtS (ct (ed_top (ed_var rfl (dv.up n1.a))) sz.1) (by omega)) (.cons xc_str (.cons (ed_fmtS (ct (ed_bot (ed_var rfl (dv.up n1.a))) sz.2) (by omega)) .nil))) ?_) ?_) rfl
    · have e1 : ("/" : Str).length = 1 := by decide
      simp only [List.map_cons, List.map_nil, List.sum_cons, List.sum_nil, e1]
      omega
    · rw [rateS, if_neg (of_decide_eq_false hb)]
      refine congrArg Da.str (str_ext ?_)
      simp only [List.foldl_cons, List.foldl_nil]
      rw [codes_app, codes_app, codes_app, codes_app, codes_app]
      rfl
end
end K02

set_option Elab.async false
set_option linter.all false
set_option maxRecDepth 100000
set_option maxHeartbeats 4000000
namespace GL
open PySem PySem.Spec PyProof.Rows L2
section
variable {K : PySem.W.Frag} {σ : L2.St} {G H : Hp} {ta tb te : TE} {z y : Str} {tz : TS} {D : Ends} {i j l : Nat} {a b c : Da}
def rRmp : V → List V → Hp → VK → Prop := fun x xs H Q => ∃ a b, x = .str a ∧ xs = [.str b] ∧ a.length ≤ sizeLine ∧ Q (.str (Txt.removeprefix a b)) H
theorem ed_rmp (ha : Evd K ta σ G (.str z)) (hb : Evd K tb σ G (.str y)) (hz : z.length ≤ 1000) : Evd K (tM1 rRmp ta tb) σ G (.str (Txt.removeprefix z y)) := fun H e Q q => ha H e _ fun v G1 H1 n1 dv => by
  cases dv
  refine ⟨⟨z, rfl⟩, hb.up n1.a H1 n1.b _ fun u G2 H2 n2 du => ?_⟩
  cases du
  exact ⟨z, y, rfl, rfl, sizeK hz, q _ G2 H2 (n1.trans n2) (.str _)⟩
def rStw : V → List V → Hp → VK → Prop := fun x xs H Q => ∃ a b, x = .str a ∧ xs = [.str b] ∧ Q (.bl (Txt.startswith a b)) H
theorem ed_stw (ha : Evd K ta σ G (.str z)) (hb : Evd K tb σ G (.str y)) : Evd K (tM1 rStw ta tb) σ G (.bl (Txt.startswith z y)) := fun H e Q q => ha H e _ fun v G1 H1 n1 dv => by
  cases dv
  refine ⟨⟨z, rfl⟩, hb.up n1.a H1 n1.b _ fun u G2 H2 n2 du => ?_⟩
  cases du
  exact ⟨z, y, rfl, rfl, q _ G2 H2 (n1.trans n2) (.bl _)⟩
theorem ed_mulI {i j : Int} (hc : CMul i j) (ha : Evd K ta σ G (.int i)) (hb : Evd K tb σ G (.int j)) : Evd K (tOp (rI CMul fun i j => .int (i * j)) ta tb) σ G (.int (i * j)) := ed_two ha (fun _ s => hb.up s) fun v w G' H' _ e dv dw Q k => by
  cases dv; cases dw
  exact ⟨i, j, rfl, rfl, hc, k _ G' H' (Nw.refl e) (.int _)⟩
def partD (z y : Str) : Da := .tup [.str (Txt.partition z y).1, .str (Txt.partition z y).2.1, .str (Txt.partition z y).2.2]
theorem ed_part (ha : Evd K ta σ G (.str z)) (hb : Evd K tb σ G (.str y)) (hy : (y.length == 0) = false) (hz : z.length ≤ 1000) :
    Evd K (tM1 (fun x xs H Q => ∃ a b, x = .str a ∧ xs = [.str b] ∧ (b.length == 0) = false ∧ a.length ≤ sizeLine ∧ ∀ p, H p = none → Q (.ref p) (upd H p (.tup [.str (Txt.partition a b).1, .str (Txt.partition a b).2.1, .str (Txt.partition a b).2.2]))) ta tb) σ G (partD z y) := fun H e Q q => ha H e _ fun v G1 H1 n1 dv => by
  cases dv
  refine ⟨⟨z, rfl⟩, hb.up n1.a H1 n1.b _ fun u G2 H2 n2 du => ?_⟩
  cases du
  refine ⟨z, y, rfl, rfl, hy, sizeK hz, fun p hp => ?_⟩
  have n3 := Nw.new (o := .tup [.str (Txt.partition z y).1, .str (Txt.partition z y).2.1, .str (Txt.partition z y).2.2]) n2.b hp
  exact q (.ref p) _ _ ((n1.trans n2).trans n3) (.tup upd_same (.cons (.str _) (.cons (.str _) (.cons (.str _) .nil))))
theorem qd_tup3 (s : Same G H) (h : Evd K te σ G (.tup [a, b, c])) (q : ∀ u v w G1 H1, Nw G H G1 H1 → DR K G1 u a → DR K G1 v b → DR K G1 w c → tz D (((σ.set i (some u)).set j (some v)).set l (some w)) H1) :
    tSeq (tAsg te (gTup K 3 (gCons (gName i) (gCons (gName j) (gCons (gName l) gNil))))) tz D σ H := h H s _ fun x G1 H1 n1 dx => by
  cases dx with
  | tup h1 h2 =>
    obtain ⟨u, v, w, rfl, da, db, dc⟩ := three_of h2
    exact ⟨_, _, rfl, SqT.of (n1.b _ _ h1), rfl, _, _, rfl, _, _, rfl, _, _, rfl, rfl, q u v w G1 H1 n1 da db dc⟩
theorem qd_tup2 (s : Same G H) (h : Evd K te σ G (.tup [a, b])) (q : ∀ u v G1 H1, Nw G H G1 H1 → DR K G1 u a → DR K G1 v b → tz D ((σ.set i (some u)).set j (some v)) H1) :
    tSeq (tAsg te (gTup K 2 (gCons (gName i) (gCons (gName j) gNil)))) tz D σ H := h H s _ fun x G1 H1 n1 dx => by
  cases dx with
  | tup h1 h2 =>
    obtain ⟨u, v, rfl, da, db⟩ := two_of h2
    exact ⟨_, _, rfl, SqT.of (n1.b _ _ h1), rfl, _, _, rfl, _, _, rfl, rfl, q u v G1 H1 n1 da db⟩
theorem part_le (z y : Str) : (Txt.partition z y).1.length ≤ z.length ∧ (Txt.partition z y).2.1.length ≤ z.length ∧ (Txt.partition z y).2.2.length ≤ z.length := fact_partition z y
theorem rmp_le (z y : Str) : (Txt.removeprefix z y).length ≤ z.length := by
  rw [PySem.StrLaws.removeprefix_eq]
  split
  · rw [← codes_len, ← codes_len]
    show (List.take _ (List.drop _ (codes z))).length ≤ _
    rw [List.length_take, List.length_drop]
    omega
  · exact Nat.le_refl _
end
end GL
namespace K02
open PySem PySem.Spec PyProof.Rows L2 GL
def belowX (x : Str) : Str := if (Txt.partition (Txt.removeprefix x "-") "/").2.1 = ("/" : Str) then (Txt.partition (Txt.removeprefix x "-") "/").2.2 else "1"
def topX (x : Str) : Str := (Txt.partition (Txt.removeprefix x "-") "/").1
def sgnX (x : Str) : Int := if Txt.startswith x "-" = true then -1 else 1
def termsX (x : Str) : Option (Int × Int) := if isDg (topX x) = true then if isDg (belowX x) = true then if dVal (codes (belowX x)) = 0 then none else some (sgnX x * (dVal (codes (topX x)) : Int), (dVal (codes (belowX x)) : Int)) else none else none
def termsD : Da → Da
  | .str x => match termsX x with
    | none => .non
    | some (a, b) => .tup [.int a, .int b]
  | _ => .non
/-- what may be read -/
inductive May (C : Addr) : Da → Prop where
  | str (z : Str) (h : z.length ≤ 300) : May C (.str z)
  | flat (d : Da) (t : String) (h : tyD d = some t) (k : kitB t "str" = some false) : May C d
  | rate (r : Int × Int) : May C (rateD C r)
def Rterms (C : Addr) (ds : List Da) (d : Da) : Prop := ∃ e, ds = [e] ∧ May C e ∧ d = termsD e
theorem top_le (x : Str) : (topX x).length ≤ x.length := Nat.le_trans (part_le _ _).1 (rmp_le _ _)
theorem below_le (x : Str) : (belowX x).length ≤ x.length + 1 := by
  unfold belowX
  split
  · exact Nat.le_trans (Nat.le_trans (part_le _ _).2.2 (rmp_le _ _)) (Nat.le_succ _)
  · have : ("1" : Str).length = 1 := by decide
    omega
theorem terms_flat {d : Da} {t : String} (h : tyD d = some t) (k : kitB t "str" = some false) : termsD d = .non := by
  cases d with
  | str z => cases h; exact absurd k (by decide +kernel)
  | _ => rfl
section
variable {P : Program} {w : World} {K : PySem.W.Frag} {mg : Str → Option Value} {base : Heap} {C CR : Addr}
theorem sc_terms_of : FnScope ["text", "top", "slash", "bottom", "below", "sign"] ["text"] (defScope s_terms_of) := ⟨rfl, rfl, rfl, by decide +kernel, rfl, by decide +kernel, by decide +kernel⟩
theorem ok_terms_of {f : Addr} {fd : FuncData} (F : Fun K "terms_of" "terms_of" s_terms_of f fd) (T : TR P w K mg base C) (cg : CalO P w K mg base 1 "is_digits" ["text"] (Pr K 1 Rdgs)) (cr : CalO P w K mg base 1 "read_digits" ["text"] (Pr K 1 Rrdd)) : FnOk P w K mg base CX0 2 f fd ["text"] (Pr K 1 (Rterms C)) := by
  refine F.ok sc_terms_of Pr.len fun cdv A outer s H vs Q E hr h => ?_
  obtain ⟨G, ds, d, hs, hl, hd, ⟨e, rfl, my, rfl⟩, k⟩ := h
  obtain ⟨v, rfl, dv⟩ := one_of hd
  refine ⟨_, (pss_cons (ps_if (pt_not (pt_val (pe_callB call_isi (by rfl) T.n_isinstance PyProof.Rows.boot_isinstance (pa_cons (pv 0) (pa_cons (pe_bltn (v := .ty "str") rfl T.n_str (by decide +kernel) rfl) pa_nil))))) (pss_one (ps_ret pe_non)) pss_nil)
    (pss_cons (ps_asg (pe_partition (pe_m1 PySem.F.slot_str_removeprefix PySem.F.type_str_removeprefix mt_removeprefix (pv 0) pe_str) pe_str) (pg_tup rfl (pgs_cons (pg_name (i := 1) sc_terms_of.nd rfl (Or.inl rfl)) (pgs_cons (pg_name (i := 2) sc_terms_of.nd rfl (Or.inl rfl)) (pgs_cons (pg_name (i := 3) sc_terms_of.nd rfl (Or.inl rfl)) pgs_nil)))))
    (pss_cons (ps_set (i := 4) sc_terms_of.nd rfl (Or.inl rfl) (pe_ifExp (pt_cmpR op_eq (pv 2) pe_str (nomark _)) (pv 3) pe_str))
    (pss_cons (ps_if (PW.pt (pw_or (pt_not (pt_val (pe_calO cg (hr.mono (by decide)) rfl (pa_cons (pv 1) pa_nil)))) (pw_or (pt_not (pt_val (pe_calO cg (hr.mono (by decide)) rfl (pa_cons (pv 4) pa_nil)))) (pw_or1 (pt_cmpR op_eq (pe_calO cr (hr.mono (by decide)) rfl (pa_cons (pv 4) pa_nil)) pe_int (nomark _)))))) (pss_one (ps_ret pe_non)) pss_nil)
    (pss_cons (ps_set (i := 5) sc_terms_of.nd rfl (Or.inl rfl) (pe_ifExp (pt_val (pe_m1 PySem.F.slot_str_startswith PySem.F.type_str_startswith mt_startswith (pv 0) pe_str)) (pe_un un_neg pe_int) pe_int))
    (pss_one (ps_ret (pe_tup (pa_cons (pe_op op_mul (pv 5) (pe_calO cr (hr.mono (by decide)) rfl (pa_cons (pv 1) pa_nil))) (pa_cons (pe_calO cr (hr.mono (by decide)) rfl (pa_cons (pv 4) pa_nil)) pa_nil)))))))))), ?_⟩
  cases my with
  | flat d t ht hk => exact qn_yes hs (et_not (b := false) (et_B (K := K) (ed_isi (ed_var rfl dv) ht hk))) fun G1 H1 n1 => ret_d k n1 (ed_is xc_non (terms_flat ht hk).symm) rfl
  | rate r => exact qn_yes hs (et_not (b := false) (et_B (K := K) (ed_isC (ed_var rfl dv) (ed_c fun _ => .ty "str") cls_ty T.J T.ks))) fun G1 H1 n1 => ret_d k n1 (ed_is xc_non rfl) rfl
  | str x hx =>
    have t1 := top_le x
    have t2 := below_le x
    refine qn_no hs (et_not (b := true) (et_B (K := K) (ed_isi (ed_var rfl dv) rfl (by decide +kernel)))) fun G1 H1 n1 => ?_
    have dv := dv.up n1.a
    refine qd_tup3 n1.b (ed_part (z := Txt.removeprefix x "-") (y := "/") (ed_rmp (ed_var rfl dv) xc_str (by omega)) xc_str (by decide) (by have := rmp_le x "-"; omega)) fun u1 u2 u3 G2 H2 n2 d1 d2 d3 => ?_
    have dv := dv.up n2.a
    have n2 := n1.trans n2
    refine qd_asg n2.b (d := .str (belowX x)) (x_if (b := decide ((Txt.partition (Txt.removeprefix x "-") "/").2.1 = ("/" : Str))) (et_of (x_eqs (K := K) (ed_var rfl d2) xc_str rfl)) (fun hb => ed_is (ed_var rfl d3) (by rw [belowX, if_pos (of_decide_eq_true hb)])) fun hb => ed_is xc_str (by rw [belowX, if_neg (of_decide_eq_false hb)])) fun u4 G3 H3 n3 d4 => ?_
    have dv := dv.up n3.a
    have d1 := d1.up n3.a
    have n3 := n2.trans n3
    have cg : ∀ {te : TE} {σ : L2.St} {G : Hp} {x : Str}, Evd K te σ G (.str x) → x.length ≤ 1000 → Evd K (tCall (Pr K 1 Rdgs) [] E0 (tCons te tNil)) σ G (.bl (isDg x)) := fun {te σ G x} h hi => x_callR (R := Rdgs) (xs_cons h es_nil) rfl ⟨x, rfl, hi, rfl⟩
    have cr : ∀ {te : TE} {σ : L2.St} {G : Hp} {x : Str}, Evd K te σ G (.str x) → x.length ≤ 1000 → isDg x = true → Evd K (tCall (Pr K 1 Rrdd) [] E0 (tCons te tNil)) σ G (.int (dVal (codes x) : Int)) := fun {te σ G x} h hi hg => x_callR (R := Rrdd) (xs_cons h es_nil) rfl ⟨x, rfl, hi, hg, rfl⟩
    refine qn_if n3.b (b := !isDg (topX x) || (!isDg (belowX x) || decide ((dVal (codes (belowX x)) : Int) = 0))) ?_ (fun hb G4 H4 n4 => ?_) fun hb G4 H4 n4 => ?_
    · cases h1 : isDg (topX x) with
      | false => exact et_or (b := true) (c := _) (et_is (et_not (et_B (K := K) (cg (x := topX x) (ed_var (i := 1) rfl d1) (by omega)))) (by rw [h1]; rfl)) fun z => nomatch z
      | true =>
        refine et_or (b := false) (et_is (et_not (et_B (K := K) (cg (x := topX x) (ed_var (i := 1) rfl d1) (by omega)))) (by rw [h1]; rfl)) fun _ G' s' => ?_
        cases h2 : isDg (belowX x) with
        | false => exact et_or (b := true) (c := _) (et_is (et_not (et_B (K := K) (cg (x := belowX x) (ed_var (i := 4) rfl (d4.up s')) (by omega)))) (by rw [h2]; rfl)) fun z => nomatch z
        | true =>
          refine et_or (b := false) (et_is (et_not (et_B (K := K) (cg (x := belowX x) (ed_var (i := 4) rfl (d4.up s')) (by omega)))) (by rw [h2]; rfl)) fun _ G'' s'' => ?_
          exact et_of (ed_eqI (K := K) (cr (x := belowX x) (ed_var (i := 4) rfl (d4.up (s'.trans s''))) (by omega) h2) xc_int rfl)
    · refine ret_d k (n3.trans n4) (ed_is xc_non ?_) rfl
      simp only [Bool.or_eq_true, Bool.not_eq_true', decide_eq_true_eq] at hb
      have tn : termsX x = none := by
        unfold termsX
        rcases hb with z | z | z
        · rw [if_neg (by rw [z]; exact Bool.false_ne_true)]
        · split
          · rw [if_neg (by rw [z]; exact Bool.false_ne_true)]
          · rfl
        · split
          · split
            · rw [if_pos (by exact_mod_cast z)]
            · rfl
          · rfl
      show Da.non = (match termsX x with | none => .non | some (a, b) => .tup [.int a, .int b])
      rw [tn]
    · simp only [Bool.or_eq_false_iff, Bool.not_eq_false', decide_eq_false_iff_not] at hb
      obtain ⟨h1, h2, h3⟩ := hb
      have n4' := n3.trans n4
      have dv := dv.up n4.a
      have d1 := d1.up n4.a
      have d4 := d4.up n4.a
      refine qd_asg (K := K) n4'.b (d := .int (sgnX x)) (x_if (et_B (K := K) (ed_stw (ed_var rfl dv) xc_str)) (fun hb => ed_is (ed_negI xc_int) (by rw [sgnX, if_pos hb])) fun hb => ed_is xc_int (by rw [sgnX, if_neg (by rw [hb]; exact Bool.false_ne_true)])) fun u5 G5 H5 n5 d5 => ?_
      have d1 := d1.up n5.a
      have d4 := d4.up n5.a
      have n5 := n4'.trans n5
      refine ret_d k n5 (ed_is (x_tup (xs_cons (ed_mulI (.inl ?_) (ed_var rfl d5) (cr (x := topX x) (ed_var (i := 1) rfl d1) (by omega) h1)) (xs_cons (cr (x := belowX x) (ed_var (i := 4) rfl d4) (by omega) h2) es_nil))) ?_) rfl
      · unfold sgnX
        split <;> decide
      · show _ = (match termsX x with | none => Da.non | some (a, b) => Da.tup [.int a, .int b])
        unfold termsX
        rw [if_pos h1, if_pos h2, if_neg (fun z => h3 (by exact_mod_cast z))]
end
end K02

set_option Elab.async false
set_option linter.all false
set_option maxRecDepth 100000
set_option maxHeartbeats 4000000
namespace K02
open PySem PySem.Spec PyProof.Rows L2 GL
/-- the rate that a text tells -/
def readX (x : Str) : Option (Int × Int) := match termsX x with
  | none => none
  | some (a, b) => if rateS (nrm a b) = x then some (nrm a b) else none
def errT (CB : Addr) : Out := .err CB ["word", "line"] [.int 0, .int 0]
def readD (C CB : Addr) : Da → Out
  | .str x => match readX x with
    | none => errT CB
    | some r => .val (rateD C r)
  | _ => errT CB
def Rread (C CB : Addr) (ds : List Da) (o : Out) : Prop := ∃ e, ds = [.obj C, e] ∧ May C e ∧ o = readD C CB e
theorem terms_facts {x : Str} {a b : Int} (hx : x.length ≤ 300) (h : termsX x = some (a, b)) : b ≠ 0 ∧ a.natAbs < 10 ^ 301 ∧ b.natAbs < 10 ^ 301 := by
  unfold termsX at h
  split at h
  · split at h
    · split at h
      · cases h
      · next h1 h2 h3 =>
        injection h with h
        injection h with ha hb
        subst ha hb
        have t1 := top_le x
        have t2 := below_le x
        have l1 := dVal_lt (isDg_iff.mp h1).1
        have l2 := dVal_lt (isDg_iff.mp h2).1
        rw [codes_len] at l1 l2
        have u1 := Nat.lt_of_lt_of_le l1 (Nat.pow_le_pow_right (show 0 < 10 by decide) (show (topX x).length ≤ 301 by omega))
        have u2 := Nat.lt_of_lt_of_le l2 (Nat.pow_le_pow_right (show 0 < 10 by decide) (show (belowX x).length ≤ 301 by omega))
        refine ⟨fun z => h3 (by exact_mod_cast z), ?_, by rw [Int.natAbs_natCast]; exact u2⟩
        rw [Int.natAbs_mul]
        have : (sgnX x).natAbs = 1 := by unfold sgnX; split <;> rfl
        rw [this, Nat.one_mul, Int.natAbs_natCast]
        exact u1
    · cases h
  · cases h
theorem nrm_le {a b : Int} (h : b ≠ 0) {n : Nat} (ha : a.natAbs < n) (hb : b.natAbs < n) : (nrm a b).1.natAbs < n ∧ (nrm a b).2.natAbs < n := by
  obtain ⟨e1, e2⟩ := nrm_mul (a := a) (b := b) h
  have s := shd_ne (a := a) (b := b) h
  have hs : 1 ≤ (shd a b).natAbs := by omega
  have k : ∀ {c d : Int}, c = shd a b * d → d.natAbs ≤ c.natAbs := fun {c d} e => by
    rw [e, Int.natAbs_mul]
    exact Nat.le_mul_of_pos_left _ hs
  exact ⟨Nat.lt_of_le_of_lt (k e1) ha, Nat.lt_of_le_of_lt (k e2) hb⟩
theorem rateS_len {r : Int × Int} (h1 : r.1.natAbs < 10 ^ 301) (h2 : r.2.natAbs < 10 ^ 301) : (rateS r).length ≤ 610 := by
  have l1 := intS_len (i := r.1) (n := 301) (by decide) h1
  have l2 := intS_len (i := r.2) (n := 301) (by decide) h2
  unfold rateS
  have e1 : ("/" : Str).length = 1 := by decide
  split
  · omega
  · rw [str_len, str_len]; omega
theorem big8 {a : Nat} (h : a < 10 ^ 301) : a < 2 ^ 8000 := Nat.lt_of_lt_of_le h (Nat.le_trans (Nat.pow_le_pow_left (show 10 ≤ 2 ^ 4 by decide) _) (by rw [← Nat.pow_mul]; exact Nat.pow_le_pow_right (by decide) (by decide)))
structure TS3 (P : Program) (w : World) (K : PySem.W.Frag) (mg : Str → Option Value) (base : Heap) (C CR CB : Addr) : Prop extends TS2 P w K mg base C CR where
  GS : ∃ fS fdS, FnOk P w K mg base CX0 3 fS fdS ["self"] (Pr K 1 (Rstr C)) ∧ PySem.W.findIn K (.ref C) "__str__" = some (some (.ref fS)) ∧ PySem.W.isFn K (.ref fS) = true ∧ Binds K fdS ["self"] []
  m_BadText : mg "BadText" = some (.ref CB)
  eT : ∃ fT fdT, OMk K CB fT ∧ FnOk P w K mg base CX0 5 fT fdT ["self", "line", "word"] (Pk K CB 2 ["word", "line"] gT) ∧ Binds K fdT ["self", "line", "word"] []
section
variable {K : PySem.W.Frag} {C CR CB : Addr} {σ : L2.St} {G : Hp} {te ta tb : TE} {r t : Int × Int} {e d : Da}
theorem ed_strO (sz : Szd r) (h : Evd K te σ G (rateD C r)) : Evd K (tCB (rStrO C (Pr K 1 (Rstr C))) (tCons te tNil)) σ G (.str (rateS r)) := fun H e Q q => h H e _ fun v G1 H1 n1 dv => by
  cases dv with
  | ins h1 h2 h3 =>
    exact ⟨_, _, _, rfl, n1.b _ _ h1, G1, [rateD C r], .str (rateS r), n1.b, rfl, .cons (.ins h1 h2 h3) .nil, ⟨r, rfl, sz, rfl⟩, fun v G2 H2 n2 d2 => by
      cases d2
      exact ⟨⟨_, rfl⟩, q _ G2 H2 (n1.trans n2) (.str _)⟩⟩
end
section
variable {P : Program} {w : World} {K : PySem.W.Frag} {mg : Str → Option Value} {base : Heap} {C CR CB : Addr}
theorem sc_read : FnScope ["cls", "text", "terms", "top", "bottom", "rate"] ["cls", "text"] (defScope sR_read) := ⟨rfl, rfl, rfl, by decide +kernel, rfl, by decide +kernel, by decide +kernel⟩
theorem ok_read {f : Addr} {fd : FuncData} (F : Fun K "read" "Rate.read" sR_read f fd) (T : TS3 P w K mg base C CR CB) (ct : CalO P w K mg base 2 "terms_of" ["text"] (Pr K 1 (Rterms C))) : FnOk P w K mg base (L2.CX P w) 9 f fd ["cls", "text"] (Po K 2 (Rread C CB)) := by
  refine F.okX sc_read Po.len fun cdv A outer s H vs Q E hr h => ?_
  obtain ⟨G, ds, o, hs, hl, hd, ⟨e, rfl, my, rfl⟩, k⟩ := h
  obtain ⟨vc, v, rfl, dc, dv⟩ := two_of hd
  cases dc
  obtain ⟨fT, fdT, O_BadText, G_BadText, b_BadText⟩ := T.eT
  obtain ⟨fS, fdS, GS, hS, iS, bS⟩ := T.GS
  have m_BadText := T.m_BadText
  refine ⟨_, (pss_cons (ps_set (i := 2) sc_read.nd rfl (Or.inl rfl) (pe_calO ct (hr.mono (by decide)) rfl (pa_cons (pv 1) pa_nil)))
    (pss_cons (ps_if (pt_cmpR op_isN1 (pv 2) pe_non (nomark _)) (pss_one (ps_raise rfl (takes_of rfl rfl rfl rfl) (pmk_oex O_BadText.o O_BadText.i O_BadText.t G_BadText (hr.mono (by decide)) b_BadText .nil pass0 rfl m_BadText (pa_cons pe_int (pa_cons pe_int pa_nil))))) pss_nil)
    (pss_cons (ps_asg (pv 2) (pg_tup rfl (pgs_cons (pg_name (i := 3) sc_read.nd rfl (Or.inl rfl)) (pgs_cons (pg_name (i := 4) sc_read.nd rfl (Or.inl rfl)) pgs_nil))))
    (pss_cons (ps_set (i := 5) sc_read.nd rfl (Or.inl rfl) (pe_mkXV (i := 0) T.mk2 passL (hr.mono (by decide)) rfl (Or.inl rfl) (pa_cons (pv 3) (pa_cons (pv 4) pa_nil))))
    (pss_cons (ps_if (pt_cmpR op_ne (pe_callTy (call_strO GS hS iS bS (hr.mono (by decide))) (by rfl) T.n_str (by decide +kernel) (pa_cons (pv 5) pa_nil)) (pv 1) (nomark _)) (pss_one (ps_raise rfl (takes_of rfl rfl rfl rfl) (pmk_oex O_BadText.o O_BadText.i O_BadText.t G_BadText (hr.mono (by decide)) b_BadText .nil pass0 rfl m_BadText (pa_cons pe_int (pa_cons pe_int pa_nil))))) pss_nil)
    (pss_one (ps_ret (pv 5)))))))), ?_⟩
  have bad : ∀ {G1 H1 : Hp} {σ : L2.St}, Nw G H G1 H1 → readD C CB e = errT CB → tMkO CB (Pk K CB 2 ["word", "line"] gT) [] (tCons (tC (.int 0)) (tCons (tC (.int 0)) tNil)) σ H1 (fun cls d H' => E cls d H') := fun {G1 H1 σ} n1 e2 => by
    rw [e2] at k
    exact rz_mk n1.b (xs_cons xc_int (xs_cons xc_int es_nil)) rfl (by decide) (gT2 rfl rfl) (ErrTo.of k n1)
  refine qd_asg hs (x_callR (K := K) (R := Rterms C) (xs_cons (ed_var rfl dv) es_nil) rfl ⟨e, rfl, my, rfl⟩) fun w2 G1 H1 n1 d2 => ?_
  have dv := dv.up n1.a
  cases my with
  | flat d t ht hk =>
    rw [terms_flat ht hk] at d2
    cases d2
    refine st_yes (ans_isN (val_var (i := 2) (v := .non) rfl) rfl) (bad n1 ?_)
    cases e with
    | str z => cases ht; exact absurd hk (by decide +kernel)
    | _ => rfl
  | rate r =>
    cases d2
    exact st_yes (ans_isN (val_var (i := 2) (v := .non) rfl) rfl) (bad n1 rfl)
  | str x hx =>
    cases ht : termsX x with
    | none =>
      have e2 : termsD (.str x) = .non := by show (match termsX x with | none => Da.non | some (a, b) => Da.tup [.int a, .int b]) = _; rw [ht]
      rw [e2] at d2
      cases d2
      refine st_yes (ans_isN (val_var (i := 2) (v := .non) rfl) rfl) (bad n1 ?_)
      show (match readX x with | none => errT CB | some r => Out.val (rateD C r)) = _
      have : readX x = none := by unfold readX; rw [ht]
      rw [this]
    | some ab =>
      obtain ⟨a, b⟩ := ab
      have e2 : termsD (.str x) = .tup [.int a, .int b] := by show (match termsX x with | none => Da.non | some (a, b) => Da.tup [.int a, .int b]) = _; rw [ht]
      rw [e2] at d2
      obtain ⟨bne, ba, bb⟩ := terms_facts hx ht
      obtain ⟨na, nb⟩ := nrm_le bne ba bb
      have er : readX x = if rateS (nrm a b) = x then some (nrm a b) else none := by unfold readX; rw [ht]
      have d20 := d2
      cases d2 with
      | @tup p _ _ q1 q2 =>
        refine st_seq (st_no (ans_isN (val_var (i := 2) (v := .ref p) rfl) rfl) (st_next ?_))
        refine qd_tup2 n1.b (ed_var (i := 2) rfl d20) fun u3 u4 G2 H2 n2 d3 d4 => ?_
        have dv := dv.up n2.a
        have n2 := n1.trans n2
        cases d3
        cases d4
        have mk : Evd K (fun σ H Q => σ[0]? = some (some (.ref C)) ∧ tMakeN C 2 0 (PiO K C 2 (Rini C CR)) (fun vs _ => vs) E0 (tCons (tVar 3) (tCons (tVar 4) tNil)) tNil σ H Q) [some (.ref C), some v, some (.ref p), some (.int a), some (.int b), none] G2 (rateD C (nrm a b)) := fun H e Q q => ⟨rfl, ed_mk (ed_var rfl (.int a)) (ed_var rfl (.int b)) bne (big8 ba) (big8 bb) E0 H e Q q⟩
        refine qd_asg n2.b mk fun w5 G3 H3 n3 d5 => ?_
        have dv := dv.up n3.a
        have n3 := n2.trans n3
        refine qn_if n3.b (et_of (x_nes (K := K) (ed_strO (r := nrm a b) ⟨na, nb⟩ (ed_var rfl d5)) (ed_var (i := 1) rfl dv) rfl)) (fun hb G4 H4 n4 => ?_) fun hb G4 H4 n4 => ?_
        · refine bad (n3.trans n4) ?_
          show (match readX x with | none => errT CB | some r => Out.val (rateD C r)) = _
          rw [er, if_neg (by simpa using hb)]
        · have k2 : Goes K G H Q E (.val (rateD C (nrm a b))) := by
            have e3 : readD C CB (.str x) = .val (rateD C (nrm a b)) := by
              show (match readX x with | none => errT CB | some r => Out.val (rateD C r)) = _
              rw [er, if_pos (by simpa using hb)]
            rw [e3] at k
            exact k
          exact ret_d k2 (n3.trans n4) (ed_var rfl (d5.up n4.a)) rfl
end
end K02

set_option Elab.async false
set_option linter.all false
set_option maxRecDepth 100000
set_option maxHeartbeats 4000000
namespace GL
open PySem PySem.Spec PyProof.Rows L2
open Classical in
/-- data without tables of code objects -/
noncomputable def clean (G : Hp) : Hp := fun b => if ∃ ps, G b = some (.tbl ps) then none else G b
theorem clean_at {G : Hp} {b : Addr} {o : HO} (h : G b = some o) (n : ∀ ps, o ≠ .tbl ps) : clean G b = some o := by
  unfold clean
  rw [if_neg (fun ⟨ps, e⟩ => n ps (by rw [h] at e; exact Option.some.inj e))]
  exact h
theorem of_clean {G : Hp} {b : Addr} {o : HO} (h : clean G b = some o) : G b = some o ∧ ∀ ps, o ≠ .tbl ps := by
  unfold clean at h
  split at h
  · cases h
  · next q => exact ⟨h, fun ps e => q ⟨ps, by rw [h, e]⟩⟩
theorem clean_none {G : Hp} {b : Addr} (h : G b = none) : clean G b = none := by
  cases q : clean G b with
  | none => rfl
  | some o => rw [(of_clean q).1] at h; cases h
theorem clean_same (G : Hp) : Same (clean G) G := fun b o h => (of_clean h).1
section
variable {K : PySem.W.Frag} {G : Hp}
mutual
theorem DR.cl : ∀ (d : Da) {v : V}, DR K G v d → DR K (clean G) v d
  | .non, _, h => by cases h; exact .non
  | .bl b, _, h => by cases h; exact .bl b
  | .int i, _, h => by cases h; exact .int i
  | .str x, _, h => by cases h; exact .str x
  | .ty n, _, h => by cases h; exact .ty n
  | .obj a, _, h => by cases h; exact .obj a
  | .lst ds, _, h => by cases h with | lst h1 h2 => exact .lst (clean_at h1 fun _ z => nomatch z) (DRs.cl ds h2)
  | .tup ds, _, h => by cases h with | tup h1 h2 => exact .tup (clean_at h1 fun _ z => nomatch z) (DRs.cl ds h2)
  | .dct ks ds, _, h => by cases h with | dct h1 h2 h3 => exact .dct (clean_at h1 fun _ z => nomatch z) h2 (DRs.cl ds h3)
  | .ins C ns ds, _, h => by cases h with | ins h1 h2 h3 => exact .ins (clean_at h1 fun _ z => nomatch z) h2 (DRs.cl ds h3)
  | .exc C ns ds, _, h => by
    cases h with
    | exc h1 h2 h3 h4 => exact .exc (clean_at h1 fun _ => exo_tbl) (clean_at h2 fun _ z => by unfold exd at z; cases z) h3 (DRs.cl ds h4)
    | exc0 h1 => exact .exc0 (clean_at h1 fun _ => exo_tbl)
theorem DRs.cl : ∀ (ds : List Da) {vs : List V}, DRs K G vs ds → DRs K (clean G) vs ds
  | [], _, h => by cases h; exact .nil
  | d :: ds, _, h => by cases h with | cons h1 h2 => exact .cons (DR.cl d h1) (DRs.cl ds h2)
end
end
/-- a promise by position, from one by names -/
theorem fnr_of {P : Program} {w : World} {K : PySem.W.Frag} {mg : Str → Option Value} {base : Heap} {CX : CXT} {k : Nat} {f : Addr} {fd : FuncData} {ps : List Str} {sp : Sp} (F : FnOk P w K mg base CX k f fd ps sp) (hb : Binds K fd ps []) : FnR P w K mg base CX k f sp :=
  fun A outer s H us vs Q E hr e0 r h => by
    have kin : K.In s.heap := e0.mod.kin.keeps fun b o z => (e0.bs b o z).1
    have hl : us.length = ps.length := r.length.symm.trans (F.len _ _ _ _ h)
    have bd := hb s us kin (by simpa using hl)
    rw [List.append_nil] at bd
    exact F.run A outer s H ⟨us, []⟩ us vs Q E hr e0 bd r h
/-- what a call that may make a lambda does to the heap -/
structure NwT (T : List (Addr × Str)) (G H G' H' : Hp) : Prop where
  x : LamX.ExtN H H'
  a : Same (clean G) G'
  b : Same G' H'
  t : LamX.Tabs T H'
  n : ∀ p o, H p = some o → (∀ ps, o ≠ .tbl ps) → G p = none → G' p = none
end GL

set_option Elab.async false
set_option linter.all false
set_option autoImplicit false
set_option maxRecDepth 100000
set_option maxHeartbeats 2000000
namespace GL
open PySem PySem.Spec PyProof.Rows L2
/-! for over a list or a tuple of data: the invariant speaks of the turn, the slots and the two heaps -/
section
variable {K : PySem.W.Frag} {σ : L2.St} {G H : Hp} {te : TE} {ds : List Da} {g : TG} {tb tz : TS} {D : Ends}
/-- where a turn's body ends -/
def endT (G H : Hp) (I : L2.St → Hp → Hp → Prop) (tz : TS) (D : Ends) : Ends := { D with nx := fun σ3 H3 => ∃ G3, Nw G H G3 H3 ∧ I σ3 G3 H3, ct := fun σ3 H3 => ∃ G3, Nw G H G3 H3 ∧ I σ3 G3 H3, bk := tz D }
theorem qd_forT (s : Same G H) (h : Evd K te σ G (.tup ds)) (k : ∀ G1 H1, Nw G H G1 H1 → ∃ I : Nat → L2.St → Hp → Hp → Prop, I 0 σ G1 H1 ∧
    (∀ i d x σ' G' H', ds[i]? = some d → Nw G1 H1 G' H' → I i σ' G' H' → DR K G' x d → g x σ' H' fun σ2 H2 => tb (endT G1 H1 (I (i + 1)) tz D) σ2 H2) ∧ (∀ σ' G' H', Nw G1 H1 G' H' → I ds.length σ' G' H' → tz D σ' H')) : tSeq (tFor (iTup K te) g tb) tz D σ H := h H s _ fun v G1 H1 n1 dv => by
  obtain ⟨I, h0, hs, hd⟩ := k G1 H1 n1
  cases dv with
  | @tup a xs _ a1 a2 =>
    refine ⟨a, rfl, ⟨xs, SqT.of (n1.b _ _ a1)⟩, for_tup (K := K) (xs := xs) (fun i σ' H' => ∃ G', Nw G1 H1 G' H' ∧ I i σ' G' H') ⟨G1, Nw.refl n1.b, h0⟩ (fun i σ' H' _ ⟨G', n, _⟩ => SqT.of (n.b _ _ (n.a _ _ a1))) (fun i x σ' H' hx ⟨G', n, hI⟩ => ?_) fun σ' H' ⟨G', n, hI⟩ => hd σ' G' H' n (by rw [← a2.len]; exact hI)⟩
    obtain ⟨d, q1, q2⟩ := a2.get hx
    exact hs i d x σ' G' H' q1 n hI (q2.up n.a)
theorem qd_forL (s : Same G H) (h : Evd K te σ G (.lst ds)) (k : ∀ G1 H1, Nw G H G1 H1 → ∃ I : Nat → L2.St → Hp → Hp → Prop, I 0 σ G1 H1 ∧
    (∀ i d x σ' G' H', ds[i]? = some d → Nw G1 H1 G' H' → I i σ' G' H' → DR K G' x d → g x σ' H' fun σ2 H2 => tb (endT G1 H1 (I (i + 1)) tz D) σ2 H2) ∧ (∀ σ' G' H', Nw G1 H1 G' H' → I ds.length σ' G' H' → tz D σ' H')) : tSeq (tFor (iList K te) g tb) tz D σ H := h H s _ fun v G1 H1 n1 dv => by
  obtain ⟨I, h0, hs, hd⟩ := k G1 H1 n1
  cases dv with
  | @lst a xs _ a1 a2 =>
    refine ⟨a, rfl, ⟨xs, SqL.of (n1.b _ _ a1)⟩, for_list (K := K) (xs := xs) (fun i σ' H' => ∃ G', Nw G1 H1 G' H' ∧ I i σ' G' H') ⟨G1, Nw.refl n1.b, h0⟩ (fun i σ' H' _ ⟨G', n, _⟩ => SqL.of (n.b _ _ (n.a _ _ a1))) (fun i x σ' H' hx ⟨G', n, hI⟩ => ?_) fun σ' H' ⟨G', n, hI⟩ => hd σ' G' H' n (by rw [← a2.len]; exact hI)⟩
    obtain ⟨d, q1, q2⟩ := a2.get hx
    exact hs i d x σ' G' H' q1 n hI (q2.up n.a)
end
end GL

set_option Elab.async false
set_option linter.all false
set_option autoImplicit false
set_option maxRecDepth 100000
set_option maxHeartbeats 4000000
namespace GL
open PySem PySem.Spec PyProof.Rows L2
/-! a law's own run: its pen, its tables of lambdas, and its data -/
/-- what stands through the whole run -/
structure LS where
  PA : Addr
  c : Addr
  ns : List Int
  T : List (Addr × Str)
structure At (S : LS) (k : Int) (G H : Hp) : Prop where
  pen : ∃ k' g, k' ≤ k ∧ PenAt H S.PA S.c S.ns k' g
  len : S.ns.length ≤ 63
  tabs : LamX.Tabs S.T H
  same : Same G H
  gP : G S.PA = none
  nt : ∀ b o, G b = some o → ∀ ps, o ≠ .tbl ps
/-- from one moment to a later one -/
structure NwL (S : LS) (G H G' H' : Hp) : Prop where
  x : ∀ b o, H b = some o → b ≠ S.PA → (∀ ps, o ≠ .tbl ps) → H' b = some o
  a : Same G G'
  n : ∀ p o, H p = some o → (∀ ps, o ≠ .tbl ps) → G p = none → G' p = none
section
variable {S : LS} {K : PySem.W.Frag} {σ : L2.St} {k k1 k2 : Int} {G G1 G2 G' H H1 H2 H' : Hp}
theorem tabs_but2 {T : List (Addr × Str)} {PA : Addr} {xs : List V} (t : LamX.Tabs T H) (hP : H PA = some (.lst xs)) (b : But PA H H') : LamX.Tabs T H' := fun p hp => by
  obtain ⟨ps, h1, h2, h3⟩ := t p hp
  refine ⟨ps, b _ _ (fun e => by rw [e, hP] at h1; cases h1) h1, h2, fun pos cv hc => ?_⟩
  obtain ⟨c, e, h4⟩ := h3 pos cv hc
  refine ⟨c, e, b _ _ (fun e2 => ?_) h4⟩
  rw [e2, hP] at h4
  exact nomatch h4
theorem NwL.refl : NwL S G H G H := ⟨fun _ _ h _ _ => h, Same.refl G, fun _ _ _ _ z => z⟩
theorem NwL.trans (x : NwL S G H G1 H1) (y : NwL S G1 H1 G2 H2) (hP : G S.PA = none) (h1 : ∀ p o, H p = some o → p = S.PA → G2 p = none) : NwL S G H G2 H2 := ⟨fun b o h n t => y.x b o (x.x b o h n t) n t, x.a.trans y.a, fun p o h t z => by
  by_cases e : p = S.PA
  · exact h1 p o h e
  · exact y.n p o (x.x p o h e t) t (x.n p o h t z)⟩
theorem At.up (a : At S k G H) (h : k ≤ k1) : At S k1 G H := by
  obtain ⟨k', g, h1, h2⟩ := a.pen
  exact ⟨⟨k', g, Int.le_trans h1 h, h2⟩, a.len, a.tabs, a.same, a.gP, a.nt⟩
/-- what plain data does -/
theorem At.nw (a : At S k G H) (n : Nw G H G1 H1) : At S k (clean G1) H1 ∧ NwL S G H (clean G1) H1 := by
  obtain ⟨k', g, h1, h2⟩ := a.pen
  exact ⟨⟨⟨k', g, h1, h2.same n.s⟩, a.len, a.tabs.ext n.s, (clean_same G1).trans n.b, clean_none (n.n _ _ h2.hp a.gP), fun b o e => (of_clean e).2⟩,
    ⟨fun b o e _ _ => n.s _ _ e, fun b o e => clean_at (n.a _ _ e) (a.nt _ _ e), fun p o e _ z => clean_none (n.n p o e z)⟩⟩
/-- an expression of the law: what holds of its value, and how far the pen goes -/
def EvL (S : LS) (K : PySem.W.Frag) (te : TE) (σ : L2.St) (G : Hp) (k k1 : Int) (R : Da → Prop) : Prop :=
  ∀ H, At S k G H → ∀ Q : VK, (∀ v d G1 H1, R d → At S k1 G1 H1 → NwL S G H G1 H1 → DR K G1 v d → Q v H1) → te σ H Q
def EvLs (S : LS) (K : PySem.W.Frag) (tA : TA) (σ : L2.St) (G : Hp) (k k1 : Int) (R : List Da → Prop) : Prop :=
  ∀ H, At S k G H → ∀ Q : List V → Hp → Prop, (∀ vs ds G1 H1, R ds → At S k1 G1 H1 → NwL S G H G1 H1 → DRs K G1 vs ds → Q vs H1) → tA σ H Q
def EvLt (S : LS) (tt : TT) (σ : L2.St) (G : Hp) (k k1 : Int) (b : Bool) : Prop :=
  ∀ H, At S k G H → ∀ Q : Bool → Hp → Prop, (∀ G1 H1, At S k1 G1 H1 → NwL S G H G1 H1 → Q b H1) → tt σ H Q
theorem nwl_in (a : At S k G H) (x : NwL S G H G1 H1) (y : NwL S G1 H1 G2 H2) (a2 : At S k2 G2 H2) : NwL S G H G2 H2 := x.trans y a.gP fun p o _ e => e ▸ a2.gP
variable {te ta tb : TE} {tA : TA} {tt tu : TT} {R R1 R2 : Da → Prop} {Rs : List Da → Prop} {d : Da} {b c : Bool}
theorem el_d (h : Evd K te σ G d) : EvL S K te σ G k k (· = d) := fun H a Q q => h H a.same Q fun v G1 H1 n dv => by
  obtain ⟨a1, n1⟩ := a.nw n
  exact q v d _ H1 rfl a1 n1 (DR.cl d dv)
theorem el_t (h : Evt tt σ G b) : EvLt S tt σ G k k b := fun H a Q q => h H a.same Q fun G1 H1 n => by
  obtain ⟨a1, n1⟩ := a.nw n
  exact q _ H1 a1 n1
theorem el_mono (h : EvL S K te σ G k k1 R1) (hR : ∀ d, R1 d → R2 d) (hk : k1 ≤ k2) : EvL S K te σ G k k2 R2 := fun H a Q q => h H a Q fun v d G1 H1 r a1 n1 dv => q v d G1 H1 (hR d r) (a1.up hk) n1 dv
/-- the data of later moments holds what was -/
theorem At.back (a : At S k G1 H) (s : Same G G1) : At S k G H := by
  have gp : G S.PA = none := by
    cases z : G S.PA with
    | none => rfl
    | some o =>
      have e := s _ _ z
      rw [a.gP] at e
      cases e
  exact ⟨a.pen, a.len, a.tabs, s.trans a.same, gp, fun b o z => a.nt b o (s b o z)⟩
def join2 (G1 G2 : Hp) : Hp := fun b => match G2 b with
  | some o => some o
  | none => G1 b
theorem join2_some {b : Addr} {o : HO} (h : G2 b = some o) : join2 G1 G2 b = some o := by unfold join2; rw [h]
theorem join2_none {b : Addr} (h : G2 b = none) : join2 G1 G2 b = G1 b := by unfold join2; rw [h]
theorem wide (a : At S k G1 H) (s : Same G G1) (a2 : At S k2 G2 H2) (n2 : NwL S G H G2 H2) : Same G2 (join2 G1 G2) ∧ At S k2 (join2 G1 G2) H2 ∧ NwL S G1 H (join2 G1 G2) H2 := by
  have in2 : ∀ b o, G1 b = some o → H2 b = some o := fun b o z => n2.x b o (a.same b o z) (fun e => by rw [e, a.gP] at z; cases z) (a.nt b o z)
  refine ⟨fun b o z => join2_some z, ⟨a2.pen, a2.len, a2.tabs, fun b o z => ?_, by rw [join2_none a2.gP]; exact a.gP, fun b o z => ?_⟩, ⟨n2.x, fun b o z => ?_, fun p o z t g => ?_⟩⟩
  · cases w : G2 b with
    | some o2 => rw [join2_some w] at z; cases z; exact a2.same b o w
    | none => rw [join2_none w] at z; exact in2 b o z
  · cases w : G2 b with
    | some o2 => rw [join2_some w] at z; cases z; exact a2.nt b o w
    | none => rw [join2_none w] at z; exact a.nt b o z
  · cases w : G2 b with
    | some o2 =>
      have e1 := a2.same b o2 w
      rw [in2 b o z] at e1
      cases e1
      exact join2_some w
    | none => rw [join2_none w]; exact z
  · have gp : G p = none := by
      cases w : G p with
      | none => rfl
      | some o2 =>
        have e := s _ _ w
        rw [g] at e
        cases e
    rw [join2_none (n2.n p o z t gp)]
    exact g
theorem el_up (h : EvL S K te σ G k k1 R) (s : Same G G1) : EvL S K te σ G1 k k1 R := fun H a Q q => h H (a.back s) Q fun v d G2 H2 r a2 n2 dv => by
  obtain ⟨s2, a3, n3⟩ := wide a s a2 n2
  exact q v d _ H2 r a3 n3 (dv.up s2)
theorem els_nil : EvLs S K tNil σ G k k (· = []) := fun H a Q q => q [] [] G H rfl a .refl .nil
theorem els_cons (h : EvL S K te σ G k k1 R) (hs : EvLs S K tA σ G k1 k2 Rs) (up : ∀ {G1}, Same G G1 → EvLs S K tA σ G1 k1 k2 Rs) : EvLs S K (tCons te tA) σ G k k2 (fun ds => ∃ d es, ds = d :: es ∧ R d ∧ Rs es) := fun H a Q q => h H a _ fun v d G1 H1 r a1 n1 dv =>
  up n1.a H1 a1 _ fun vs ds G2 H2 rs a2 n2 dvs => q _ _ G2 H2 ⟨d, ds, rfl, r, rs⟩ a2 (nwl_in a n1 n2 a2) (.cons (dv.up n2.a) dvs)
theorem els_d {ds : List Da} (h : Evs K tA σ G ds) : EvLs S K tA σ G k k (· = ds) := fun H a Q q => h H a.same Q fun vs G1 H1 n dvs => by
  obtain ⟨a1, n1⟩ := a.nw n
  exact q vs ds _ H1 rfl a1 n1 (DRs.cl ds dvs)
theorem els_up (h : EvLs S K tA σ G k k1 Rs) (s : Same G G1) : EvLs S K tA σ G1 k k1 Rs := fun H a Q q => h H (a.back s) Q fun vs ds G2 H2 r a2 n2 dvs => by
  obtain ⟨s2, a3, n3⟩ := wide a s a2 n2
  exact q vs ds _ H2 r a3 n3 (dvs.up s2)
theorem els_c (h : EvL S K te σ G k k1 R) (hs : EvLs S K tA σ G k1 k2 Rs) : EvLs S K (tCons te tA) σ G k k2 (fun ds => ∃ d es, ds = d :: es ∧ R d ∧ Rs es) := els_cons h hs fun s => els_up hs s
theorem els_mono {Rs1 Rs2 : List Da → Prop} (h : EvLs S K tA σ G k k1 Rs1) (hR : ∀ d, Rs1 d → Rs2 d) (hk : k1 ≤ k2) : EvLs S K tA σ G k k2 Rs2 := fun H a Q q => h H a Q fun v d G1 H1 r a1 n1 dv => q v d G1 H1 (hR d r) (a1.up hk) n1 dv
/-- a new object of data -/
theorem At.new {p : Addr} {o : HO} (a : At S k G H) (hp : H p = none) (nt : ∀ ps, o ≠ .tbl ps) : At S k (upd G p o) (upd H p o) ∧ NwL S G H (upd G p o) (upd H p o) := by
  obtain ⟨k', g, h1, h2⟩ := a.pen
  have sH : Same H (upd H p o) := same_upd (Same.refl H) hp
  have gp : G p = none := a.same.free hp
  have sG : Same G (upd G p o) := same_upd (Same.refl G) gp
  have np : S.PA ≠ p := ne_of_none h2.hp hp
  refine ⟨⟨⟨k', g, h1, h2.same sH⟩, a.len, a.tabs.ext sH, fun b u z => ?_, by rw [upd_ne np]; exact a.gP, fun b u z => ?_⟩, ⟨fun b u e _ _ => sH _ _ e, sG, fun b u e _ z => ?_⟩⟩
  · by_cases e : b = p
    · subst e; rw [upd_same] at z ⊢; exact z
    · rw [upd_ne e] at z ⊢; exact a.same b u z
  · by_cases e : b = p
    · subst e; rw [upd_same] at z; cases z; exact nt
    · rw [upd_ne e] at z; exact a.nt b u z
  · rw [upd_ne (ne_of_none e hp)]; exact z
theorem el_lst (h : EvLs S K tA σ G k k1 Rs) (hl : ∀ ds, Rs ds → ds.length ≤ 1000) : EvL S K (tLst tA) σ G k k1 (fun d => ∃ ds, d = .lst ds ∧ Rs ds) := fun H a Q q => h H a _ fun vs ds G1 H1 r a1 n1 dvs => ⟨by rw [dvs.len]; exact Nat.le_of_lt (small1000 (hl ds r)), fun p hp => by
  obtain ⟨a2, n2⟩ := a1.new (o := .lst vs) hp fun _ z => nomatch z
  exact q (.ref p) _ _ _ ⟨ds, rfl, r⟩ a2 (nwl_in a n1 n2 a2) (.lst upd_same (dvs.up n2.a))⟩
theorem At.but {k3 g3 : Int} (a : At S k G H) (bt : But S.PA H H1) (hp : PenAt H1 S.PA S.c S.ns k3 g3) (hk : k3 ≤ k1) : At S k1 G H1 ∧ NwL S G H G H1 := by
  obtain ⟨k', g, h1, h2⟩ := a.pen
  exact ⟨⟨⟨k3, g3, hk, hp⟩, a.len, tabs_but2 a.tabs h2.hp bt, bt.same a.same a.gP, a.gP, a.nt⟩, ⟨fun b o e n _ => bt b o n e, Same.refl G, fun _ _ _ _ z => z⟩⟩
/-- a draw -/
theorem el_draw {i : Nat} {m most : Int} {E : XK} (hi : σ[i]? = some (some (.ref S.PA))) (hm : 0 < m ∧ m < most) (hk : k ≤ 9998) : EvL S K (tCall (spDraw most) [] E (tCons (tVar i) (tCons (tC (.int m)) tNil))) σ G k (k + 1) (fun d => ∃ r : Int, d = .int r ∧ 0 ≤ r ∧ r < m) := fun H a Q q => by
  obtain ⟨k', g, h1, h2⟩ := a.pen
  refine ⟨_, hi, S.PA, S.c, S.ns, k', g, m, rfl, h2, a.len, by omega, hm.1, hm.2, fun r H1 k2 g2 r0 r1 bt hp hk2 => ?_⟩
  obtain ⟨a1, n1⟩ := a.but bt hp (show k2 ≤ k + 1 by omega)
  exact q (.int r) (.int r) G H1 ⟨r, rfl, r0, r1⟩ a1 n1 (.int r)
/-- a pick -/
theorem el_pick {i : Nat} {E : XK} (hi : σ[i]? = some (some (.ref S.PA))) (h : EvL S K te σ G k k1 fun d => ∃ ds, d = .lst ds ∧ ds ≠ [] ∧ ds.length ≤ 1000 ∧ ∀ x ∈ ds, R x) (hk : k1 ≤ 9998) : EvL S K (tCall (spPick K) [] E (tCons (tVar i) (tCons te tNil))) σ G k (k1 + 1) R := fun H a Q q => by
  refine ⟨_, hi, h H a _ fun v d G1 H1 ⟨ds, e, ne, hl, hR⟩ a1 n1 dv => ?_⟩
  subst e
  obtain ⟨k', g, h1, h2⟩ := a1.pen
  refine ⟨S.PA, S.c, S.ns, k', g, v, G1, ds, rfl, h2, a1.len, by omega, a1.same, a1.gP, dv, ne, hl, fun u d H2 k2 g2 hd bt hp hk2 du => ?_⟩
  obtain ⟨a2, n2⟩ := a1.but bt hp (show k2 ≤ k1 + 1 by omega)
  exact q u d G1 H2 (hR d hd) a2 (nwl_in a n1 n2 a2) du
theorem el_addI {i : Int} (h : EvL S K tb σ G k k1 (fun d => ∃ r : Int, d = .int r ∧ R (.int r))) : EvL S K (tOp (rI0 fun i j => .int (i + j)) (tC (.int i)) tb) σ G k k1 (fun d => ∃ r : Int, d = .int (i + r) ∧ R (.int r)) := fun H a Q q => h H a _ fun v d G1 H1 ⟨r, e, hr⟩ a1 n1 dv => by
  subst e
  cases dv
  exact ⟨i, r, rfl, rfl, q _ _ G1 H1 ⟨r, rfl, hr⟩ a1 n1 (.int _)⟩
theorem el_opV {r : L2.R2} {d1 : Da} (h : EvL S K ta σ G k k1 (· = d1)) (hop : ∀ (v : V) (G1 : Hp), Same G G1 → DR K G1 v d1 → Evd K (tOp r (tC v) tb) σ G1 d) : EvL S K (tOp r ta tb) σ G k k1 (· = d) := fun H a Q q => h H a _ fun v e G1 H1 hd a1 n1 dv => by
  subst hd
  exact (el_d (hop v G1 n1.a dv) : EvL S K _ σ G1 k1 k1 (· = d)) H1 a1 Q fun u d2 G2 H2 r2 a2 n2 du => q u d2 G2 H2 r2 a2 (nwl_in a n1 n2 a2) du
theorem el_andV (ha : Evd K ta σ G (.bl true)) (hb : EvL S K tb σ G k k1 R) : EvL S K (tAndV ta tb) σ G k k1 R := fun H a Q q => (el_d ha : EvL S K _ σ G k k (· = .bl true)) H a _ fun v e G1 H1 hd a1 n1 dv => by
  subst hd
  cases dv
  exact ⟨true, rfl, el_up hb n1.a H1 a1 Q fun u d2 G2 H2 r2 a2 n2 du => q u d2 G2 H2 r2 a2 (nwl_in a n1 n2 a2) du⟩
theorem elt_up (h : EvLt S tt σ G k k1 b) (s : Same G G1) : EvLt S tt σ G1 k k1 b := fun H a Q q => h H (a.back s) Q fun G2 H2 a2 n2 => by
  obtain ⟨s2, a3, n3⟩ := wide a s a2 n2
  exact q _ H2 a3 n3
theorem elt_mono (h : EvLt S tt σ G k k1 b) (hk : k1 ≤ k2) : EvLt S tt σ G k k2 b := fun H a Q q => h H a Q fun G1 H1 a1 n1 => q G1 H1 (a1.up hk) n1
theorem elt_not (h : EvLt S tt σ G k k1 b) : EvLt S (tNot tt) σ G k k1 (!b) := fun H a Q q => h H a _ fun G1 H1 a1 n1 => q G1 H1 a1 n1
theorem elt_B (h : EvL S K te σ G k k1 (· = .bl b)) : EvLt S (L2.tB te) σ G k k1 b := fun H a Q q => h H a _ fun v d G1 H1 hd a1 n1 dv => by
  subst hd
  cases dv
  exact ⟨b, rfl, q G1 H1 a1 n1⟩
theorem elt_of (h : EvL S K te σ G k k1 (· = .bl b)) : EvLt S (tTest te) σ G k k1 b := fun H a Q q => h H a _ fun v d G1 H1 hd a1 n1 dv => by
  subst hd
  cases dv
  exact ⟨b, rfl, q G1 H1 a1 n1⟩
theorem elt_and (h : EvLt S tt σ G k k1 b) (h2 : b = true → EvLt S tu σ G k1 k2 c) (hk : k1 ≤ k2) : EvLt S (tAnd tt tu) σ G k k2 (b && c) := fun H a Q q => h H a _ fun G1 H1 a1 n1 => by
  cases b with
  | false => exact q G1 H1 (a1.up hk) n1
  | true => exact elt_up (h2 rfl) n1.a H1 a1 Q fun G2 H2 a2 n2 => q G2 H2 a2 (nwl_in a n1 n2 a2)
theorem elt_or (h : EvLt S tt σ G k k1 b) (h2 : b = false → EvLt S tu σ G k1 k2 c) (hk : k1 ≤ k2) : EvLt S (tOr tt tu) σ G k k2 (b || c) := fun H a Q q => h H a _ fun G1 H1 a1 n1 => by
  cases b with
  | true => exact q G1 H1 (a1.up hk) n1
  | false => exact elt_up (h2 rfl) n1.a H1 a1 Q fun G2 H2 a2 n2 => q G2 H2 a2 (nwl_in a n1 n2 a2)
/-- lists all of whose items are so -/
theorem ela_nil : EvLs S K tNil σ G k k (fun ds => (∀ d ∈ ds, R d) ∧ ds.length = 0) := fun H a Q q => q [] [] G H ⟨fun _ h => (List.not_mem_nil h).elim, rfl⟩ a .refl .nil
theorem ela_cons {n : Nat} (h : EvL S K te σ G k k1 R) (hs : EvLs S K tA σ G k1 k2 fun ds => (∀ d ∈ ds, R d) ∧ ds.length = n) : EvLs S K (tCons te tA) σ G k k2 fun ds => (∀ d ∈ ds, R d) ∧ ds.length = n + 1 := els_mono (els_c h hs) (fun ds ⟨d, es, e, r, rs, hl⟩ => by
  subst e
  refine ⟨fun x hx => ?_, by rw [List.length_cons, hl]⟩
  rcases List.mem_cons.mp hx with rfl | hx
  · exact r
  · exact rs x hx) (Int.le_refl _)
theorem ela_d (h : Evd K te σ G d) (hR : R d) : EvL S K te σ G k k R := el_mono (el_d h) (fun _ e => e ▸ hR) (Int.le_refl _)
theorem el_pickA {i n : Nat} {E : XK} (hi : σ[i]? = some (some (.ref S.PA))) (h : EvLs S K tA σ G k k1 fun ds => (∀ d ∈ ds, R d) ∧ ds.length = n + 1) (hn : n < 1000) (hk : k1 ≤ 9998) : EvL S K (tCall (spPick K) [] E (tCons (tVar i) (tCons (tLst tA) tNil))) σ G k (k1 + 1) R :=
  el_pick hi (el_mono (el_lst h fun ds ⟨_, hl⟩ => by omega) (fun d ⟨ds, e, r, hl⟩ => ⟨ds, e, fun z => by rw [z] at hl; exact absurd hl (by simp), by omega, r⟩) (Int.le_refl _)) hk
theorem el_drawL {R' : Int → Prop} {i : Nat} {most : Int} {E : XK} (hi : σ[i]? = some (some (.ref S.PA))) (h : EvL S K te σ G k k1 fun d => ∃ m : Int, d = .int m ∧ 0 < m ∧ m < most ∧ R' m) (hk : k1 ≤ 9998) : EvL S K (tCall (spDraw most) [] E (tCons (tVar i) (tCons te tNil))) σ G k (k1 + 1) (fun d => ∃ r m : Int, d = .int r ∧ 0 ≤ r ∧ r < m ∧ R' m) := fun H a Q q => by
  refine ⟨_, hi, h H a _ fun v d G1 H1 ⟨m, e, m0, m1, hR⟩ a1 n1 dv => ?_⟩
  subst e
  cases dv
  obtain ⟨k', g, h1, h2⟩ := a1.pen
  refine ⟨S.PA, S.c, S.ns, k', g, m, rfl, h2, a1.len, by omega, m0, m1, fun r H2 k2 g2 r0 r1 bt hp hk2 => ?_⟩
  obtain ⟨a2, n2⟩ := a1.but bt hp (show k2 ≤ k1 + 1 by omega)
  exact q (.int r) (.int r) G1 H2 ⟨r, m, rfl, r0, r1, hR⟩ a2 (nwl_in a n1 n2 a2) (.int r)
theorem el_tup (h : EvLs S K tA σ G k k1 Rs) (hl : ∀ ds, Rs ds → ds.length ≤ 1000) : EvL S K (tTup tA) σ G k k1 (fun d => ∃ ds, d = .tup ds ∧ Rs ds) := fun H a Q q => h H a _ fun vs ds G1 H1 r a1 n1 dvs => ⟨by rw [dvs.len]; exact Nat.le_of_lt (small1000 (hl ds r)), fun p hp => by
  obtain ⟨a2, n2⟩ := a1.new (o := .tup vs) hp fun _ z => nomatch z
  exact q (.ref p) _ _ _ ⟨ds, rfl, r⟩ a2 (nwl_in a n1 n2 a2) (.tup upd_same (dvs.up n2.a))⟩
/-- a test whose answer is not known -/
def EvLb (S : LS) (tt : TT) (σ : L2.St) (G : Hp) (k k1 : Int) : Prop :=
  ∀ H, At S k G H → ∀ Q : Bool → Hp → Prop, (∀ b G1 H1, At S k1 G1 H1 → NwL S G H G1 H1 → Q b H1) → tt σ H Q
theorem elb_eq {j : Int} (h : EvL S K te σ G k k1 fun d => ∃ r : Int, d = .int r) : EvLb S (tTest (tOp rEq te (tC (.int j)))) σ G k k1 := fun H a Q q => h H a _ fun v d G1 H1 ⟨r, e⟩ a1 n1 dv => by
  subst e
  cases dv
  exact ⟨rfl, _, rfl, q _ G1 H1 a1 n1⟩
theorem elb_lt {j : Int} (h : EvL S K te σ G k k1 fun d => ∃ r : Int, d = .int r) : EvLb S (tTest (tOp (rI0 fun i j => .bl (decide (i < j))) te (tC (.int j)))) σ G k k1 := fun H a Q q => h H a _ fun v d G1 H1 ⟨r, e⟩ a1 n1 dv => by
  subst e
  cases dv
  exact ⟨r, j, rfl, rfl, _, rfl, q _ G1 H1 a1 n1⟩
theorem el_ifB (h : EvLb S tt σ G k k1) (h1 : EvL S K ta σ G k1 k2 R) (h2 : EvL S K tb σ G k1 k2 R) : EvL S K (tIf tt ta tb) σ G k k2 R := fun H a Q q => h H a _ fun b G1 H1 a1 n1 => by
  cases b with
  | true => exact el_up h1 n1.a H1 a1 Q fun v d G2 H2 r a2 n2 dv => q v d G2 H2 r a2 (nwl_in a n1 n2 a2) dv
  | false => exact el_up h2 n1.a H1 a1 Q fun v d G2 H2 r a2 n2 dv => q v d G2 H2 r a2 (nwl_in a n1 n2 a2) dv
end
/-! statements -/
section
variable {S : LS} {K : PySem.W.Frag} {σ : L2.St} {k k1 k2 : Int} {G H : Hp} {te : TE} {tt : TT} {tu tz : TS} {D : Ends} {R : Da → Prop} {d : Da} {b : Bool} {i j : Nat}
theorem ql_asgL (a : At S k G H) (h : EvL S K te σ G k k1 R) (q : ∀ v d G1 H1, R d → At S k1 G1 H1 → NwL S G H G1 H1 → DR K G1 v d → tz D (σ.set i (some v)) H1) : tSeq (tAsg te (gName i)) tz D σ H := h H a _ fun v d G1 H1 r a1 n1 dv => q v d G1 H1 r a1 n1 dv
theorem ql_asg (a : At S k G H) (h : Evd K te σ G d) (q : ∀ v G1 H1, At S k G1 H1 → NwL S G H G1 H1 → DR K G1 v d → tz D (σ.set i (some v)) H1) : tSeq (tAsg te (gName i)) tz D σ H := ql_asgL a (el_d h) fun v d' G1 H1 e => by subst e; exact q v G1 H1
theorem ql_no (a : At S k G H) (h : Evt tt σ G false) (q : ∀ G1 H1, At S k G1 H1 → NwL S G H G1 H1 → tz D σ H1) : tSeq (tIfS tt tu tNext) tz D σ H := el_t h H a _ fun G1 H1 a1 n1 => q G1 H1 a1 n1
theorem ql_ifL (a : At S k G H) (h : EvLt S tt σ G k k1 b) (hb : b = false) (q : ∀ G1 H1, At S k1 G1 H1 → NwL S G H G1 H1 → tz D σ H1) : tSeq (tIfS tt tu tNext) tz D σ H := by
  subst hb
  exact h H a _ fun G1 H1 a1 n1 => q G1 H1 a1 n1
theorem ql_retL (a : At S k G H) (h : EvL S K te σ G k k1 R) (q : ∀ v d G1 H1, R d → At S k1 G1 H1 → NwL S G H G1 H1 → DR K G1 v d → D.rt v H1) : tRet te D σ H := h H a _ fun v d G1 H1 r a1 n1 dv => q v d G1 H1 r a1 n1 dv
/-- the last if of a turn -/
theorem ql_endL (a : At S k G H) (h : EvLt S tt σ G k k1 b) (hb : b = false) (q : ∀ G1 H1, At S k1 G1 H1 → NwL S G H G1 H1 → D.nx σ H1) : tIfS tt tu tNext D σ H := by
  subst hb
  exact h H a _ fun G1 H1 a1 n1 => q G1 H1 a1 n1
/-- a, b = x, y -/
theorem ql_pair {ta tb : TE} {R1 R2 : Da → Prop} (a : At S k G H) (h1 : EvL S K ta σ G k k1 R1) (h2 : EvL S K tb σ G k1 k2 R2) (q : ∀ v d w e G1 H1, R1 d → R2 e → At S k2 G1 H1 → NwL S G H G1 H1 → DR K G1 v d → DR K G1 w e → tz D ((σ.set i (some v)).set j (some w)) H1) :
    tSeq (tAsg (tTup (tCons ta (tCons tb tNil))) (gTup K 2 (gCons (gName i) (gCons (gName j) gNil)))) tz D σ H := h1 H a _ fun v d G1 H1 r1 a1 n1 dv => el_up h2 n1.a H1 a1 _ fun w e G2 H2 r2 a2 n2 dw =>
  ⟨by show 2 ≤ sizeLine; decide, fun p hp => by
    obtain ⟨a3, n3⟩ := a2.new (o := .tup [v, w]) hp fun _ z => nomatch z
    exact ⟨p, [v, w], rfl, SqT.of upd_same, rfl, v, [w], rfl, w, [], rfl, rfl, q v d w e _ _ r1 r2 a3 (nwl_in a n1 (nwl_in a1 n2 n3 a3) a3) ((dv.up n2.a).up n3.a) (dw.up n3.a)⟩⟩
theorem ql_par {ta tb : TE} {R1 R2 : Da → Prop} (a : At S k G H) (h1 : EvL S K ta σ G k k1 R1) (h2 : EvL S K tb σ G k1 k2 R2) (q : ∀ v d w e G1 H1, R1 d → R2 e → At S k2 G1 H1 → NwL S G H G1 H1 → DR K G1 v d → DR K G1 w e → tz D ((σ.set i (some v)).set j (some w)) H1) :
    tSeq (tPar i j (tCons ta (tCons tb tNil))) tz D σ H := h1 H a _ fun v d G1 H1 r1 a1 n1 dv => el_up h2 n1.a H1 a1 _ fun w e G2 H2 r2 a2 n2 dw =>
  ⟨v, w, rfl, q v d w e _ _ r1 r2 a2 (nwl_in a n1 n2 a2) (dv.up n2.a) dw⟩
end
end GL

set_option Elab.async false
set_option linter.all false
set_option maxRecDepth 100000
set_option maxHeartbeats 4000000
namespace GL
open PySem PySem.Spec PyProof.Rows L2
theorem vi_fdivWN {σ : L2.St} {H : Hp} {ta tb : TE} {i j : Int} (hc : CDivWN i j) (ha : Val ta σ H (.int i)) (hb : Val tb σ H (.int j)) : Val (tOp (rI CDivWN fun i j => .int (i.fdiv j)) ta tb) σ H (.int (i.fdiv j)) := val_op ha hb fun Q q => ⟨i, j, rfl, rfl, hc, q⟩
theorem draw_less {P : Program} {w : World} {K : PySem.W.Frag} {mg : Str → Option Value} {base : Heap} {k : Nat} {x : Str} {ps : List Str} {a b : Int} (h : b ≤ a) (c : CalO P w K mg base k x ps (spDraw a)) : CalO P w K mg base k x ps (spDraw b) := by
  obtain ⟨f, fd, F, r⟩ := c
  exact ⟨f, fd, F.imp fun vs H Q E ⟨P, c, ns, k, g, m, h1, h2, h3, h4, h5, h6, h7⟩ => ⟨P, c, ns, k, g, m, h1, h2, h3, h4, h5, by omega, h7⟩, r⟩
end GL
namespace K02
open PySem PySem.Spec PyProof.Rows L2 GL
section
variable {P : Program} {w : World} {K : PySem.W.Frag} {mg : Str → Option Value} {base : Heap} {CT : Addr}
theorem sc_law_pen : FnScope ["_law_script"] ["_law_script"] (defScope s__law_pen) := ⟨rfl, rfl, rfl, by decide +kernel, rfl, by decide +kernel, by decide +kernel⟩
theorem ok_law_pen {f : Addr} {fd : FuncData} (F : Fun K "_law_pen" "_law_pen" s__law_pen f fd) (T : TR P w K mg base CT) : FnOk P w K mg base CX0 1 f fd ["_law_script"] (spPen K) := by
  refine F.ok sc_law_pen (fun vs H Q E h => by obtain ⟨a, ns, rfl, _⟩ := h; rfl) fun cdv A outer s H vs Q E hr h => ?_
  obtain ⟨a, ns, rfl, ha, hl, k⟩ := h
  exact ⟨_, (pss_one (ps_ret (pe_lst (pa_cons (pe_callTy call_list_of (by rfl) T.n_list (by decide +kernel) (pa_cons (pe_slice sl_list (pv 0) po_none (po_some pe_int)) pa_nil)) (pa_cons pe_int (pa_cons pe_int pa_nil)))))), pen_new ha hl k⟩
theorem sc_law_draw : FnScope ["_law_pen_here", "_law_many", "_law_digit", "_law_at", "_law_cell", "_law_great", "_law_mixed"] ["_law_pen_here", "_law_many"] (defScope s__law_draw) := ⟨rfl, rfl, rfl, by decide +kernel, rfl, by decide +kernel, by decide +kernel⟩
theorem ok_law_draw {f : Addr} {fd : FuncData} (F : Fun K "_law_draw" "_law_draw" s__law_draw f fd) (T : TR P w K mg base CT) : FnOk P w K mg base CX0 1 f fd ["_law_pen_here", "_law_many"] (spDraw 9223372036854775808) := by
  refine F.ok sc_law_draw (fun vs H Q E h => by obtain ⟨P, c, ns, k, g, m, rfl, _⟩ := h; rfl) fun cdv A outer s H vs Q E hr h => ?_
  obtain ⟨P, c, ns, k, g, m, rfl, hp, hl, hk, hm, hm2, kk⟩ := h
  refine ⟨_, (pss_cons (ps_if (pt_cmpR op_gt (pe_ix ix_list (pv 0) pe_int (fun _ _ => rfl)) pe_int (nomark _)) (pss_cons (ps_set (i := 2) sc_law_draw.nd rfl (Or.inl rfl) (pe_op op_mod (pe_callTy call_int1 (by rfl) T.n_int (by decide +kernel) (pa_cons (pe_ix ix_list (pv 0) pe_int (fun _ _ => rfl)) pa_nil)) (pv 1)))
      (pss_cons (ps_asg (pe_op op_fdivWN (pe_callTy call_int1 (by rfl) T.n_int (by decide +kernel) (pa_cons (pe_ix ix_list (pv 0) pe_int (fun _ _ => rfl)) pa_nil)) (pv 1)) (pg_sub (pv 0) pe_int set_list))
      (pss_one (ps_ret (pv 2))))) pss_nil)
      (pss_cons (ps_set (i := 3) sc_law_draw.nd rfl (Or.inl rfl) (pe_ix ix_list (pv 0) pe_int (fun _ _ => rfl)))
      (pss_cons (ps_asg (pe_op op_add (pv 3) pe_int) (pg_sub (pv 0) pe_int set_list))
      (pss_cons (ps_set (i := 4) sc_law_draw.nd rfl (Or.inl rfl) (pe_op op_add (pe_op op_mul pe_int (pv 3)) pe_int))
      (pss_cons (ps_if (pt_neD (K := K) rfl hr.units (pe_ix ix_list (pv 0) pe_int (fun _ _ => rfl)) (pe_lst pa_nil)) (pss_one (ps_set (i := 4) sc_law_draw.nd rfl (Or.inl rfl) (pe_ix ix_list (pe_ix ix_list (pv 0) pe_int (fun _ _ => rfl)) (pe_op op_mod (pe_callTy call_int1 (by rfl) T.n_int (by decide +kernel) (pa_cons (pv 3) pa_nil)) (pe_callB call_len_seq (by rfl) T.n_len PySem.boot_len (pa_cons (pe_ix ix_list (pv 0) pe_int (fun _ _ => rfl)) pa_nil))) (fun _ _ => rfl)))) pss_nil)
      (pss_cons (ps_if (PW.pt (pw_and (pt_cmpR op_lt (pv 3) (pe_callB call_len_seq (by rfl) T.n_len PySem.boot_len (pa_cons (pe_ix ix_list (pv 0) pe_int (fun _ _ => rfl)) pa_nil)) (nomark _)) (pw_and1 (pt_cmpR op_ge (pe_callB call_abs (by rfl) T.n_abs (by decide +kernel) (pa_cons (pv 4) pa_nil)) (pe_op op_pow pe_int pe_int) (nomark _))))) (pss_cons (ps_set (i := 5) sc_law_draw.nd rfl (Or.inl rfl) (pe_op op_add (pe_op op_mul pe_int (pe_op op_sub (pe_callB call_abs (by rfl) T.n_abs (by decide +kernel) (pa_cons (pv 4) pa_nil)) (pe_op op_pow pe_int pe_int))) (pe_callTy call_int1 (by rfl) T.n_int (by decide +kernel) (pa_cons (pe_cmpR op_lt (pv 4) pe_int (nomark _)) pa_nil))))
      (pss_cons (ps_asg (pe_op op_fdivWN (pe_callTy call_int1 (by rfl) T.n_int (by decide +kernel) (pa_cons (pv 5) pa_nil)) (pv 1)) (pg_sub (pv 0) pe_int set_list))
      (pss_one (ps_ret (pe_op op_mod (pe_callTy call_int1 (by rfl) T.n_int (by decide +kernel) (pa_cons (pv 5) pa_nil)) (pv 1)))))) pss_nil)
      (pss_cons (ps_set (i := 6) sc_law_draw.nd rfl (Or.inl rfl) (pe_op op_mod (pe_callTy call_int1 (by rfl) T.n_int (by decide +kernel) (pa_cons (pe_op op_pow (pe_op op_add (pe_op op_add (pe_op op_mod (pe_callTy call_int1 (by rfl) T.n_int (by decide +kernel) (pa_cons (pv 4) pa_nil)) pe_int) (pe_op op_mul pe_int (pv 3))) pe_int) pe_int) pa_nil)) pe_int))
      (pss_cons (ps_set (i := 6) sc_law_draw.nd rfl (Or.inl rfl) (pe_op op_mod (pe_callTy call_int1 (by rfl) T.n_int (by decide +kernel) (pa_cons (pe_op op_pow (pe_op op_add (pe_op op_add (pe_op op_mul (pv 6) (pe_op op_add (pe_op op_mul pe_int (pv 3)) pe_int)) (pe_op op_mul (pe_op op_mul pe_int (pv 3)) (pv 3))) pe_int) pe_int) pa_nil)) pe_int))
      (pss_one (ps_ret (pe_op op_mod (pe_callTy call_int1 (by rfl) T.n_int (by decide +kernel) (pa_cons (pe_op op_fdivN (pv 6) pe_int) pa_nil)) (pv 1)))))))))))), ?_⟩
  have k0 := hp.k0
  have lg : m.natAbs.log2 < 9000 := by
    have h := PySem.Flt.log2_lt_of (k := 64) (by decide) (show m.natAbs < 2 ^ 64 by omega)
    omega
  by_cases hg : 0 < g
  · refine st_seq (st_yes ((an_gt (vi_ix (n := 2) (val_var rfl) val_c hp.hp rfl) val_c).to (by simp [hg])) ?_)
    refine st_seq (st_set (vi_mod hm (vi_int (vi_ix (n := 2) (val_var rfl) val_c hp.hp rfl)) (val_var rfl)) ?_)
    refine st_seq (st_pen (n := 2) (vi_fdivWN ⟨by omega, lg⟩ (vi_int (vi_ix (n := 2) (val_var rfl) val_c hp.hp rfl)) (val_var rfl)) (val_var rfl) val_c hp.hp (Nat.le_of_ble_eq_true rfl) ?_)
    refine st_ret (val_var rfl) ?_
    exact kk _ _ _ _ (Int.emod_nonneg _ (by omega)) (Int.emod_lt_of_pos _ hm) But.upd (hp.put hp.k0 (fdiv_nn hp.g0 hm)) (by omega)
  refine st_seq (st_no ((an_gt (vi_ix (n := 2) (val_var rfl) val_c hp.hp rfl) val_c).to (by simp [hg])) (st_next ?_))
  refine st_seq (st_set (vi_ix (n := 1) (val_var rfl) val_c hp.hp rfl) ?_)
  refine st_seq (st_pen (n := 1) (vi_add (val_var rfl) val_c) (val_var rfl) val_c hp.hp (Nat.le_of_ble_eq_true rfl) ?_)
  have hp1 : PenAt (upd H P (.lst [.ref c, .int (k + 1), .int g])) P c ns (k + 1) g := hp.put (by omega) hp.g0
  have b1 : But P H (upd H P (.lst [.ref c, .int (k + 1), .int g])) := But.upd
  refine st_seq (st_set (vi_add (vi_mul (.inl (by decide)) val_c (val_var rfl)) val_c) ?_)
  refine st_seq (pen_if hp1 hp.k0 fun z H2 s2 => ?_)
  have hp2 := hp1.same s2
  have b2 : But P H H2 := b1.trans (Same.but s2)
  have lt := an_lt (σ := [some (.ref P), some (.int m), none, some (.int k), some (.int z), none, none]) (val_var (i := 3) rfl) (vi_len (K := K) (vi_ix (K := K) (n := 0) (val_var (i := 0) rfl) (val_c (v := .int 0)) hp2.hp rfl) hp2.hc)
  have e18 : (10 : Int) ^ (18 : Int).toNat = 1000000000000000000 := by decide
  have ge := an_ge (σ := [some (.ref P), some (.int m), none, some (.int k), some (.int z), none, none]) (vi_abs (val_var (H := H2) (i := 4) rfl)) (vi_pow (i := 10) (j := 18) ⟨by decide, by decide, by decide⟩ val_c val_c)
  have tt := ans_and2 lt ge
  cases hb : (decide (k < ((ns.map V.int).length : Int)) && decide ((10 : Int) ^ (18 : Int).toNat ≤ if z < 0 then -z else z)) with
  | true =>
    refine st_seq (st_yes (tt.to hb) ?_)
    have hz : (10 : Int) ^ (18 : Int).toNat ≤ if z < 0 then -z else z := by
      rw [Bool.and_eq_true] at hb
      exact of_decide_eq_true hb.2
    rw [e18] at hz
    refine st_seq (st_set (vi_add (vi_mul (.inl (by decide)) val_c (vi_sub (vi_abs (val_var rfl)) (vi_pow ⟨by decide, by decide, by decide⟩ val_c val_c))) (vi_intb (vb_lt (val_var rfl) val_c))) ?_)
    refine st_seq (st_pen (n := 2) (vi_fdivWN ⟨by omega, lg⟩ (vi_int (val_var rfl)) (val_var rfl)) (val_var rfl) val_c hp2.hp (Nat.le_of_ble_eq_true rfl) ?_)
    refine st_ret (vi_mod hm (vi_int (val_var rfl)) (val_var rfl)) ?_
    refine kk _ _ _ _ (Int.emod_nonneg _ (by omega)) (Int.emod_lt_of_pos _ hm) (b2.trans But.upd) (hp2.put hp2.k0 (fdiv_nn ?_ hm)) (by omega)
    rw [e18]
    split <;> split <;> omega
  | false =>
    refine st_seq (st_no (tt.to hb) (st_next ?_))
    refine st_seq (st_set (vi_mod (by decide) (vi_int (vi_pow ⟨by decide, by decide, ?_⟩ (vi_add (vi_add (vi_mod (by decide) (vi_int (val_var rfl)) val_c) (vi_mul (.inl (by decide)) val_c (val_var rfl))) val_c) val_c)) val_c) ?_)
    · exact pow_b1 ⟨by decide, by decide⟩ ⟨hp.k0, by omega⟩ ⟨by decide, by decide⟩ ⟨by decide, by decide⟩
    generalize hx : ((z % 2147483579 + 49193 * k + 467) ^ (5 : Int).toNat) % 2147483629 = x
    have x0 : 0 ≤ x := by rw [← hx]; exact Int.emod_nonneg _ (by decide)
    have x1 : x < 2147483629 := by rw [← hx]; exact Int.emod_lt_of_pos _ (by decide)
    refine st_seq (st_set (vi_mod (by decide) (vi_int (vi_pow ⟨by decide, by decide, ?_⟩ (vi_add (vi_add (vi_mul (.inl ?_) (val_var rfl) (vi_add (vi_mul (.inl (by decide)) val_c (val_var rfl)) val_c)) (vi_mul (.inr ?_) (vi_mul (.inl (by decide)) val_c (val_var rfl)) (val_var rfl))) val_c) val_c)) val_c) ?_)
    · exact pow_b2 ⟨x0, by omega⟩ ⟨hp.k0, by omega⟩ ⟨by decide, by decide⟩ ⟨by decide, by decide⟩ ⟨by decide, by decide⟩
    · exact ⟨by omega, by omega⟩
    · exact ⟨by omega, by omega⟩
    refine st_ret (vi_mod hm (vi_int (vi_fdivN ⟨by decide, by decide⟩ (val_var rfl) val_c)) (val_var rfl)) ?_
    exact kk _ _ _ _ (Int.emod_nonneg _ (by omega)) (Int.emod_lt_of_pos _ hm) b2 hp2 (by omega)
theorem sc_law_pick : FnScope ["_law_pen_here", "_law_some"] ["_law_pen_here", "_law_some"] (defScope s__law_pick) := ⟨rfl, rfl, rfl, by decide +kernel, rfl, by decide +kernel, by decide +kernel⟩
theorem ok_law_pick {f : Addr} {fd : FuncData} (F : Fun K "_law_pick" "_law_pick" s__law_pick f fd) (T : TR P w K mg base CT) (F_law_draw : CalO P w K mg base 1 "_law_draw" ["_law_pen_here", "_law_many"] (spDraw 1073741824)) : FnOk P w K mg base CX0 2 f fd ["_law_pen_here", "_law_some"] (spPick K) := by
  refine F.ok sc_law_pick (fun vs H Q E h => by obtain ⟨P, c, ns, k, g, w, G, ds, rfl, _⟩ := h; rfl) fun cdv A outer s H vs Q E hr h => ?_
  obtain ⟨P, c, ns, k, g, w', G, ds, rfl, hp, hl, hk, hs, gP, dr, ne, hz, kk⟩ := h
  exact ⟨_, (pss_one (ps_ret (pe_ix ix_list (pv 1) (pe_calO F_law_draw (hr.mono (by decide)) rfl (pa_cons (pv 0) (pa_cons (pe_callB call_len_seq (by rfl) T.n_len PySem.boot_len (pa_cons (pv 1) pa_nil)) pa_nil))) (fun _ _ => rfl)))), pick_go hp hl hk hs gP dr ne hz kk⟩
end
end K02
set_option Elab.async false
set_option linter.all false
set_option maxRecDepth 100000
set_option maxHeartbeats 2000000
namespace GL
open PySem PySem.Spec PyProof.Rows L2
/-! more of what an expression gives as data: -i, i ** j, text * int, {k: v} -/
def rRepS : R2 := fun x y H Q => ∃ (z : Str) (k : Int), x = .str z ∧ y = .int k ∧ z.length ≤ 16 ∧ -(2 ^ 63 : Int) ≤ k ∧ k ≤ 1000 ∧ Q (.str (Txt.mul z k)) H
theorem op_repS {X : Cx} : OpR X (binaryOp .Mult) rRepS := by
  intro pins s σ H x y v u Q I rx ry h
  obtain ⟨z, k, rfl, rfl, hz, h1, h2, q⟩ := h
  obtain ⟨t, rfl⟩ := rx
  obtain ⟨t2, rfl⟩ := ry
  exact SB.mul (mulOk_of 16 1000 hz (by omega) h1 (by decide) (by decide)) fun t' k' => ⟨.str _, H, I.tok k', ⟨t', rfl⟩, q⟩
section
variable {K : PySem.W.Frag} {σ : L2.St} {G : Hp} {te ta tb tk : TE} {d : Da} {i j : Int} {z : Str}
theorem ed_neg (h : Evd K te σ G (.int i)) : Evd K (tUn (rU fun i => .int (-i)) te) σ G (.int (-i)) := fun H e Q q => h H e _ fun v G1 H1 n1 dv => by
  cases dv
  exact ⟨i, rfl, q _ G1 H1 n1 (.int _)⟩
theorem ed_pow (hc : CPow i j) (ha : Evd K ta σ G (.int i)) (hb : Evd K tb σ G (.int j)) : Evd K (tOp (rI CPow fun i j => .int (i ^ j.toNat)) ta tb) σ G (.int (i ^ j.toNat)) :=
  ed_two ha (fun _ s => hb.up s) fun x y G' H' _ e dx dy Q q => by
    cases dx; cases dy
    exact ⟨i, j, rfl, rfl, hc, q _ G' H' (Nw.refl e) (.int _)⟩
theorem ed_repS (hz : z.length ≤ 16) (h1 : -(2 ^ 63 : Int) ≤ i) (h2 : i ≤ 1000) (ha : Evd K ta σ G (.str z)) (hb : Evd K tb σ G (.int i)) : Evd K (tOp rRepS ta tb) σ G (.str (Txt.mul z i)) :=
  ed_two ha (fun _ s => hb.up s) fun x y G' H' _ e dx dy Q q => by
    cases dx; cases dy
    exact ⟨z, i, rfl, rfl, hz, h1, h2, q _ G' H' (Nw.refl e) (.str _)⟩
theorem ed_disp1 (hk : Evd K tk σ G (.str z)) (hv : Evd K te σ G d) : Evd K (tDisp [(tk, te)]) σ G (.dct [.inr z] [d]) := fun H e Q q p hp => by
  have gp : G p = none := e.free hp
  have s1 : Same G (upd H p (.dK [])) := same_upd e gp
  refine hk _ s1 _ fun x G2 H2 n2 dx => hv.up n2.a H2 n2.b _ fun y G3 H3 n3 dy => ?_
  cases dx
  have h2p : H2 p = some (.dK []) := n2.s _ _ upd_same
  have h3p : H3 p = some (.dK []) := n3.s _ _ h2p
  have g2 : G2 p = none := n2.n _ _ upd_same gp
  have g3 : G3 p = none := n3.n _ _ h2p g2
  have up : Same G3 (upd G3 p (.dK [(Sum.inr z, y)])) := same_upd (Same.refl _) g3
  refine ⟨h3p, [(Sum.inr z, y)], rfl, by show 1 ≤ 15; decide, q _ (upd G3 p (.dK [(Sum.inr z, y)])) _ ⟨fun b o hb => ?_, (n2.a.trans n3.a).trans up, fun b o hb => ?_, fun b o hb hg => ?_⟩ (.dct upd_same rfl (.cons (dy.up up) .nil))⟩
  · have hne : b ≠ p := ne_of_none hb hp
    rw [upd_ne hne]
    exact n3.s _ _ (n2.s _ _ (by rw [upd_ne hne]; exact hb))
  · by_cases hne : b = p
    · subst hne; rw [upd_same] at hb ⊢; exact hb
    · rw [upd_ne hne] at hb ⊢; exact n3.b _ _ hb
  · have hne : b ≠ p := ne_of_none hb hp
    rw [upd_ne hne]
    have hb1 : upd H p (.dK []) b = some o := by rw [upd_ne hne]; exact hb
    exact n3.n _ _ (n2.s _ _ hb1) (n2.n _ _ hb1 hg)
end
/-- the promise of a drawn value: one of a written menu, or a small int -/
def spVal (K : PySem.W.Frag) (Ok : Da → Prop) : Sp := fun vs H Q _ => ∃ (P c : Addr) (ns : List Int) (k g : Int) (G : Hp), vs = [.ref P] ∧ PenAt H P c ns k g ∧ ns.length ≤ 63 ∧ k ≤ 9998 ∧ Same G H ∧ G P = none ∧
  ∀ v d G' H' k' g', Ok d → NwP P G H G' H' → PenAt H' P c ns k' g' → k' ≤ k + 2 → DR K G' v d → Q v H'
/-- return pick(pen, some + [draw(pen, a ** b)]) -/
theorem val_go {K : PySem.W.Frag} {Ok : Da → Prop} {P c : Addr} {ns : List Int} {k g : Int} {G H G1 H1 : Hp} {v1 : V} {ds : List Da} {Q : VK} {E E2 : XK} {D : Ends} {tm : TE} {σ : L2.St} {m : Int} (h0 : σ[0]? = some (some (.ref P))) (h1 : σ[1]? = some (some v1))
    (hp : PenAt H P c ns k g) (hl : ns.length ≤ 63) (hk : k ≤ 9998) (hs : Same G H) (gP : G P = none)
    (kk : ∀ v d G' H' k' g', Ok d → NwP P G H G' H' → PenAt H' P c ns k' g' → k' ≤ k + 2 → DR K G' v d → Q v H') (n1 : Nw G H G1 H1) (dr : DR K G1 v1 (.lst ds)) (hz : ds.length ≤ 900) (hm : ∀ H', Val tm σ H' (.int m)) (m0 : 0 < m ∧ m < 1073741824)
    (ok : ∀ d ∈ ds, Ok d) (okI : ∀ r : Int, 0 ≤ r → r < m → Ok (.int r)) (hD : D.rt = Q := by rfl) :
    tRet (tCall (spPick K) [] E (tCons (tVar 0) (tCons (tOp rCat (tVar 1) (tLst (tCons (tCall (spDraw 1073741824) [] E2 (tCons (tVar 0) (tCons tm tNil))) tNil))) tNil))) D σ H1 := by
  have hp1 := hp.same n1.s
  have g1P : G1 P = none := n1.n _ _ hp.hp gP
  cases dr with
  | @lst a xs _ e1 e2 =>
    refine ⟨_, h0, _, h1, _, h0, hm H1 _ ⟨P, c, ns, k, g, m, rfl, hp1, hl, by omega, m0.1, m0.2, fun r H2 k2 g2 r0 r1 bt hp2 hk2 => ⟨by show 1 ≤ sizeLine; decide, fun p hpn => ?_⟩⟩⟩
    have s2 : Same G1 H2 := bt.same n1.b g1P
    have s3 : Same H2 (upd H2 p (.lst [.int r])) := same_upd (Same.refl _) hpn
    refine ⟨a, p, xs, [.int r], rfl, rfl, s3 _ _ (s2 _ _ e1), upd_same, by rw [e2.len]; exact Nat.le_trans (show ds.length + 1 ≤ 1000 by omega) (by decide), fun q hq => ?_⟩
    have hq2 : H2 q = none := s3.free hq
    have gq : G1 q = none := s2.free hq2
    have hqP : P ≠ q := ne_of_none hp2.hp hq2
    have up : Same G1 (upd G1 q (.lst (xs ++ [.int r]))) := same_upd (Same.refl _) gq
    have s4 : Same H2 (upd (upd H2 p (.lst [.int r])) q (.lst (xs ++ [.int r]))) := same_upd s3 hq2
    have sG : Same (upd G1 q (.lst (xs ++ [.int r]))) (upd (upd H2 p (.lst [.int r])) q (.lst (xs ++ [.int r]))) := fun b o hb => by
      by_cases hne : b = q
      · subst hne; rw [upd_same] at hb ⊢; exact hb
      · rw [upd_ne hne] at hb ⊢; exact s3 _ _ (s2 _ _ hb)
    have g3P : upd G1 q (.lst (xs ++ [.int r])) P = none := by rw [upd_ne hqP]; exact g1P
    refine ⟨P, c, ns, k2, g2, .ref q, upd G1 q (.lst (xs ++ [.int r])), ds ++ [.int r], rfl, hp2.same s4, hl, by omega, sG, g3P, .lst upd_same (DRs.app (e2.up up) (.cons (.int r) .nil)), by simp, by rw [List.length_append]; show ds.length + 1 ≤ 1000; omega, fun v d H5 k5 g5 hd bt5 hp5 hk5 dv => ?_⟩
    rw [hD]
    have all : But P H H5 := ((Same.but n1.s).trans (bt.trans (Same.but s4))).trans bt5
    refine kk v d _ H5 k5 g5 ?_ ⟨all, n1.a.trans up, bt5.same sG g3P, fun b o hb hg => ?_⟩ hp5 (by omega) dv
    · rcases List.mem_append.mp hd with h | h
      · exact ok d h
      · rw [List.mem_singleton] at h
        subst h
        exact okI r r0 r1
    · have hne : b ≠ q := by
        by_cases hb2 : b = P
        · rw [hb2]; exact hqP
        · exact ne_of_none (bt _ _ hb2 (n1.s _ _ hb)) hq2
      rw [upd_ne hne]
      exact n1.n _ _ hb hg
end GL

set_option Elab.async false
set_option linter.all false
set_option maxRecDepth 100000
set_option maxHeartbeats 4000000
namespace GL
open PySem PySem.Spec PyProof.Rows L2
section
variable {S : LS} {K : PySem.W.Frag} {σ : L2.St} {k k1 k2 : Int} {G H : Hp} {tt : TT} {ta tb te : TE} {tu tz : TS} {D : Ends} {R : Int → Prop} {x i : Int} {n : Nat} {z : Str} {c : Nat} {b : Bool}
theorem ql_ifB (a : At S k G H) (h : EvLb S tt σ G k k1) (h1 : ∀ G1 H1, At S k1 G1 H1 → NwL S G H G1 H1 → tu { D with nx := tz D } σ H1) (h2 : ∀ G1 H1, At S k1 G1 H1 → NwL S G H G1 H1 → tz D σ H1) : tSeq (tIfS tt tu tNext) tz D σ H := h H a _ fun b G1 H1 a1 n1 => by
  cases b with
  | true => exact h1 G1 H1 a1 n1
  | false => exact h2 G1 H1 a1 n1
theorem el_addE (ha : Evd K ta σ G (.int x)) (hb : EvL S K tb σ G k k1 fun d => ∃ r : Int, d = .int r ∧ R r) : EvL S K (tOp (rI0 fun i j => .int (i + j)) ta tb) σ G k k1 (fun d => ∃ r : Int, d = .int (x + r) ∧ R r) := fun H a Q q => (el_d ha : EvL S K _ σ G k k (· = .int x)) H a _ fun v d G1 H1 e a1 n1 dv => by
  subst e
  cases dv
  refine el_up hb n1.a H1 a1 _ fun w e G2 H2 ⟨r, e, hr⟩ a2 n2 dw => ?_
  subst e
  cases dw
  exact ⟨x, r, rfl, rfl, q _ _ G2 H2 ⟨r, rfl, hr⟩ a2 (nwl_in a n1 n2 a2) (.int _)⟩
theorem an_ne {j : Int} (ha : Val ta σ H (.int i)) (hb : Val tb σ H (.int j)) : Ans (tTest (tOp rNe ta tb)) σ H (!decide (i = j)) := ans_cmp ha hb fun Q q => by
  have e : (!decide (V.int i = V.int j)) = (!decide (i = j)) := by simp
  exact ⟨rfl, by rw [e]; exact q⟩
theorem ed_item {k : Nat} (ha : Evd K ta σ G (.str z)) (hb : Evd K tb σ G (.int (k : Int))) (hz : z.length ≤ 1000) (hc : (z.cps.toList)[k]? = some c) : Evd K (tOp (fun x y H Q => ∃ z i c, x = .str z ∧ y = .int i ∧ 0 ≤ i ∧ i < 2 ^ 63 ∧ i < z.length ∧ z.cps[i.toNat]? = some c ∧ Q (.str ⟨#[c]⟩) H) ta tb) σ G (.str ⟨#[c]⟩) :=
  ed_two ha (fun _ s => hb.up s) fun v w G' H' _ e dv dw Q q => by
    cases dv; cases dw
    have hl : k < z.length := by
      have := (List.getElem?_eq_some_iff.mp hc).1
      simpa [Str.length] using this
    exact ⟨z, (k : Int), c, rfl, rfl, by omega, by omega, by omega, by rw [Int.toNat_natCast, ← Array.getElem?_toList]; exact hc, q _ G' H' (Nw.refl e) (.str _)⟩
theorem x_nilSN {zs : List Str} (ha : Evd K ta σ G (.lst (zs.map Da.str))) (hb : Evd K tb σ G (.lst [])) : Evd K (tOp (rNeP K) ta tb) σ G (.bl (!zs.isEmpty)) :=
  x_neP (p := .list (zs.map PyData.str)) (q := .list []) ha hb (by simp only [Da.toP, toPs_strs, Option.map_some]) rfl (by simp only [PyData.hasDict, nodict_strs]) rfl (by simp only [PyData.plain, plain_strs]) rfl (by have := depth_strs zs; simp only [PyData.depth]; omega) (by
    cases zs with
    | nil => decide
    | cons z zs => first | rfl | simp [PyData.eqv, PyData.eqvAll])
end
section
variable {K : PySem.W.Frag} {σ : L2.St} {G H : Hp} {te ta tb : TE} {d1 d2 : Da} {i j : Nat} {tz : TS} {D : Ends} {a b : Int}
theorem ed_absI (h : Evd K te σ G (.int a)) : Evd K (tCB (fun xs H Q => ∃ i, xs = [.int i] ∧ Q (.int (if i < 0 then -i else i)) H) (tCons te tNil)) σ G (.int ((a.natAbs : Nat) : Int)) := fun H e Q q => h H e _ fun v G1 H1 n1 dv => by
  cases dv
  refine ⟨a, rfl, ?_⟩
  have z : (if a < 0 then -a else a) = ((a.natAbs : Nat) : Int) := by split <;> omega
  rw [z]
  exact q _ G1 H1 n1 (.int _)
theorem qd_par (s : Same G H) (h : Evd K ta σ G d1) (h2 : Evd K tb σ G d2) (q : ∀ v w G1 H1, Nw G H G1 H1 → DR K G1 v d1 → DR K G1 w d2 → tz D ((σ.set i (some v)).set j (some w)) H1) : tSeq (tPar i j (tCons ta (tCons tb tNil))) tz D σ H := h H s _ fun v G1 H1 n1 dv => (h2.up n1.a) H1 n1.b _ fun w G2 H2 n2 dw => ⟨v, w, rfl, q v w G2 H2 (n1.trans n2) (dv.up n2.a) dw⟩
theorem qd_parE (s : Same G H) (h : Evd K ta σ G d1) (h2 : Evd K tb σ G d2) (q : ∀ v w G1 H1, Nw G H G1 H1 → DR K G1 v d1 → DR K G1 w d2 → D.nx ((σ.set i (some v)).set j (some w)) H1) : tPar i j (tCons ta (tCons tb tNil)) D σ H := h H s _ fun v G1 H1 n1 dv => (h2.up n1.a) H1 n1.b _ fun w G2 H2 n2 dw => ⟨v, w, rfl, q v w G2 H2 (n1.trans n2) (dv.up n2.a) dw⟩
end
end GL
namespace K02
open PySem PySem.Spec PyProof.Rows L2 GL
def spNum (K : PySem.W.Frag) : Sp := fun vs H Q _ => ∃ (S : LS) (k : Int) (G : Hp), vs = [.ref S.PA] ∧ At S k G H ∧ k ≤ 9000 ∧ ∀ (i : Int) G1 H1, i.natAbs < 10 ^ 32 → At S (k + 5) G1 H1 → NwL S G H G1 H1 → Q (.int i) H1
def Rgcd (ds : List Da) (d : Da) : Prop := ∃ a b : Int, ds = [.int a, .int b] ∧ d = .int (gcdI a b)
section
variable {P : Program} {w : World} {K : PySem.W.Frag} {mg : Str → Option Value} {base : Heap} {C : Addr}
theorem sc_law_number : FnScope ["_law_pen_here", "_law_found"] ["_law_pen_here"] (defScope s__law_number) := ⟨rfl, rfl, rfl, by decide +kernel, rfl, by decide +kernel, by decide +kernel⟩
theorem ok_number {f : Addr} {fd : FuncData} (F : Fun K "_law_number" "_law_number" s__law_number f fd) (T : TR P w K mg base C) (c_draw : CalO P w K mg base 1 "_law_draw" ["_law_pen_here", "_law_many"] (spDraw 9223372036854775808)) (c_pick : CalO P w K mg base 2 "_law_pick" ["_law_pen_here", "_law_some"] (spPick K)) : FnOk P w K mg base CX0 3 f fd ["_law_pen_here"] (spNum K) := by
  refine F.ok sc_law_number (fun vs H Q E h => by obtain ⟨S, k, G, rfl, _⟩ := h; rfl) fun cdv A outer s H vs Q E hr h => ?_
  obtain ⟨S, k, G, rfl, at0, hk, kk⟩ := h
  refine ⟨_, (pss_cons (ps_set (i := 1) sc_law_number.nd rfl (Or.inl rfl) (pe_calO c_draw (hr.mono (by decide)) rfl (pa_cons (pv 0) (pa_cons (pe_calO c_pick (hr.mono (by decide)) rfl (pa_cons (pv 0) (pa_cons (pe_lst (pa_cons pe_int (pa_cons pe_int (pa_cons pe_int (pa_cons (pe_op op_pow pe_int pe_int) (pa_cons (pe_op op_pow pe_int pe_int) pa_nil)))))) pa_nil))) pa_nil))))
      (pss_cons (ps_if (pt_cmpR op_eq (pe_calO c_draw (hr.mono (by decide)) rfl (pa_cons (pv 0) (pa_cons pe_int pa_nil))) pe_int (nomark _)) (pss_one (ps_set (i := 1) sc_law_number.nd rfl (Or.inl rfl) (pe_op op_add (pe_op op_mul (pv 1) (pe_op op_pow pe_int pe_int)) (pe_calO c_draw (hr.mono (by decide)) rfl (pa_cons (pv 0) (pa_cons (pe_op op_pow pe_int pe_int) pa_nil)))))) pss_nil)
      (pss_one (ps_ret (pe_ifExp (pt_cmpR op_eq (pe_calO c_draw (hr.mono (by decide)) rfl (pa_cons (pv 0) (pa_cons pe_int pa_nil))) pe_int (nomark _)) (pv 1) (pe_op op_sub pe_int (pv 1))))))), ?_⟩
  have p18 : (10 : Int) ^ (18 : Int).toNat = 1000000000000000000 := by decide
  have p13 : (10 : Int) ^ (13 : Int).toNat = 10000000000000 := by decide
  have many : ∀ {ds : List Da} {tA : L2.TA} {σ : L2.St} {G : Hp} {k : Int}, σ[0]? = some (some (.ref S.PA)) → Evd K (tLst tA) σ G (.lst ds) → ds ≠ [] → ds.length ≤ 1000 → (∀ d ∈ ds, ∃ m : Int, d = .int m ∧ 0 < m ∧ m < 9223372036854775808 ∧ m ≤ 1000000000000000000) → k ≤ 9990 →
      EvL S K (tCall (spDraw 9223372036854775808) [] E0 (tCons (tVar 0) (tCons (tCall (spPick K) [] E0 (tCons (tVar 0) (tCons (tLst tA) tNil))) tNil))) σ G k (k + 2) (fun d => ∃ r m : Int, d = .int r ∧ 0 ≤ r ∧ r < m ∧ m ≤ 1000000000000000000) := fun {ds tA σ G k} h0 h ne hl hm hk =>
    el_mono (el_drawL (R' := fun m => m ≤ 1000000000000000000) h0 (el_pick h0 (el_mono (el_d h) (fun d e => ⟨ds, e, ne, hl, hm⟩) (Int.le_refl _)) (by omega)) (by omega)) (fun d e => e) (by omega)
  refine ql_asgL at0 (many rfl (x_lst (xs_cons xc_int (xs_cons xc_int (xs_cons xc_int (xs_cons (ed_pow ⟨by decide, by decide, by decide⟩ xc_int xc_int) (xs_cons (ed_pow ⟨by decide, by decide, by decide⟩ xc_int xc_int) es_nil)))))) (List.cons_ne_nil _ _) (Nat.le_of_ble_eq_true rfl) (fun d hd => by
    simp only [List.mem_cons, List.not_mem_nil, or_false] at hd
    rcases hd with rfl | rfl | rfl | rfl | rfl
    all_goals exact ⟨_, rfl, by decide, by decide, by decide⟩) (by omega)) fun v1 d1 G1 H1 ⟨a, m, e1, a0, a1, a2⟩ at1 n1 dv1 => ?_
  subst e1
  cases dv1
  have fin : ∀ {i : Int} {G2 H2 : Hp}, i.natAbs < 10 ^ 32 → At S (k + 4) G2 H2 → NwL S G H G2 H2 → tRet (tIf (tTest (tOp rEq (tCall (spDraw 9223372036854775808) [] E0 (tCons (tVar 0) (tCons (tC (.int 2)) tNil))) (tC (.int 0)))) (tVar 1) (tOp (rI0 fun i j => .int (i - j)) (tC (.int 0)) (tVar 1))) { nx := fun _ H' => Q .non H', rt := Q } [some (.ref S.PA), some (.int i)] H2 := fun {i G2 H2} hi at2 n2 => by
    refine ql_retL (K := K) (k1 := k + 5) (R := fun d => ∃ x : Int, d = .int x ∧ x.natAbs < 10 ^ 32) at2 (el_mono (el_ifB (elb_eq (K := K) (el_mono (el_draw rfl ⟨by decide, by decide⟩ (by omega)) (fun d ⟨r, e, _⟩ => ⟨r, e⟩) (Int.le_refl _))) (ela_d (ed_var rfl (.int i)) ⟨i, rfl, hi⟩) (ela_d (ed_subI xc_int (ed_var rfl (.int i))) ⟨0 - i, rfl, by omega⟩)) (fun d e => e) (by omega)) fun v d G3 H3 ⟨x, e, hx⟩ at3 n3 dv => ?_
    subst e
    cases dv
    exact kk x G3 H3 hx at3 (nwl_in at0 n2 n3 at3)
  have b32 : (10 : Nat) ^ 32 = 100000000000000000000000000000000 := by decide
  refine ql_ifB at1 (elb_eq (K := K) (el_mono (el_draw rfl ⟨by decide, by decide⟩ (by omega)) (fun d ⟨r, e, _⟩ => ⟨r, e⟩) (Int.le_refl _))) (fun G2 H2 at2 n2 => ?_) fun G2 H2 at2 n2 => ?_
  · refine (el_addE (K := K) (R := fun r => 0 ≤ r ∧ r < 1000000) (ed_mulI (i := a) (j := 10000000000000) (.inl ⟨by omega, by omega⟩) (ed_var rfl (.int a)) (GL.ed_is (ed_pow (i := 10) (j := 13) ⟨by decide, by decide, by decide⟩ xc_int xc_int) (congrArg Da.int p13))) (el_mono (el_drawL (R' := fun m => m ≤ 1000000) (i := 0) rfl (ela_d (ed_pow (i := 10) (j := 6) ⟨by decide, by decide, by decide⟩ xc_int xc_int) ⟨_, rfl, by decide, by decide, by decide⟩) (by omega)) (fun d ⟨r, m, e, r0, r1, r2⟩ => ⟨r, e, r0, by omega⟩) (Int.le_refl _))) H2 at2 _ fun v d G3 H3 ⟨r, e, r0, r1⟩ at3 n3 dv => ?_
    subst e
    cases dv
    exact fin (by rw [b32]; omega) (at3.up (by omega)) (nwl_in at0 n1 (nwl_in at1 n2 n3 at3) at3)
  · exact fin (by rw [b32]; omega) (at2.up (by omega)) (nwl_in at0 n1 n2 at2)
theorem sc_law_divisor : FnScope ["_law_one", "_law_other", "_law_high", "_law_low"] ["_law_one", "_law_other"] (defScope s__law_divisor) := ⟨rfl, rfl, rfl, by decide +kernel, rfl, by decide +kernel, by decide +kernel⟩
theorem ok_divisor {f : Addr} {fd : FuncData} (F : Fun K "_law_divisor" "_law_divisor" s__law_divisor f fd) (T : TR P w K mg base C) : FnOk P w K mg base CX0 1 f fd ["_law_one", "_law_other"] (Pr K 2 Rgcd) := by
  refine F.ok sc_law_divisor Pr.len fun cdv A outer s H vs Q E hr h => ?_
  obtain ⟨G, ds, d, hs, hl, hd, ⟨a, b, rfl, rfl⟩, k⟩ := h
  obtain ⟨v, u, rfl, dv, du⟩ := two_of hd
  cases dv
  cases du
  refine ⟨_, (pss_cons (ps_par (i := 2) (j := 3) (by rfl) sc_law_divisor.nd rfl rfl (by decide) rfl rfl (pa_cons (pe_callB call_abs (by rfl) T.n_abs (by decide +kernel) (pa_cons (pv 0) pa_nil)) (pa_cons (pe_callB call_abs (by rfl) T.n_abs (by decide +kernel) (pa_cons (pv 1) pa_nil)) pa_nil)) (by rfl))
    (pss_cons (ps_while PassesOwn.never (pt_cmpR op_ne (pv 3) pe_int (nomark _))
      (pss_one (ps_par (i := 2) (j := 3) (by rfl) sc_law_divisor.nd rfl rfl (by decide) rfl rfl (pa_cons (pv 3) (pa_cons (pe_op op_mod (pe_callTy call_int1 (by rfl) T.n_int (by decide +kernel) (pa_cons (pv 2) pa_nil)) (pv 3)) pa_nil)) (by rfl))))
    (pss_one (ps_ret (pv 2))))), ?_⟩
  refine qd_par (K := K) hs (ed_absI (ed_var rfl (.int a))) (ed_absI (ed_var rfl (.int b))) fun v w G1 H1 n1 d1 d2 => ?_
  cases d1
  cases d2
  refine ⟨fun m σ' H' => H' = H1 ∧ ∃ x : Nat, σ' = [some (.int a), some (.int b), some (.int (x : Int)), some (.int (m : Int))] ∧ Nat.gcd x m = Nat.gcd a.natAbs b.natAbs, ⟨b.natAbs, rfl, a.natAbs, rfl, rfl⟩, fun m σ' H' ⟨e, x, e2, hg⟩ => ?_⟩
  subst e
  subst e2
  refine an_ne (val_var rfl) val_c _ ?_
  by_cases hm : m = 0
  · subst hm
    rw [if_neg (by simp)]
    refine ⟨_, rfl, ?_⟩
    have e : gcdI a b = (x : Int) := by
      show ((Nat.gcd a.natAbs b.natAbs : Nat) : Int) = _
      rw [← hg, Nat.gcd_zero_right]
    refine k _ G1 _ n1 ?_
    rw [e]
    exact .int _
  · rw [if_pos (by simp; omega)]
    refine ⟨fun σ' H'' => H'' = H' ∧ ∃ y : Nat, σ' = [some (.int a), some (.int b), some (.int (m : Int)), some (.int (y : Int))] ∧ y < m ∧ Nat.gcd m y = Nat.gcd a.natAbs b.natAbs, fun σ' H'' ⟨e1, y, e2, e3, e4⟩ => ⟨y, e3, e1, m, e2, e4⟩, ?_⟩
    refine ⟨_, rfl, ?_⟩
    refine (vi_mod (i := (x : Int)) (j := (m : Int)) (by omega) (vi_int (val_var (v := .int (x : Int)) rfl)) (val_var (v := .int (m : Int)) rfl)) _ ?_
    refine ⟨_, _, rfl, rfl, x % m, ?_, Nat.mod_lt _ (by omega), ?_⟩
    · rw [← Int.natCast_emod]; rfl
    · rw [← hg, Nat.gcd_comm x m, Nat.gcd_rec m x, Nat.gcd_comm]
end
end K02

set_option Elab.async false
set_option linter.all false
set_option maxRecDepth 100000
set_option maxHeartbeats 4000000
namespace K02
open PySem PySem.Spec PyProof.Rows L2 GL
/-- a number from 0 on, as the law tells it -/
def isCt (x : Str) : Bool := isDg x && (decide (x = "0") || !decide ((⟨#[(codes x).headD 0]⟩ : Str) = "0"))
def headX (x : Str) : Str := (Txt.partition x "/").1
def tailX (x : Str) : Str := (Txt.partition x "/").2.2
def bareX (x : Str) : Str := if Txt.slice (headX x) none (some 1) = ("-" : Str) then Txt.slice (headX x) (some 1) none else headX x
def isTx (x : Str) : Bool := if (isCt (bareX x) && !decide (headX x = "-0")) = true then if (Txt.partition x "/").2.1 = ("" : Str) then true else if (isCt (tailX x) && (!decide ((dVal (codes (tailX x)) : Int) < 2) && !decide (bareX x = "0"))) = true then decide (gcdI (dVal (codes (bareX x))) (dVal (codes (tailX x))) = 1) else false else false
def Rct (ds : List Da) (d : Da) : Prop := ∃ x : Str, ds = [.str x] ∧ x.length ≤ 600 ∧ d = .bl (isCt x)
def Rtx (ds : List Da) (d : Da) : Prop := ∃ x : Str, ds = [.str x] ∧ x.length ≤ 600 ∧ d = .bl (isTx x)
theorem odd_list (x : Str) : (((x.cps.toList.map fun c => Da.str (sgn c)).filter fun d => !decide (sgOf d ∈ DIGL.cps.toList)).map id) = ((x.cps.toList.filter fun c => !decide (c ∈ DIGL.cps.toList)).map sgn).map Da.str := by
  rw [List.map_id, List.filter_map, List.map_map]
  rfl
theorem filter_nil (p : Nat → Bool) : ∀ l : List Nat, (l.filter fun c => !p c).isEmpty = l.all p
  | [] => rfl
  | c :: l => by
    have ih := filter_nil p l
    rw [List.filter_cons, List.all_cons]
    cases p c with
    | true => simpa using ih
    | false => rfl
theorem odd_nil (x : Str) : ((x.cps.toList.filter fun c => !decide (c ∈ DIGL.cps.toList)).map sgn).isEmpty = (x.cps.toList.map fun c => decide (c ∈ DIGL.cps.toList)).all id := by
  rw [List.isEmpty_map, List.all_map]
  exact filter_nil (fun c => decide (c ∈ DIGL.cps.toList)) _
theorem empty_iff (x : Str) : decide (x = ("" : Str)) = !decide ((0 : Int) < (x.length : Int)) := by
  have h := codes_len x
  by_cases e : x = ""
  · subst e; decide +kernel
  · have : codes x ≠ [] := fun z => e (str_ext (by rw [z]; decide +kernel))
    have := List.length_pos_iff.mpr this
    rw [decide_eq_false e, decide_eq_true (by omega)]
    rfl
theorem len_le_slice (z : Str) (lo hi : Option Int) : (Txt.slice z lo hi).length ≤ z.length := by
  rw [← C8.cutS_slice]
  exact cutS_length z lo hi
theorem ct_dg {x : Str} (h : isCt x = true) : isDg x = true := by
  unfold isCt at h
  rw [Bool.and_eq_true] at h
  exact h.1
section
variable {P : Program} {w : World} {K : PySem.W.Frag} {mg : Str → Option Value} {base : Heap} {C : Addr}
theorem sc_law_is_count : FnScope ["_law_word", "_law_sign"] ["_law_word"] (defScope s__law_is_count) := ⟨rfl, rfl, rfl, by decide +kernel, rfl, by decide +kernel, by decide +kernel⟩
theorem ok_is_count {f : Addr} {fd : FuncData} (F : Fun K "_law_is_count" "_law_is_count" s__law_is_count f fd) (T : TR P w K mg base C) : FnOk P w K mg base CX0 1 f fd ["_law_word"] (Pr K 1 Rct) := by
  refine F.ok sc_law_is_count Pr.len fun cdv A outer s H vs Q E hr h => ?_
  obtain ⟨G, ds, d, hs, hl, hd, ⟨x, rfl, hx, rfl⟩, k⟩ := h
  obtain ⟨v, rfl, dv⟩ := one_of hd
  refine ⟨_, (pss_cons (ps_if (PW.pt (pw_or (pt_cmpR op_eq (pv 0) pe_str (nomark _)) (pw_or1 (pt_neP (K := K) rfl hr.units (pe_lc (own := [("_law_sign", 1)]) (g := (gName 1)) rfl sc_law_is_count.nd (pi_str (pv 0)) (blkOk_by (N := ["_law_word", "_law_sign"]) (sc := defScope s__law_is_count) (by decide +kernel)) (fun _ _ _ _ _ => (pg_name (i := 1) sc_law_is_count.nd rfl (Or.inl rfl))) (fun _ _ _ _ _ => (pts_one (pt_cmpR op_notInS (pv 1) pe_str (by rfl)))) (fun _ _ _ _ _ => (pv 1))) (pe_lst pa_nil))))) (pss_one (ps_ret pe_bl)) pss_nil)
    (pss_one (ps_ret (pe_or (pe_cmpR op_eq (pv 0) pe_str (nomark _)) (pe_one (pe_cmpR op_ne (pe_item_str (pv 0) pe_int (fun _ _ => rfl)) pe_str (nomark _))))))), ?_⟩
  refine qn_if hs (b := !isDg x) (et_is (x_or (et_of (x_eqs (K := K) (ed_var rfl dv) xc_str rfl)) (et_of (x_nilSN (K := K) (ed_is (ed_lcS (fun d => !decide (sgOf d ∈ DIGL.cps.toList)) id (ed_var rfl dv) (by omega) fun y d G' H' s1 s2 hm dy => ?_) (congrArg Da.lst (odd_list x))) (x_lst es_nil)))) ?_) (fun hb G1 H1 n1 => ?_) fun hb G1 H1 n1 => ?_
  · obtain ⟨c, _, rfl⟩ := List.mem_map.mp hm
    exact ⟨_, go_name, rfl, et_of (ed_notInS (c := c) (ed_var rfl dy) xc_str), fun _ G2 s3 => ed_var rfl (dy.up s3)⟩
  · rw [odd_nil, empty_iff]
    unfold isDg
    rw [Bool.not_and]
  · refine ret_d k n1 (ed_is (xc_bl (b := false)) ?_) rfl
    rw [isCt, (by simpa using hb : isDg x = false), Bool.false_and]
  · have hg : isDg x = true := by simpa using hb
    obtain ⟨ad, ne⟩ := isDg_iff.mp hg
    obtain ⟨c, r, e⟩ : ∃ c r, codes x = c :: r := by
      cases h : codes x with
      | nil => exact absurd h ne
      | cons c r => exact ⟨c, r, rfl⟩
    refine ret_d k n1 (ed_is (x_orV (x_eqs (ed_var rfl (dv.up n1.a)) xc_str rfl) (x_nes (ed_item (k := 0) (c := c) (ed_var rfl (dv.up n1.a)) xc_int (by omega) (by rw [show x.cps.toList = codes x from rfl, e]; rfl)) xc_str rfl)) ?_) rfl
    rw [isCt, hg, e, Bool.true_and]
    rfl
theorem sc_law_is_text : FnScope ["_law_line", "_law_head", "_law_sign", "_law_tail", "_law_bare"] ["_law_line"] (defScope s__law_is_text) := ⟨rfl, rfl, rfl, by decide +kernel, rfl, by decide +kernel, by decide +kernel⟩
theorem ok_is_text {f : Addr} {fd : FuncData} (F : Fun K "_law_is_text" "_law_is_text" s__law_is_text f fd) (T : TR P w K mg base C) (cc : CalO P w K mg base 1 "_law_is_count" ["_law_word"] (Pr K 1 Rct)) (cd : CalO P w K mg base 1 "_law_divisor" ["_law_one", "_law_other"] (Pr K 2 Rgcd)) : FnOk P w K mg base CX0 2 f fd ["_law_line"] (Pr K 1 Rtx) := by
  refine F.ok sc_law_is_text Pr.len fun cdv A outer s H vs Q E hr h => ?_
  obtain ⟨G, ds, d, hs, hl, hd, ⟨x, rfl, hx, rfl⟩, k⟩ := h
  obtain ⟨v, rfl, dv⟩ := one_of hd
  refine ⟨_, (pss_cons (ps_asg (pe_partition (pv 0) pe_str) (pg_tup rfl (pgs_cons (pg_name (i := 1) sc_law_is_text.nd rfl (Or.inl rfl)) (pgs_cons (pg_name (i := 2) sc_law_is_text.nd rfl (Or.inl rfl)) (pgs_cons (pg_name (i := 3) sc_law_is_text.nd rfl (Or.inl rfl)) pgs_nil)))))
    (pss_cons (ps_set (i := 4) sc_law_is_text.nd rfl (Or.inl rfl) (pe_ifExp (pt_cmpR op_eq (pe_slice C8.sl_txt (pv 1) po_none (po_some pe_int)) pe_str (nomark _)) (pe_slice C8.sl_txt (pv 1) (po_some pe_int) po_none) (pv 1)))
    (pss_cons (ps_if (PW.pt (pw_or (pt_not (pt_val (pe_calO cc (hr.mono (by decide)) rfl (pa_cons (pv 4) pa_nil)))) (pw_or1 (pt_cmpR op_eq (pv 1) pe_str (nomark _))))) (pss_one (ps_ret pe_bl)) pss_nil)
    (pss_cons (ps_if (pt_cmpR op_eq (pv 2) pe_str (nomark _)) (pss_one (ps_ret pe_bl)) pss_nil)
    (pss_cons (ps_if (PW.pt (pw_or (pt_not (pt_val (pe_calO cc (hr.mono (by decide)) rfl (pa_cons (pv 3) pa_nil)))) (pw_or (pt_cmpR op_lt (pe_callTy call_int_str (by rfl) T.n_int (by decide +kernel) (pa_cons (pv 3) pa_nil)) pe_int (nomark _)) (pw_or1 (pt_cmpR op_eq (pv 4) pe_str (nomark _)))))) (pss_one (ps_ret pe_bl)) pss_nil)
    (pss_one (ps_ret (pe_cmpR op_eq (pe_calO cd (hr.mono (by decide)) rfl (pa_cons (pe_callTy call_int_str (by rfl) T.n_int (by decide +kernel) (pa_cons (pv 4) pa_nil)) (pa_cons (pe_callTy call_int_str (by rfl) T.n_int (by decide +kernel) (pa_cons (pv 3) pa_nil)) pa_nil))) pe_int (nomark _))))))))), ?_⟩
  obtain ⟨l1, l2, l3⟩ := part_le x "/"
  have lb : (bareX x).length ≤ 600 := by
    unfold bareX headX
    split
    · exact Nat.le_trans (len_le_slice _ _ _) (by omega)
    · omega
  have cc : ∀ {te : TE} {σ : L2.St} {G : Hp} {x : Str}, Evd K te σ G (.str x) → x.length ≤ 600 → Evd K (tCall (Pr K 1 Rct) [] E0 (tCons te tNil)) σ G (.bl (isCt x)) := fun {te σ G x} h hi => x_callR (R := Rct) (xs_cons h es_nil) rfl ⟨x, rfl, hi, rfl⟩
  have ci : ∀ {te : TE} {σ : L2.St} {G : Hp} {x : Str}, Evd K te σ G (.str x) → x.length ≤ 600 → isCt x = true → Evd K (tCB rIntS (tCons te tNil)) σ G (.int (dVal (codes x) : Int)) := fun {te σ G x} h hi hc H e Q q => h H e _ fun v G1 H1 n1 dv => by
    cases dv
    obtain ⟨ad, ne⟩ := isDg_iff.mp (ct_dg hc)
    exact ⟨x, _, rfl, int_of ad ne (by omega), by omega, q _ G1 H1 n1 (.int _)⟩
  refine qd_tup3 hs (ed_part (z := x) (y := "/") (ed_var rfl dv) xc_str (by decide) (by omega)) fun u1 u2 u3 G1 H1 n1 d1 d2 d3 => ?_
  refine qd_asg (K := K) n1.b (d := .str (bareX x)) (x_if (b := decide (Txt.slice (headX x) none (some 1) = ("-" : Str))) (et_of (x_eqs (K := K) (ed_slS (z := headX x) (ed_var (i := 1) rfl d1) (by unfold headX; omega) (fun _ _ q => q) fun _ _ q => ⟨1, rfl, q⟩) xc_str rfl)) (fun hb => ed_is (ed_slS (z := headX x) (ed_var (i := 1) rfl d1) (by unfold headX; omega) (fun _ _ q => ⟨1, rfl, q⟩) fun _ _ q => q) (by rw [bareX, if_pos (of_decide_eq_true hb)])) fun hb => ed_is (ed_var (i := 1) rfl d1) (by rw [bareX, if_neg (of_decide_eq_false hb)]; rfl)) fun u4 G2 H2 n2 d4 => ?_
  have n12 := n1.trans n2
  have d1 := d1.up n2.a
  have d2 := d2.up n2.a
  have d3 := d3.up n2.a
  refine qn_if n12.b (b := !isCt (bareX x) || decide (headX x = "-0")) (x_or (et_not (et_B (K := K) (cc (x := bareX x) (ed_var (i := 4) rfl d4) lb))) (et_of (x_eqs (K := K) (x := headX x) (ed_var (i := 1) rfl d1) xc_str rfl))) (fun hb G3 H3 n3 => ?_) fun hb G3 H3 n3 => ?_
  · refine ret_d k (n12.trans n3) (ed_is (xc_bl (b := false)) ?_) rfl
    have nz : ¬ (isCt (bareX x) && !decide (headX x = "-0")) = true := fun z => by
      simp only [Bool.and_eq_true, Bool.not_eq_true', decide_eq_false_iff_not] at z
      simp only [Bool.or_eq_true, Bool.not_eq_true', decide_eq_true_eq] at hb
      rcases hb with h | h
      · rw [h] at z; exact nomatch z.1
      · exact z.2 h
    rw [isTx, if_neg nz]
  have h0 : (isCt (bareX x) && !decide (headX x = "-0")) = true := by
    rw [← Bool.not_eq_false', Bool.not_and, Bool.not_not]
    simpa using hb
  have n3' := n12.trans n3
  have d2 := d2.up n3.a
  have d3 := d3.up n3.a
  have d4 := d4.up n3.a
  refine qn_if n3'.b (b := decide ((Txt.partition x "/").2.1 = ("" : Str))) (et_of (x_eqs (K := K) (ed_var (i := 2) rfl d2) xc_str rfl)) (fun hb G4 H4 n4 => ?_) fun hb G4 H4 n4 => ?_
  · refine ret_d k (n3'.trans n4) (ed_is (xc_bl (b := true)) ?_) rfl
    rw [isTx, if_pos h0, if_pos (of_decide_eq_true hb)]
  have h1 := of_decide_eq_false hb
  have n4' := n3'.trans n4
  have d3 := d3.up n4.a
  have d4 := d4.up n4.a
  have lt : (tailX x).length ≤ 600 := by unfold tailX; omega
  have eT : isTx x = if (isCt (tailX x) && (!decide ((dVal (codes (tailX x)) : Int) < 2) && !decide (bareX x = "0"))) = true then decide (gcdI (dVal (codes (bareX x))) (dVal (codes (tailX x))) = 1) else false := by
    rw [isTx, if_pos h0, if_neg h1]
  have cb : isCt (bareX x) = true := by
    rw [Bool.and_eq_true] at h0
    exact h0.1
  have tst : ∀ {G5 H5 : Hp}, Nw G H G5 H5 → True := fun _ => trivial
  refine qn_if n4'.b (b := !(isCt (tailX x) && (!decide ((dVal (codes (tailX x)) : Int) < 2) && !decide (bareX x = "0")))) ?_ (fun hb G5 H5 n5 => ?_) fun hb G5 H5 n5 => ?_
  · cases hc : isCt (tailX x) with
    | false => exact et_or (b := true) (c := true) (et_is (et_not (et_B (K := K) (cc (x := tailX x) (ed_var (i := 3) rfl d3) lt))) (by rw [hc]; rfl)) fun z => nomatch z
    | true =>
      refine et_is (et_or (b := false) (c := decide ((dVal (codes (tailX x)) : Int) < 2) || decide (bareX x = "0")) (et_is (et_not (et_B (K := K) (cc (x := tailX x) (ed_var (i := 3) rfl d3) lt))) (by rw [hc]; rfl)) fun _ G' s' => ?_) (by simp [Bool.not_and])
      exact x_or (et_of (K := K) (ed_ltI (ci (x := tailX x) (ed_var (i := 3) rfl (d3.up s')) lt hc) xc_int)) (et_of (x_eqs (K := K) (ed_var (i := 4) rfl (d4.up s')) xc_str rfl))
  · refine ret_d k (n4'.trans n5) (ed_is (xc_bl (b := false)) ?_) rfl
    rw [eT, if_neg (by rw [Bool.not_eq_true'] at hb; rw [hb]; exact Bool.false_ne_true)]
  · have hb : (isCt (tailX x) && (!decide ((dVal (codes (tailX x)) : Int) < 2) && !decide (bareX x = "0"))) = true := by rw [Bool.not_eq_false'] at hb; exact hb
    have ct : isCt (tailX x) = true := by rw [Bool.and_eq_true] at hb; exact hb.1
    refine ret_d k (n4'.trans n5) (ed_is (ed_eqI (x_callR (R := Rgcd) (xs_cons (ci (x := bareX x) (ed_var (i := 4) rfl (d4.up n5.a)) lb cb) (xs_cons (ci (x := tailX x) (ed_var (i := 3) rfl (d3.up n5.a)) lt ct) es_nil)) rfl ⟨_, _, rfl, rfl⟩) xc_int rfl) ?_) rfl
    rw [eT, if_pos hb]
end
end K02

set_option Elab.async false
set_option linter.all false
set_option maxRecDepth 100000
set_option maxHeartbeats 4000000
namespace GL
open PySem PySem.Spec PyProof.Rows L2
/-! texts cut at a sign, a sign ahead -/
theorem tl_codes (x : Str) : TL.tl x = codes x := rfl
theorem part_app {a b : Str} (h : 47 ∉ codes a) : Txt.partition (a ++ "/" ++ b) "/" = (a, ("/" : Str), b) := TL.partition_app (y := "/") (s := 47) (S := []) (by decide +kernel) h
theorem part_no {a : Str} (h : 47 ∉ codes a) : Txt.partition a "/" = (a, ("" : Str), ("" : Str)) := by
  have := TL.partition_none (y := "/") (s := 47) (S := []) (by decide +kernel) (a := a) h
  rw [this]
  rfl
theorem cut_at : ∀ l : List Nat, 47 ∈ l → ∃ a b, 47 ∉ a ∧ l = a ++ 47 :: b
  | c :: r, h => by
    by_cases hc : c = 47
    · subst hc; exact ⟨[], r, List.not_mem_nil, rfl⟩
    · obtain ⟨a, b, h1, h2⟩ := cut_at r (by rcases List.mem_cons.mp h with e | e; exact absurd e.symm hc; exact e)
      exact ⟨c :: a, b, fun z => by rcases List.mem_cons.mp z with e | e; exact hc e.symm; exact h1 e, by rw [h2]; rfl⟩
theorem cut_str {x : Str} (h : 47 ∈ codes x) : ∃ a b : Str, 47 ∉ codes a ∧ x = a ++ "/" ++ b := by
  obtain ⟨a, b, h1, h2⟩ := cut_at _ h
  refine ⟨ofCodes a, ofCodes b, h1, str_ext ?_⟩
  rw [h2, codes_app, codes_app]
  have e : codes ("/" : Str) = [47] := by decide +kernel
  rw [e, codes_mk, codes_mk]
  simp
theorem minus_codes : codes ("-" : Str) = [45] := by decide +kernel
theorem rmp_yes {y : Str} : Txt.removeprefix (("-" : Str) ++ y) "-" = y := by
  rw [PySem.StrLaws.removeprefix_eq, PySem.StrLaws.subAt_eq]
  have e : (("-" : Str) ++ y).cps.toList = 45 :: codes y := by
    show codes _ = _
    rw [codes_app, minus_codes]; rfl
  have l1 : ("-" : Str).length = 1 := by decide
  have l2 : (("-" : Str) ++ y).length = y.length + 1 := by rw [str_len, l1]; omega
  rw [e, l1, l2, if_pos (by
    have e2 : ("-" : Str).cps.toList = [45] := minus_codes
    rw [e2]
    simp)]
  refine str_ext ?_
  show List.take _ (List.drop 1 (45 :: codes y)) = _
  rw [List.drop_succ_cons, List.drop_zero, List.take_of_length_le (by rw [codes_len]; omega)]
theorem rmp_no {x : Str} (h : (codes x).head? ≠ some 45) : Txt.removeprefix x "-" = x := by
  rw [PySem.StrLaws.removeprefix_eq, PySem.StrLaws.subAt_eq]
  refine if_neg fun z => h ?_
  rw [Bool.and_eq_true] at z
  have z2 := beq_iff_eq.mp z.2
  have e2 : ("-" : Str).cps.toList = [45] := minus_codes
  have l1 : ("-" : Str).length = 1 := by decide
  rw [e2, l1, List.drop_zero] at z2
  show (codes x).head? = some 45
  cases hx : codes x with
  | nil => rw [show x.cps.toList = codes x from rfl, hx] at z2; cases z2
  | cons c r => rw [show x.cps.toList = codes x from rfl, hx] at z2; simp at z2; rw [z2]; rfl
theorem stw_iff {x : Str} : Txt.startswith x "-" = true ↔ (codes x).head? = some 45 := by
  unfold Txt.startswith
  rw [PySem.StrLaws.subAt_eq, Bool.and_eq_true, decide_eq_true_eq, beq_iff_eq]
  have e2 : ("-" : Str).cps.toList = [45] := minus_codes
  have l1 : ("-" : Str).length = 1 := by decide
  have hl := codes_len x
  rw [e2, l1, List.drop_zero, show x.cps.toList = codes x from rfl]
  cases hx : codes x with
  | nil => rw [hx] at hl; simp at hl ⊢
  | cons c r => rw [hx] at hl; simp at hl ⊢; intro; omega
theorem sl1_iff {x : Str} : Txt.slice x none (some 1) = ("-" : Str) ↔ (codes x).head? = some 45 := by
  have e : codes (Txt.slice x none (some ((1 : Nat) : Int))) = (codes x).take 1 := slice_to'
  constructor
  · intro h
    have h2 := congrArg codes h
    rw [minus_codes] at h2
    rw [show (some 1 : Option Int) = some ((1 : Nat) : Int) from rfl, e] at h2
    cases hx : codes x with
    | nil => rw [hx] at h2; cases h2
    | cons c r => rw [hx] at h2; simp at h2; rw [h2]; rfl
  · intro h
    refine str_ext ?_
    rw [show (some 1 : Option Int) = some ((1 : Nat) : Int) from rfl, e, minus_codes]
    cases hx : codes x with
    | nil => rw [hx] at h; cases h
    | cons c r => rw [hx] at h; simp at h; rw [h]; rfl
theorem sl1_drop {y : Str} : Txt.slice (("-" : Str) ++ y) (some 1) none = y := by
  refine str_ext ?_
  have e : codes (Txt.slice (("-" : Str) ++ y) (some ((1 : Nat) : Int)) none) = (codes (("-" : Str) ++ y)).drop 1 := slice_from'
  rw [show (some 1 : Option Int) = some ((1 : Nat) : Int) from rfl, e, codes_app, minus_codes]
  rfl
theorem minus_of {x : Str} (h : (codes x).head? = some 45) : ∃ y : Str, x = ("-" : Str) ++ y := by
  cases hx : codes x with
  | nil => rw [hx] at h; cases h
  | cons c r =>
    rw [hx] at h
    simp at h
    subst h
    refine ⟨ofCodes r, str_ext ?_⟩
    rw [hx, codes_app, minus_codes, codes_mk]
    rfl
theorem dig_no {cs : List Nat} (h : ADig cs) : 47 ∉ cs := fun z => by have := h _ z; omega
theorem dig_head {cs : List Nat} (h : ADig cs) : cs.head? ≠ some 45 := fun z => by
  cases cs with
  | nil => cases z
  | cons c r => simp at z; have := h c (by simp); omega
end GL
namespace K02
open PySem PySem.Spec PyProof.Rows L2 GL
theorem ne_es : ¬ (("" : Str) = "/") := by decide +kernel
theorem ne_se : ¬ (("/" : Str) = "") := by decide +kernel
theorem zero_codes : codes ("0" : Str) = [48] := by decide +kernel
theorem natS_zero : natS 0 = ("0" : Str) := str_ext (by rw [natS_0, zero_codes])
theorem natS_eq0 {n : Nat} : natS n = ("0" : Str) ↔ n = 0 := ⟨fun h => natS_inj (by rw [h, natS_zero]), fun h => by rw [h, natS_zero]⟩
theorem dg_natS (n : Nat) : isDg (natS n) = true := isDg_iff.mpr ⟨natS_dig n, natS_ne n⟩
theorem sgn_str (c : Nat) : (⟨#[c]⟩ : Str) = ("0" : Str) ↔ c = 48 := by
  constructor
  · intro h
    have := congrArg codes h
    rw [zero_codes] at this
    simpa [codes] using this
  · rintro rfl
    exact str_ext (by rw [zero_codes])
theorem ct_natS (n : Nat) : isCt (natS n) = true := by
  unfold isCt
  rw [dg_natS, Bool.true_and, Bool.or_eq_true, decide_eq_true_eq, Bool.not_eq_true', decide_eq_false_iff_not, natS_eq0, sgn_str]
  by_cases h : n = 0
  · exact .inl h
  · obtain ⟨c, r, e, hc⟩ := natS_head n h
    rw [e]
    exact .inr hc
theorem of_ct {x : Str} (h : isCt x = true) : x = natS (dVal (codes x)) := by
  unfold isCt at h
  rw [Bool.and_eq_true, Bool.or_eq_true, decide_eq_true_eq, Bool.not_eq_true', decide_eq_false_iff_not, sgn_str] at h
  obtain ⟨h1, h2⟩ := h
  obtain ⟨ad, ne⟩ := isDg_iff.mp h1
  refine str_ext ?_
  rcases h2 with h2 | h2
  · subst h2
    rw [zero_codes]
    exact natS_0.symm
  · cases e : codes x with
    | nil => exact absurd e ne
    | cons c r =>
      rw [e] at ad h2
      exact (natS_of ad h2).symm
/-- a whole number, with its sign -/
theorem intS_form (i : Int) : (i < 0 ∧ intS i = ("-" : Str) ++ natS i.natAbs) ∨ (0 ≤ i ∧ intS i = natS i.natAbs) := by
  unfold intS
  split
  · next h => exact .inl ⟨h, rfl⟩
  · next h => exact .inr ⟨by omega, rfl⟩
theorem intS_no (i : Int) : 47 ∉ codes (intS i) := by
  rcases intS_form i with ⟨_, e⟩ | ⟨_, e⟩
  · rw [e, codes_app, minus_codes]
    intro z
    rcases List.mem_append.mp z with z | z
    · simp at z
    · exact dig_no (natS_dig _) z
  · rw [e]; exact dig_no (natS_dig _)
theorem app_assoc (a b c : Str) : a ++ b ++ c = a ++ (b ++ c) := str_ext (by rw [codes_app, codes_app, codes_app, codes_app, List.append_assoc])
theorem head_app {a b : Str} (h : codes a ≠ []) : (codes (a ++ b)).head? = (codes a).head? := by
  rw [codes_app]
  cases hx : codes a with
  | nil => exact absurd hx h
  | cons c r => rfl
/-- what is seen of intS i with something behind it -/
theorem int_parts (i : Int) (z : Str) : Txt.removeprefix (intS i ++ z) "-" = natS i.natAbs ++ z ∧ sgnX (intS i ++ z) * (i.natAbs : Int) = i := by
  rcases intS_form i with ⟨h, e⟩ | ⟨h, e⟩
  · rw [e, app_assoc]
    refine ⟨rmp_yes, ?_⟩
    rw [sgnX, if_pos (stw_iff.mpr (by rw [codes_app, minus_codes]; rfl))]
    omega
  · have hh : (codes (natS i.natAbs ++ z)).head? ≠ some 45 := by
      rw [head_app (natS_ne _)]
      exact dig_head (natS_dig _)
    rw [e]
    refine ⟨rmp_no hh, ?_⟩
    rw [sgnX, if_neg (fun y => hh (stw_iff.mp y))]
    omega
theorem bare_int {x : Str} (i : Int) (h : headX x = intS i) : bareX x = natS i.natAbs ∧ (headX x = ("-0" : Str) → False) := by
  unfold bareX
  rw [h]
  have m0 : codes ("-0" : Str) = [45, 48] := by decide +kernel
  rcases intS_form i with ⟨hi, e⟩ | ⟨hi, e⟩
  · rw [e]
    refine ⟨by rw [if_pos (sl1_iff.mpr (by rw [codes_app, minus_codes]; rfl)), sl1_drop], fun z => ?_⟩
    have := congrArg codes z
    rw [codes_app, minus_codes, m0] at this
    have e2 : natS i.natAbs = ("0" : Str) := str_ext (by rw [zero_codes]; simpa using this)
    have := natS_eq0.mp e2
    omega
  · rw [e]
    have hh := dig_head (natS_dig i.natAbs)
    refine ⟨if_neg fun z => hh (sl1_iff.mp z), fun z => hh ?_⟩
    rw [z, m0]; rfl
theorem rateS_1 {r : Int × Int} (h : r.2 = 1) : rateS r = intS r.1 := if_pos h
theorem rateS_2 {r : Int × Int} (h : r.2 ≠ 1) : rateS r = intS r.1 ++ "/" ++ intS r.2 := if_neg h
theorem intS_pos {i : Int} (h : 0 < i) : intS i = natS i.natAbs := by unfold intS; rw [if_neg (by omega)]
theorem one_str : ("1" : Str) = natS 1 := by decide +kernel
theorem app_empty (a : Str) : a ++ ("" : Str) = a := str_ext (by rw [codes_app, show codes ("" : Str) = [] by decide +kernel, List.append_nil])
/-- the text of a rate is read -/
theorem terms_rate {r : Int × Int} (ok : FrOk r) : termsX (rateS r) = some r := by
  have p := ok.pos
  have key : ∀ (z : Str), topX (intS r.1 ++ z) = natS r.1.natAbs → belowX (intS r.1 ++ z) = natS r.2.natAbs → termsX (intS r.1 ++ z) = some r := fun z h1 h2 => by
    unfold termsX
    rw [h1, h2, if_pos (dg_natS _), if_pos (dg_natS _), natS_val, natS_val, if_neg (by omega), (int_parts r.1 z).2]
    refine congrArg some (Prod.ext rfl ?_)
    show ((r.2.natAbs : Nat) : Int) = r.2
    omega
  by_cases h : r.2 = 1
  · rw [rateS_1 h]
    have e := (int_parts r.1 "").1
    rw [app_empty, app_empty] at e
    have := key "" (by unfold topX; rw [app_empty, e, part_no (dig_no (natS_dig _))]) (by
      unfold belowX
      rw [app_empty, e, part_no (dig_no (natS_dig _)), if_neg ne_es, h]
      exact one_str)
    rw [app_empty] at this
    exact this
  · rw [rateS_2 h, app_assoc]
    have e := (int_parts r.1 ("/" ++ intS r.2)).1
    refine key _ ?_ ?_
    · unfold topX
      rw [e, ← app_assoc, part_app (dig_no (natS_dig _))]
    · unfold belowX
      rw [e, ← app_assoc, part_app (dig_no (natS_dig _)), if_pos rfl, intS_pos p]
theorem read_rate {r : Int × Int} (ok : FrOk r) : readX (rateS r) = some r := by
  unfold readX
  rw [terms_rate ok]
  show (if rateS (nrm r.1 r.2) = rateS r then some (nrm r.1 r.2) else none) = some r
  rw [nrm_self ok, if_pos rfl]
theorem tx_rate {r : Int × Int} (ok : FrOk r) : isTx (rateS r) = true := by
  have p := ok.pos
  by_cases h : r.2 = 1
  · have hp : Txt.partition (rateS r) "/" = (intS r.1, ("" : Str), ("" : Str)) := by rw [rateS_1 h]; exact part_no (intS_no _)
    have hh : headX (rateS r) = intS r.1 := by rw [headX, hp]
    obtain ⟨b1, b2⟩ := bare_int r.1 hh
    unfold isTx
    rw [b1, ct_natS, decide_eq_false b2, hp, if_pos rfl]
    rfl
  · have hp : Txt.partition (rateS r) "/" = (intS r.1, ("/" : Str), intS r.2) := by rw [rateS_2 h]; exact part_app (intS_no _)
    have hh : headX (rateS r) = intS r.1 := by rw [headX, hp]
    have ht : tailX (rateS r) = natS r.2.natAbs := by rw [tailX, hp, intS_pos p]
    obtain ⟨b1, b2⟩ := bare_int r.1 hh
    have n0 : r.1.natAbs ≠ 0 := fun z => by
      have := ok.cop
      rw [z, Nat.gcd_zero_left] at this
      omega
    unfold isTx
    rw [b1, ct_natS, decide_eq_false b2, hp, ht, ct_natS, natS_val, natS_val, decide_eq_false (show ¬ ((r.2.natAbs : Nat) : Int) < 2 by omega), decide_eq_false (fun z => n0 (natS_eq0.mp z))]
    refine (if_pos rfl).trans ((if_neg ne_se).trans ((if_pos rfl).trans (decide_eq_true ?_)))
    show ((Nat.gcd ((r.1.natAbs : Nat) : Int).natAbs ((r.2.natAbs : Nat) : Int).natAbs : Nat) : Int) = 1
    rw [Int.natAbs_natCast, Int.natAbs_natCast, ok.cop]
    rfl
/-- what the law takes for a text is the text of a rate -/
theorem of_tx {x : Str} (h : isTx x = true) : ∃ r, FrOk r ∧ x = rateS r := by
  unfold isTx at h
  split at h
  · next h0 =>
    rw [Bool.and_eq_true, Bool.not_eq_true', decide_eq_false_iff_not] at h0
    obtain ⟨hc, hm⟩ := h0
    have eb := of_ct hc
    -- what is ahead of the slash is a whole number
    obtain ⟨i, hi, ei⟩ : ∃ i : Int, headX x = intS i ∧ i.natAbs = dVal (codes (bareX x)) := by
      by_cases hh : (codes (headX x)).head? = some 45
      · obtain ⟨y, ey⟩ := minus_of hh
        have e1 : bareX x = y := by unfold bareX; rw [if_pos (sl1_iff.mpr hh), ey, sl1_drop]
        have ny : dVal (codes (bareX x)) ≠ 0 := fun z => hm (by
          rw [ey, ← e1, eb, z, natS_zero]
          decide +kernel)
        refine ⟨-(dVal (codes (bareX x)) : Int), ?_, by omega⟩
        unfold intS
        rw [if_pos (by omega), Int.natAbs_neg, Int.natAbs_natCast, ← eb, ey, e1]
      · have e1 : bareX x = headX x := if_neg fun z => hh (sl1_iff.mp z)
        refine ⟨(dVal (codes (bareX x)) : Int), ?_, by omega⟩
        unfold intS
        rw [if_neg (by omega), Int.natAbs_natCast, ← eb, e1]
    by_cases hx : 47 ∈ codes x
    · obtain ⟨a, b, ha, hab⟩ := cut_str hx
      have hp : Txt.partition x "/" = (a, ("/" : Str), b) := by rw [hab]; exact part_app ha
      rw [hp, if_neg ne_se] at h
      split at h
      · next h1 =>
        rw [Bool.and_eq_true, Bool.and_eq_true, Bool.not_eq_true', Bool.not_eq_true', decide_eq_false_iff_not, decide_eq_false_iff_not] at h1
        obtain ⟨h1, h2, h3⟩ := h1
        have hg := of_decide_eq_true h
        have et := of_ct h1
        refine ⟨(i, (dVal (codes (tailX x)) : Int)), ⟨by show (0 : Int) < (dVal (codes (tailX x)) : Int); omega, ?_⟩, ?_⟩
        · show Nat.gcd i.natAbs ((dVal (codes (tailX x)) : Nat) : Int).natAbs = 1
          have hg : ((Nat.gcd ((dVal (codes (bareX x)) : Nat) : Int).natAbs ((dVal (codes (tailX x)) : Nat) : Int).natAbs : Nat) : Int) = 1 := hg
          rw [Int.natAbs_natCast] at hg
          rw [ei]
          exact_mod_cast hg
        · rw [rateS_2 (by show (dVal (codes (tailX x)) : Int) ≠ 1; omega)]
          show x = intS i ++ "/" ++ intS (dVal (codes (tailX x)) : Int)
          rw [← hi, intS_pos (by omega), Int.natAbs_natCast, ← et, headX, tailX, hp, hab]
      · cases h
    · have hp : Txt.partition x "/" = (x, ("" : Str), ("" : Str)) := part_no hx
      refine ⟨(i, 1), ok_int1 i, ?_⟩
      rw [rateS_1 rfl, ← hi, headX, hp]
  · cases h
/-- reading and the law's own look agree -/
theorem read_iff {x : Str} : (isTx x = true ∧ ∃ r, FrOk r ∧ readX x = some r ∧ rateS r = x) ∨ (isTx x = false ∧ readX x = none) := by
  cases h : isTx x with
  | true =>
    obtain ⟨r, ok, e⟩ := of_tx h
    exact .inl ⟨rfl, r, ok, by rw [e]; exact read_rate ok, e.symm⟩
  | false =>
    refine .inr ⟨rfl, ?_⟩
    cases hr : readX x with
    | none => rfl
    | some r =>
      unfold readX at hr
      cases ht : termsX x with
      | none => rw [ht] at hr; cases hr
      | some ab =>
        obtain ⟨a, b⟩ := ab
        rw [ht] at hr
        have hr : (if rateS (nrm a b) = x then some (nrm a b) else none) = some r := hr
        split at hr
        · next e =>
          have bne : b ≠ 0 := by
            unfold termsX at ht
            split at ht
            · split at ht
              · split at ht
                · cases ht
                · next h1 h2 h3 =>
                  injection ht with ht
                  injection ht with ha hb
                  intro z
                  exact h3 (by omega)
              · cases ht
            · cases ht
          have := tx_rate (nrm_ok (a := a) (b := b) bne)
          rw [e, h] at this
          cases this
        · cases hr
end K02

set_option Elab.async false
set_option linter.all false
set_option autoImplicit false
set_option maxRecDepth 100000
set_option maxHeartbeats 2000000
namespace GL
open PySem PySem.Spec PyProof.Rows L2
open PySem.W (Frag InstAt findIn isFn)
/-! bool(o) of an own class with __bool__ -/
theorem kbo_call {prog : Program} {w : World} {A : Around} {E : Value → Shared → Prop} {s : Shared} {K : Frag} {x C L f : Addr} {h₀ : Heap} {m : Str → Option Value} {ox : Obj} {od : Option Obj} {Q : Value → Shared → Prop}
    (F : PyProof.Rows.Fr h₀ L s.heap m) (X : K.In h₀) (I : InstAt s.heap x ox C od) (hs : findIn K (.ref C) "__bool__" = some (some (.ref f))) (hf : isFn K (.ref f) = true)
    (h : wpAny (model prog w) A.in1.in1 (call (.ref f) [.ref x]) (PySem.W.BoolBack fun b => Q (.bool b)) E s) : wpAny (model prog w) A (call (.type "bool") [.ref x]) Q E s := by
  have pl : plainId "bool.__new__" = true := by decide +kernel
  refine callType_codes PySem.F.called_bool (PySem.F.typeCall_bool_1 (.ref x)) PySem.F.entry_object_init (codeAny_of_tree (wpAny_bind (wpAny_of_eq (PySem.F.newCall_bool_1 (.ref x)) (wpAny_pure ⟨plainId_quiet pl _, codeAny_builtin PySem.F.entry_bool_new ?_⟩)))) (Q₁ := fun r s₁ => ∃ b, r = .bool b ∧ Q r s₁) fun obj s₁ z => ?_
  · rw [Around.under_plainId pl]
    have tree : Builtin.«bool.__new__» { pos := [.type "bool", .ref x] } = (do let b ← truthy (.ref x); ret (.bool b)) := by
      unfold Builtin.«bool.__new__»
      have e1 : isSubtype (.type "bool") (.type "bool") = pure true := by rfl
      have e2 : isType (.type "bool") = pure true := by rfl
      simp only [e1, e2, pure_bind, Bool.not_true, Bool.false_eq_true, if_false]
      rfl
    rw [tree]
    refine wpAny_bind (wpAny_mono (PySem.W.truthy_K F X I hs hf h) (fun b s' hb => ?_) fun _ _ e => e)
    exact wpAny_pure ⟨b, rfl, hb⟩
  · obtain ⟨b, rfl, hq⟩ := z
    exact ⟨PyProof.Rows.typeIs_bool s₁ b, PySem.F.args_object_init_2 _ _, object_init_meets PySem.F.called_bool.init.lookup PySem.F.called_bool.made PySem.F.newNe_bool prog w A.in1 (wants (fun r s₂ => r = Value.none ∧ Q (.bool b) s₂) E) s₁ ⟨PyProof.Rows.typeIs_bool s₁ b, rfl, hq⟩⟩
def rBoolO (C : Addr) (sp : Sp) : List V → Hp → VK → Prop := fun xs H Q => ∃ a dx fs, xs = [.ref a] ∧ H a = some (.ins C dx fs) ∧ sp [.ref a] H (fun v H' => ∃ b, v = .bl b ∧ Q (.bl b) H') E0
theorem call_boolO {X : Cx} {n : Nat} {C f : Addr} {fd : FuncData} {ps : List Str} {sp : Sp} (F : FnOk X.prog X.w X.K X.mg X.base CX0 n f fd ps sp) (hs : findIn X.K (.ref C) "__bool__" = some (some (.ref f))) (hf : isFn X.K (.ref f) = true) (hb : Binds X.K fd ps []) (hr : Room (n + 2) X.A) : CallR X (.type "bool") (rBoolO C sp) := fun pins s σ H xs us Q I r h => by
  obtain ⟨a, dx, fs, rfl, ha, h⟩ := h
  have r0 := r
  cases r with
  | cons r1 r2 =>
    cases r2
    cases r1
    obtain ⟨mA, J, _⟩ := ins_get I.hok ha
    obtain ⟨od, J, _⟩ := J.look
    obtain ⟨m, hF⟩ := I.fr
    have hr2 := hr.in1.in1
    refine kbo_call hF I.ok.mod.kin J hs hf (wpAny_mono (run_at F hr2 rfl hb I r0 h X.xe) (fun u s' z => ?_) fun _ _ e => e)
    obtain ⟨v, H', I', rv, b, rfl, q⟩ := z
    cases rv
    exact ⟨.bl b, H', I', rfl, q⟩
end GL

set_option Elab.async false
set_option linter.all false
set_option autoImplicit false
set_option maxRecDepth 100000
set_option maxHeartbeats 2000000
namespace GL
open PySem PySem.Spec PyProof.Rows L2
open PySem.W (Frag InstAt findIn isFn subIn looks_subIn ifBound_K notFirst Looks)
/-! o != i, o an instance with its own __eq__ and no __ne__, i an int -/
def rNeI (C : Addr) (sp : Sp) : R2 := fun x y H Q => ∃ a dx fs i, x = .ref a ∧ y = .int i ∧ H a = some (.ins C dx fs) ∧ sp [.ref a, .int i] H (fun v H' => ∃ k, v = .bl k ∧ Q (.bl (!k)) H') E0
section
variable {X : Cx} {n : Nat} {C f : Addr} {fd : FuncData} {ps : List Str} {sp : Sp}
theorem op_neI (F : FnOk X.prog X.w X.K X.mg X.base CX0 n f fd ps sp) (k : EqK X.K C f) (fe : findIn X.K (.ref C) "__eq__" = some (some (.ref f))) (nf : subIn X.K (.type "int") (.ref C) = some false) (hb : Binds X.K fd ps []) (hr : Room (n + 2) X.A) : OpR X (compareOp .NotEq) (rNeI C sp) := by
  intro pins s σ H x y v u Q I rx ry h
  obtain ⟨a, dx, fs, i, rfl, rfl, ha, h⟩ := h
  cases rx
  obtain ⟨t, rfl⟩ := ry
  obtain ⟨mA, J0, _⟩ := ins_get I.hok ha
  obtain ⟨od, J, _⟩ := J0.look
  obtain ⟨nm, q, N, bs, hd, sn, sub, ab, col, dd, k0, k1, k2, k3, k5, nid, lC, nsO, eqN, neN⟩ := k.cls
  have KI := I.kIn
  have hr1 : Room (n + 1) X.A.in1 := hr.in1
  have hr2 : Room n X.A.in1.in1 := hr1.in1
  have ns : s.heap.Ns N (s.heap.nsMap N) := .of_isNs (PySem.W.isNs_of_in KI nsO)
  have nn := PySem.W.ns_none_of KI ns neN
  have run := run_at (A := X.A.in1) (us := [.ref a, .int i t]) (vs := [.ref a, .int i]) F (hr1.mono (by omega)) rfl hb I (.cons rfl (.cons ⟨t, rfl⟩ .nil)) h X.xe
  have two : wpAny (model X.prog X.w) X.A (tryCompare (.ref a) "__ne__" (.int i t)) (fun r s' => ∃ v, r = some v ∧ EP X pins σ Q v s') X.xe s := by
    unfold tryCompare
    obtain ⟨hp, g, d, tk, os⟩ := s
    refine wpAny_bind (PySem.wpAny_callSpecialIfBound?_inst J.1 J.cls (KI _ _ lC) ns nn PySem.F.cmp_object.mro PySem.F.cmp_object.ne (wpAny_call (codeAny_call_builtin PySem.F.cmp_object.ne.plain PySem.F.cmpEntry_ne (wpAny_check_slot_inst PySem.F.cmpKind_ne PySem.F.cmpSplit_ne (PySem.F.cmpArgs_ne _ _) PySem.F.cmp_object.hasObject J.1 J.cls (KI _ _ lC) ?_))))
    unfold Builtin.«object.__ne__»
    have e1 : slotArgs "__ne__" 1 { pos := [.ref a, .int i t] } = pure (.ref a, [.int i t]) := by rfl
    rw [e1]
    simp only [pure_bind]
    refine wpAny_bind (wpAny_cRoomFor hr1.units0 (wpAny_bind (ifBound_K KI J fe k.fn (wpAny_mono run (fun r s' z => ?_) fun _ _ e => e))))
    obtain ⟨v, H', I', rv, kk, rfl, qq⟩ := z
    cases rv
    refine wpAny_bind (wpAny_pure ?_)
    exact wpAny_pure (wpAny_pure ⟨_, rfl, .bl (!kk), H', I', rfl, qq⟩)
  have hu := hr.units0
  show wpAny (model X.prog X.w) X.A (richCompare .NotEq (.ref a) (.int i t)) (EP X pins σ Q) X.xe s
  unfold richCompare
  refine wpAny_holding (wpAny_bind (wpAny_cRoomFor hu ?_))
  have e0 : oneThing? .NotEq (.ref a) (.int i t) = none := by rfl
  rw [e0]
  show wpAny (model X.prog X.w) X.A (do
    let ta ← typeOf (.ref a)
    let tb ← typeOf (.int i t)
    _) _ _ _
  refine wpAny_bind (J.type.here (wpAny_bind (wpAny_typeOf (typeIs_int s i t) ?_)))
  have hne : (Value.ref C != Value.type "int") = true := by
    rw [bne_iff_ne]; exact fun z => nomatch z
  simp only [hne, if_true]
  refine wpAny_bind ((looks_subIn KI nf).here ?_)
  simp only [Bool.false_eq_true, if_false]
  refine wpAny_bind (m := tryCompare (.ref a) _ _) (wpAny_mono two (fun r s' z => ?_) fun _ _ e => e)
  obtain ⟨v, rfl, hq⟩ := z
  exact wpAny_pure hq
end
end GL

set_option Elab.async false
set_option linter.all false
set_option maxRecDepth 100000
set_option maxHeartbeats 4000000
namespace GL
open PySem PySem.Spec PyProof.Rows L2
/-- a def whose code object stands at c -/
structure FunC (K : PySem.W.Frag) (x qual : Str) (st : Stmt) (c f : Addr) (fd : FuncData) : Prop where
  ex : ∃ (oc : Value) (od : Option Addr) (kV doc pm : Value) (an : Option Addr) (ct : Value) (osl : Array (Option Value)),
    fd = PySem.W.fnOf x qual (defArgs st) (defBody st) (defScope st) .none kV doc pm an (.ref c) ct ∧ K.lookup f = some ⟨oc, od, .func fd, osl⟩ ∧ PySem.W.codeIn K (.ref c) qual = true
theorem FunC.okG {P : Program} {w : World} {K : PySem.W.Frag} {mg : Str → Option Value} {base : Heap} {x qual : Str} {st : Stmt} {c f : Addr} {fd : FuncData} {N ps : List Str} {k : Nat} {sp : Sp} (F : FunC K x qual st c f fd) (S : FnScope N ps (defScope st)) (len : ∀ vs H Q E, sp vs H Q E → vs.length = ps.length)
    (hbody : ∀ (A : Around) (outer : List Env) (s : Shared) (H : Hp) (vs : List V) (Q : VK) (E : XK), Quiet A → Room k (A.deeper (envOfC qual (defScope st) s.heap.objs.size f (.ref c))) → sp vs H Q E →
      ∃ t, PSs (cxOf CX0 P w K mg base N qual (defScope st) f (.ref c) A outer s H E).nox (defBody st) t ∧ t { nx := fun _ H' => Q .non H', rt := Q } (start N vs) H) : FnG P w K mg base CX0 (k + 1) f fd ps sp := by
  obtain ⟨oc, od, kV, doc, pm, an, ct, osl, rfl, lk, hcd⟩ := F.ex
  exact fn_g lk hcd S len fun A outer s H vs Q E hq hr hsp => let ⟨t, h, q⟩ := hbody A outer s H vs Q E hq hr hsp; ⟨t, h.nox, q⟩
/-! how long a text of a list is -/
theorem str_len_app (a b : Str) : (a ++ b).length = a.length + b.length := by
  first
  | exact Str.length_append a b
  | (show (a.cps ++ b.cps).size = _; exact Array.size_append)
theorem textFrom_ub : ∀ (ts : List Str) (k : Nat) (acc : Str), (textFrom k acc ts).length ≤ acc.length + (ts.map fun t => t.length + 2).sum
  | [], _, acc => by simp [textFrom]
  | t :: ts, k, acc => by
    have ih := textFrom_ub ts (k + 1) (acc ++ (if k > 0 then ", " else "" : String) ++ t)
    have e : (((if k > 0 then ", " else "" : String) : Str)).length ≤ 2 := by split <;> decide
    simp only [textFrom, List.map_cons, List.sum_cons]
    rw [str_len_app, str_len_app] at ih
    omega
theorem listText_ub (ts : List Str) : (listText ts).length ≤ 2 + (ts.map fun t => t.length + 2).sum := by
  unfold listText
  rw [str_len_app]
  have h := textFrom_ub ts 0 "["
  have l1 : ("[" : Str).length = 1 := by decide
  have l2 : ("]" : Str).length = 1 := by decide
  omega
/-- shown in few words -/
def ShowB (n : Nat) (d : Da) : Prop := ∃ p, d.toP = some p ∧ p.showable = true ∧ p.shown.length ≤ n ∧ p.depth ≤ 20
def showB (n : Nat) (d : Da) : Bool := match d.toP with
  | some p => p.showable && decide (p.shown.length ≤ n) && decide (p.depth ≤ 20)
  | none => false
theorem showB_of {n : Nat} {d : Da} (h : showB n d = true) : ShowB n d := by
  unfold showB at h
  cases hp : d.toP with
  | none => rw [hp] at h; cases h
  | some p =>
    rw [hp] at h
    simp only [Bool.and_eq_true, decide_eq_true_eq] at h
    exact ⟨p, hp, h.1.1, h.1.2, h.2⟩
theorem show_int {m : Int} (h0 : 0 ≤ m) (h1 : m ≤ 999) : ShowB 4 (.int m) := by
  refine ⟨.int m, rfl, ?_, ?_, by simp [PyData.depth]⟩
  · show decide (m.natAbs.log2 < 1920) = true
    rw [decide_eq_true_eq]
    by_cases hz : m.natAbs = 0
    · rw [hz]; decide
    · exact (Nat.log2_lt hz).mpr (Nat.lt_of_lt_of_le (show m.natAbs < 2 ^ 10 by omega) (Nat.pow_le_pow_right (by decide) (by decide)))
  · rw [PyData.shown_int]
    exact Nat.le_trans (toString_length_le h0 (show 0 < 3 by decide) (Int.lt_of_le_of_lt h1 (by decide))) (by decide)
theorem show3 {n : Nat} {a b c : Da} (ha : ShowB n a) (hb : ShowB n b) (hc : ShowB n c) (hn : n ≤ 300) : ∃ p, (Da.lst [a, b, c]).toP = some p ∧ p.showable = true ∧ p.shown.length ≤ sizeLine ∧ p.depth ≤ 60 := by
  obtain ⟨p, hp, a1, a2, a3⟩ := ha
  obtain ⟨q, hq, b1, b2, b3⟩ := hb
  obtain ⟨r, hr, c1, c2, c3⟩ := hc
  refine ⟨.list [p, q, r], by simp [Da.toP, Da.toPs, hp, hq, hr], by simp [PyData.showable, PyData.showableAll, a1, b1, c1], ?_, by simp only [PyData.depth, PyData.depthAll]; omega⟩
  have e : (PyData.list [p, q, r]).shown = listText [p.shown, q.shown, r.shown] := by simp [PyData.shown, PyData.shownAll]
  rw [e]
  have h := listText_ub [p.shown, q.shown, r.shown]
  simp only [List.map_cons, List.map_nil, List.sum_cons, List.sum_nil] at h
  exact Nat.le_trans (show _ ≤ 1000 by omega) (by decide)
theorem show4 {n : Nat} {a b c d : Da} (ha : ShowB n a) (hb : ShowB n b) (hc : ShowB n c) (hd : ShowB n d) (hn : n ≤ 200) : ∃ p, (Da.lst [a, b, c, d]).toP = some p ∧ p.showable = true ∧ p.shown.length ≤ sizeLine ∧ p.depth ≤ 60 := by
  obtain ⟨p, hp, a1, a2, a3⟩ := ha
  obtain ⟨q, hq, b1, b2, b3⟩ := hb
  obtain ⟨r, hr, c1, c2, c3⟩ := hc
  obtain ⟨s, hs, d1, d2, d3⟩ := hd
  refine ⟨.list [p, q, r, s], by simp [Da.toP, Da.toPs, hp, hq, hr, hs], by simp [PyData.showable, PyData.showableAll, a1, b1, c1, d1], ?_, by simp only [PyData.depth, PyData.depthAll]; omega⟩
  have e : (PyData.list [p, q, r, s]).shown = listText [p.shown, q.shown, r.shown, s.shown] := by simp [PyData.shown, PyData.shownAll]
  rw [e]
  have h := listText_ub [p.shown, q.shown, r.shown, s.shown]
  simp only [List.map_cons, List.map_nil, List.sum_cons, List.sum_nil] at h
  exact Nat.le_trans (show _ ≤ 1000 by omega) (by decide)
section
variable {K : PySem.W.Frag} {σ : L2.St} {G : Hp} {ta tb : TE} {d : Da}
/-- repr(x) != repr(y) of equal data -/
theorem ed_reprs (ha : Evd K ta σ G d) (hb : Evd K tb σ G d) (h : ∃ p, d.toP = some p ∧ p.showable = true ∧ p.shown.length ≤ sizeLine ∧ p.depth ≤ 60) : Evd K (tOp rNe (tCB (rRepr K) (tCons ta tNil)) (tCB (rRepr K) (tCons tb tNil))) σ G (.bl false) := by
  obtain ⟨p, h1, h2, h3, h4⟩ := h
  exact x_nes (ed_repr ha h1 h2 h3 h4) (ed_repr hb h1 h2 h3 h4) (by simp)
theorem ShowB.fit {n : Nat} (h : ShowB n d) (hn : n ≤ 1000) : ∃ p, d.toP = some p ∧ p.showable = true ∧ p.shown.length ≤ sizeLine ∧ p.depth ≤ 60 := by
  obtain ⟨p, h1, h2, h3, h4⟩ := h
  exact ⟨p, h1, h2, Nat.le_trans h3 (Nat.le_trans hn (by decide)), by omega⟩
end
end GL

set_option Elab.async false
set_option linter.all false
set_option autoImplicit false
set_option maxRecDepth 100000
set_option maxHeartbeats 4000000
namespace GL
open PySem PySem.Spec PyProof.Rows L2
open MeetsSeq MeetsSeq2 MeetsSeq3 SeqRoads2 AutoSeq1
/-! != of lists, item by item -/
section
variable {prog : Program} {w : World} {A : Around} {R : Result → Shared → Prop}
theorem b_ne_loop (l b : Addr) (N : Nat) (e : Nat → Bool) (I : Shared → Prop)
    (hl : ∀ i s, I s → ∃ (items items2 : Array Value) (n n2 : Nat), s.heap.get? l = some { cls := .type "list", data := .seq items n } ∧ s.heap.get? b = some { cls := .type "list", data := .seq items2 n2 } ∧ items.size = N ∧ items2.size = N ∧
      ∀ (h1 : i < items.size) (h2 : i < items2.size), wpAny (model prog w) A.in1 (eqBool items[i] items2[i]) (fun r s' => r = e i ∧ I s') (fun e s' => R (.error e) s') s)
    (fin : ∀ s k, I s → k = !(List.range N).all e → R (.ok (.ret (.bool k))) s) (k : Nat) :
    ∀ i : Nat, N - i = k → i ≤ N → ((List.range N).take i).all e = true → ∀ s, I s →
      wpAny (model prog w) A.in1 (Builtin.«list.__eq__.loop» ⟨[.ref l, .ref b, rawInt i, rawInt 3], []⟩) (GQ.FinOf prog w A R) (fun e s' => R (.error e) s') s := by
  induction k with
  | zero =>
    intro i hk hi hall s h
    obtain ⟨items, items2, n, n2, hl1, hb1, hs1, hs2, _⟩ := hl i _ h
    have hi' : i = N := by omega
    have ha : (List.range N).all e = true := by rw [← hall, hi', List.take_of_length_le (by simp)]
    have hR : R (.ok (.ret (.bool false))) s := fin s false h (by rw [ha]; rfl)
    obtain ⟨hp, g, d, tk, os⟩ := s
    wp_walk using wpAny_loadPart' hl1, wpAny_loadPart' hb1
    have hi1 : items[((i : Nat) : Int).toNat]? = none := by simp; omega
    have hi2 : items2[((i : Nat) : Int).toNat]? = none := by simp; omega
    rw [hi1, hi2]
    wp_walk using wpAny_loadPart' hl1, wpAny_loadPart' hb1
    first
    | (show R (.ok (.ret (.bool (items.size != items2.size)))) _; rw [hs1, hs2]; simpa using hR)
    | (rw [hs1, hs2]; simpa using hR)
    | simpa [hs1, hs2] using hR
  | succ k ih =>
    intro i hk hi hall s h
    obtain ⟨items, items2, n, n2, hl1, hb1, hs1, hs2, turn⟩ := hl i _ h
    have hlt : i < items.size := by omega
    have hlt2 : i < items2.size := by omega
    have hN : i < N := by omega
    have ht := turn hlt hlt2
    obtain ⟨hp, g, d, tk, os⟩ := s
    wp_walk using wpAny_loadPart' hl1, wpAny_loadPart' hb1
    have hi1 : items[((i : Nat) : Int).toNat]? = some items[i] := by simp [hlt]
    have hi2 : items2[((i : Nat) : Int).toNat]? = some items2[i] := by simp [hlt2]
    have hc : ((i : Int) + 1) = ((i + 1 : Nat) : Int) := by omega
    rw [hi1, hi2]
    have step : ((List.range N).take (i + 1)).all e = e i := by
      rw [List.take_succ, List.all_append, hall]
      simp [hN]
    refine wpAny_bind (wpAny_mono ht (fun r s2 h2 => ?_) fun _ _ x => x)
    obtain ⟨hr, h2⟩ := h2
    subst hr
    cases hb : e i with
    | true =>
      have hrec := ih (i + 1) (by omega) (by omega) (by rw [step, hb]) s2 h2
      obtain ⟨hp2, g2, d2, tk2, os2⟩ := s2
      wp_walk
      rw [hc]
      exact ⟨plainId_quiet plain_eq_loop _, codeAny_builtin entry_eq_loop (by
        rw [Around.under_plainId plain_eq_loop _]
        exact hrec)⟩
    | false =>
      have hf : (List.range N).all e = false := by
        rw [List.all_eq_false]
        exact ⟨i, by simp [hN], by simp [hb]⟩
      obtain ⟨i1, i2, n', n2', hl2, hb2, _, _, _⟩ := hl i _ h2
      have hR := fin s2 true h2 (by rw [hf]; rfl)
      have z1 : i1[((i : Nat) : Int).toNat]? = some i1[i]! := by
        have : i < i1.size := by omega
        simp [this]
      have z2 : i2[((i : Nat) : Int).toNat]? = some i2[i]! := by
        have : i < i2.size := by omega
        simp [this]
      obtain ⟨hp2, g2, d2, tk2, os2⟩ := s2
      wp_walk using wpAny_loadPart' hl2, wpAny_loadPart' hb2
      rw [z1, z2]
      wp_walk
      exact hR
end
section
variable {prog : Program} {w : World} {A : Around} {R : Result → Shared → Prop}
theorem b_list_ne (l b : Addr) (N : Nat) (e : Nat → Bool) (I : Shared → Prop)
    (hl : ∀ i s, I s → ∃ (items items2 : Array Value) (n n2 : Nat), s.heap.get? l = some { cls := .type "list", data := .seq items n } ∧ s.heap.get? b = some { cls := .type "list", data := .seq items2 n2 } ∧ items.size = N ∧ items2.size = N ∧
      ∀ (h1 : i < items.size) (h2 : i < items2.size), wpAny (model prog w) A.in1 (eqBool items[i] items2[i]) (fun r s' => r = e i ∧ I s') (fun e s' => R (.error e) s') s)
    (fin : ∀ s k, I s → k = !(List.range N).all e → R (.ok (.ret (.bool k))) s) {s : Shared} (h : I s) :
    wpAny (model prog w) A.in1 (Builtin.«list.__ne__» ⟨[.ref l, .ref b], []⟩) (GQ.FinOf prog w A R) (fun e s' => R (.error e) s') s := by
  obtain ⟨items, items2, n, n2, hl1, hb1, hs1, hs2, _⟩ := hl 0 _ h
  have hrec := b_ne_loop (A := A) (R := R) l b N e I hl fin _ 0 rfl (Nat.zero_le _) rfl s h
  obtain ⟨hp, g, d, tk, os⟩ := s
  have f3 := AutoSeq1.sub_list_list
  have hne : ¬ (items.size != items2.size) = true := by simp [hs1, hs2]
  wp_walk using wpAny_loadPart' hl1, wpAny_loadPart' hb1
  exact ⟨plainId_quiet plain_eq_loop _, codeAny_builtin entry_eq_loop (by
    rw [Around.under_plainId plain_eq_loop _]
    exact hrec)⟩
end
section
variable {X : Cx} {n : Nat} {d1 d2 : Da} {b : Bool} {ds es : List Da}
/-- x != y -/
def NeD (X : Cx) (n : Nat) (d1 d2 : Da) (b : Bool) : Prop := ∀ (A : Around) (pins : List (Addr × Obj)) (s : Shared) (σ : L2.St) (H : Hp) (x y : V) (u v : Value), Sub X n A → Inv X pins σ H s → RelV x u → RelV y v → DR X.K H x d1 → DR X.K H y d2 →
  wpAny (model X.prog X.w) A (richCompare .NotEq u v) (fun r s' => r = .bool b ∧ LoopI X pins σ H s') X.xe s
theorem neD_lst (e : Nat → Bool) (hl : ds.length = es.length) (h : ∀ i d d', ds[i]? = some d → es[i]? = some d' → EqD X n d d' (e i)) : NeD X (n + 1) (.lst ds) (.lst es) (!(List.range ds.length).all e) := fun A pins s σ H x y u v sb I rx ry h1 h2 => by
  cases h1 with
  | @lst a xs _ a1 a2 => cases h2 with
    | @lst c ys _ b1 b2 =>
      cases rx
      cases ry
      have hx := a2.len
      have hy := b2.len
      refine wpAny_richCompare_same_room (op := .NotEq) (id := "list.__ne__") ⟨_, (I.hok a _ a1).2.choose_spec.choose_spec.2, rfl⟩ ⟨_, (I.hok c _ b1).2.choose_spec.choose_spec.2, rfl⟩ F.slot_list_ne
        (GQ.call_here F.slot_list_ne ⟨_, (I.hok a _ a1).2.choose_spec.choose_spec.2, rfl⟩ F.entry_list_ne (F.args_list_ne_2 _ _) ?_) sb.room.units0
      refine b_list_ne (R := wants (fun v s' => v ≠ .notImplemented ∧ v = .bool (!(List.range ds.length).all e) ∧ LoopI X pins σ H s') X.xe) a c ds.length e (fun s' => LoopI X pins σ H s') (fun i s' q => ?_) (fun s' k q hk => ⟨(fun z => nomatch z), by rw [hk], q⟩) (loopI_refl I)
      obtain ⟨H1, I1, e1⟩ := id q
      obtain ⟨z, its, k, r, ee⟩ := I1.hok a _ (e1 _ _ a1)
      obtain ⟨z2, its2, k2, r2, ee2⟩ := I1.hok c _ (e1 _ _ b1)
      refine ⟨its.toArray, its2.toArray, k, k2, ee, ee2, by rw [List.size_toArray, ← r.length, hx], by rw [List.size_toArray, ← r2.length, hy, hl], fun j1 j2 => ?_⟩
      exact turn_b e h sb a2 b2 r r2 i j1 j2 s' q
def rNeDD (X : Cx) (n : Nat) : R2 := fun x y H Q => ∃ d1 d2 b, DR X.K H x d1 ∧ DR X.K H y d2 ∧ NeD X n d1 d2 b ∧ ∀ H', Ext H H' → Q (.bl b) H'
theorem op_neDD (hr : Room n X.A) : OpR X (compareOp .NotEq) (rNeDD X n) := by
  intro pins s σ H x y v u Q I rx ry ⟨d1, d2, b, h1, h2, R, q⟩
  show wpAny (model X.prog X.w) X.A (richCompare .NotEq v u) (EP X pins σ Q) X.xe s
  refine wpAny_mono (R X.A pins s σ H x y v u ⟨hr, rfl⟩ I rx ry h1 h2) (fun r s' z => ?_) fun _ _ x => x
  obtain ⟨rfl, H', I', e⟩ := z
  exact ⟨.bl b, H', I', rfl, q H' e⟩
theorem ed_neDD {σ : L2.St} {G : Hp} {ta tb : TE} (ha : Evd X.K ta σ G d1) (hb : Evd X.K tb σ G d2) (R : NeD X n d1 d2 b) : Evd X.K (tOp (rNeDD X n) ta tb) σ G (.bl b) := ed_two ha (fun _ s => hb.up s) fun x y G' H' s e dx dy Q k =>
  ⟨d1, d2, b, dx.up e, dy.up e, R, fun H2 ex => k _ G' H2 (nw_ext e ex) (.bl b)⟩
end
end GL

set_option Elab.async false
set_option linter.all false
set_option maxRecDepth 100000
set_option maxHeartbeats 4000000
namespace GL
open PySem PySem.Spec PyProof.Rows L2
section
variable {K : PySem.W.Frag} {σ : L2.St} {G : Hp} {ta tb te : TE} {ds : List Da} {d : Da} {C : Addr}
theorem ed_neB {a b c : Bool} (ha : Evd K ta σ G (.bl a)) (hb : Evd K tb σ G (.bl b)) (hz : (!decide (a = b)) = c) : Evd K (tOp rNe ta tb) σ G (.bl c) := ed_two ha (fun _ s => hb.up s) fun v w G' H' _ e dv dw Q k => by
  cases dv; cases dw
  have z : (!decide (V.bl a = V.bl b)) = c := by rw [← hz]; simp
  exact ⟨rfl, by rw [z]; exact k _ G' H' (Nw.refl e) (.bl c)⟩
theorem ed_ixT {ti : TE} {i : Nat} (h : Evd K ta σ G (.tup ds)) (hi : Evd K ti σ G (.int (i : Int))) (hd : ds[i]? = some d) : Evd K (tOp (rIxT K) ta ti) σ G d := ed_two h (fun _ s => hi.up s) fun x y G' H' _ e dx dy Q q => by
  cases dx with
  | tup h1 h2 =>
    cases dy
    obtain ⟨v, e1, e2⟩ := h2.getD hd
    exact ⟨_, _, _, v, rfl, rfl, SqT.of (e _ _ h1), atI_nat e1, q v G' H' (Nw.refl e) e2⟩
theorem bools_eqv : ∀ bs : List Bool, PyData.eqvAll (bs.map PyData.bool) (bs.map PyData.bool) = true
  | [] => by simp [PyData.eqvAll]
  | b :: bs => by simp [PyData.eqvAll, PyData.eqv, bools_eqv bs]
theorem bools_list (bs : List Bool) : PyData.eqv (.list (bs.map PyData.bool)) (.list (bs.map PyData.bool)) = true := by simp [PyData.eqv, bools_eqv bs]
theorem show_big {m : Int} (h : m.natAbs < 10 ^ 40) : ((toString m : String) : Str).length ≤ 41 ∧ m.natAbs.log2 < 1920 := by
  refine ⟨?_, ?_⟩
  · by_cases h0 : 0 ≤ m
    · have : m < 10 ^ 40 := by
        have e : (10 : Nat) ^ 40 = 10000000000000000000000000000000000000000 := by decide
        have e2 : (10 : Int) ^ 40 = 10000000000000000000000000000000000000000 := by decide
        omega
      exact Nat.le_trans (toString_length_le h0 (show 0 < 40 by decide) this) (by decide)
    · have : 0 - m < 10 ^ 40 := by
        have e : (10 : Nat) ^ 40 = 10000000000000000000000000000000000000000 := by decide
        have e2 : (10 : Int) ^ 40 = 10000000000000000000000000000000000000000 := by decide
        omega
      have l := toString_length_le (v := 0 - m) (by omega) (show 0 < 40 by decide) this
      rw [toString_neg (by omega), PyProof.Rows.ofString_length, String.toList_append, List.length_append, ← PyProof.Rows.ofString_length, ← PyProof.Rows.ofString_length]
      have e1 : (Str.ofString "-").length = 1 := by decide
      rw [e1]
      omega
  · by_cases hz : m.natAbs = 0
    · rw [hz]; decide
    · exact (Nat.log2_lt hz).mpr (Nat.lt_trans h (by decide +kernel))
theorem show_pair {a b : Int} (ha : a.natAbs < 10 ^ 40) (hb : b.natAbs < 10 ^ 40) : ∃ p, (Da.tup [.int a, .int b]).toP = some p ∧ p.showable = true ∧ p.shown.length ≤ sizeLine ∧ p.depth ≤ 60 := by
  obtain ⟨a1, a2⟩ := show_big ha
  obtain ⟨b1, b2⟩ := show_big hb
  have sa : (PyData.int a).showable = true := by show decide (a.natAbs.log2 < 1920) = true; exact decide_eq_true a2
  have sb : (PyData.int b).showable = true := by show decide (b.natAbs.log2 < 1920) = true; exact decide_eq_true b2
  refine ⟨.tuple [.int a, .int b], by simp [Da.toP, Da.toPs], by simp only [PyData.showable, PyData.showableAll] at sa sb ⊢; rw [sa, sb]; rfl, ?_, by simp only [PyData.depth, PyData.depthAll]; omega⟩
  rw [PyData.shown_tuple]
  have e : PyData.shownAll [.int a, .int b] = [((toString a : String) : Str), ((toString b : String) : Str)] := by
    simp only [PyData.shownAll, PyData.shown_int]
  rw [e, join_cons_cons, join_one]
  simp only [str_len_app]
  have e1 : (Str.ofString "(").length = 1 := by decide
  have e2 : (Str.ofString ", ").length = 2 := by decide
  have e3 : (Str.ofString ")").length = 1 := by decide
  refine Nat.le_trans ?_ (show 1000 ≤ sizeLine by decide)
  simp only [List.length_cons, List.length_nil]
  rw [e1, e2, if_neg (by decide), e3]
  omega
end
end GL
namespace K02
open PySem PySem.Spec PyProof.Rows L2 GL
structure TLw (P : Program) (w : World) (K : PySem.W.Frag) (mg : Str → Option Value) (base : Heap) (C CR CB : Addr) : Prop extends TS3 P w K mg base C CR CB where
  sys : SysAt base
  GE : ∃ fE fdE, FnOk P w K mg base CX0 11 fE fdE ["self", "other"] (Pr K 2 (Req C)) ∧ EqK K C fE ∧ OwnF K C fE ∧ PySem.W.notFirst K C (.ref C) = true ∧ Binds K fdE ["self", "other"] []
  GB : ∃ fB fdB, FnOk P w K mg base CX0 3 fB fdB ["self"] (Pr K 1 (Rbool C)) ∧ PySem.W.findIn K (.ref C) "__bool__" = some (some (.ref fB)) ∧ PySem.W.isFn K (.ref fB) = true ∧ Binds K fdB ["self"] []
  c_read : CMetX P w K mg base C "read" 9 ["cls", "text"] (Po K 2 (Rread C CB))
  si : PySem.W.subIn K (.type "int") (.ref C) = some false
  c_number : CalO P w K mg base 3 "_law_number" ["_law_pen_here"] (spNum K)
  c_divisor : CalO P w K mg base 1 "_law_divisor" ["_law_one", "_law_other"] (Pr K 2 Rgcd)
  c_draw : CalO P w K mg base 1 "_law_draw" ["_law_pen_here", "_law_many"] (spDraw 1073741824)
  c_pick : CalO P w K mg base 2 "_law_pick" ["_law_pen_here", "_law_some"] (spPick K)
def domR (C : Addr) (d1 d2 : Da) : Prop := ∃ r, d1 = rateD C r ∧ FrOk r ∧ Sz 3000 r ∧ askE C d2
theorem s3000 {a : Nat} (h : a < 10 ^ 40) : a < 2 ^ 3000 := Nat.lt_of_lt_of_le h (Nat.le_trans (show 10 ^ 40 ≤ 2 ^ 160 by decide +kernel) (Nat.pow_le_pow_right (by decide) (by decide)))
theorem gd_int {C : Addr} {i : Int} (h : i.natAbs < 10 ^ 40) : Gd C (.int i) (i, 1) := ⟨.inl ⟨i, rfl, rfl⟩, ok_int1 i, ⟨s3000 h, Nat.one_lt_two_pow (by decide)⟩⟩
section
variable {X : Cx} {C fE : Addr} {fdE : FuncData} {r : Int × Int} {d : Da} {t : String}
theorem runR (GE : FnOk X.prog X.w X.K X.mg X.base CX0 11 fE fdE ["self", "other"] (Pr X.K 2 (Req C))) (bE : Binds X.K fdE ["self", "other"] []) : OwnRun X 11 fE eqR (domR C) := ownRun_of GE bE fun d1 d2 ⟨r, e, ok, s, a⟩ => by
  subst e
  exact ⟨r, d2, rfl, ok, s, a, rfl⟩
theorem rc_ty (O : OwnF X.K C fE) (GE : FnOk X.prog X.w X.K X.mg X.base CX0 11 fE fdE ["self", "other"] (Pr X.K 2 (Req C))) (bE : Binds X.K fdE ["self", "other"] []) (ok : FrOk r) (s : Sz 3000 r) (a : askE C d) (ht : tyD d = some t) : RcD X 11 (rateD C r) d (eqR (rateD C r) d) := rcD_own O (runR GE bE) ⟨r, rfl, ok, s, a⟩ (.inl ⟨t, ht⟩)
theorem rc_rate {q : Int × Int} (O : OwnF X.K C fE) (nf : PySem.W.notFirst X.K C (.ref C) = true) (GE : FnOk X.prog X.w X.K X.mg X.base CX0 11 fE fdE ["self", "other"] (Pr X.K 2 (Req C))) (bE : Binds X.K fdE ["self", "other"] []) (ok : FrOk r) (s : Sz 3000 r) (ok2 : FrOk q) (s2 : Sz 3000 q) : RcD X 11 (rateD C r) (rateD C q) (decide (r = q)) := by
  have h := rcD_own (n := 11) O (runR GE bE) (d := rateD C q) ⟨r, rfl, ok, s, .inl ⟨q, Gd.rate ok2 s2⟩⟩ (.inr ⟨_, _, _, rfl, nf⟩)
  have e : eqR (rateD C r) (rateD C q) = decide (r = q) := by
    show decide (r.1 = q.1 ∧ r.2 = q.2) = _
    rw [decide_eq_decide, Prod.ext_iff]
  rw [← e]
  exact h
theorem rc_back (O : OwnF X.K C fE) (GE : FnOk X.prog X.w X.K X.mg X.base CX0 11 fE fdE ["self", "other"] (Pr X.K 2 (Req C))) (bE : Binds X.K fdE ["self", "other"] []) (ok : FrOk r) (s : Sz 3000 r) (a : askE C d) (ht : tyD d = some t) : RcD X 11 d (rateD C r) (eqR (rateD C r) d) := rcD_refl O (runR GE bE) ⟨r, rfl, ok, s, a⟩ ht
end
section
variable {K : PySem.W.Frag} {C CR CB : Addr} {σ : L2.St} {G : Hp} {te ta tb : TE} {r t : Int × Int} {d : Da} {i : Int}
theorem ed_boolO (h : Evd K te σ G (rateD C r)) : Evd K (tCB (rBoolO C (Pr K 1 (Rbool C))) (tCons te tNil)) σ G (.bl (r.1 != 0)) := fun H e Q q => h H e _ fun v G1 H1 n1 dv => by
  cases dv with
  | ins h1 h2 h3 =>
    exact ⟨_, _, _, rfl, n1.b _ _ h1, G1, [rateD C r], .bl (r.1 != 0), n1.b, rfl, .cons (.ins h1 h2 h3) .nil, ⟨r, rfl, rfl⟩, fun v G2 H2 n2 d2 => by
      cases d2
      exact ⟨_, rfl, q _ G2 H2 (n1.trans n2) (.bl _)⟩⟩
theorem ed_neO (ok : FrOk r) (s : Sz 3000 r) (ha : Evd K ta σ G (rateD C r)) (hb : Evd K tb σ G (rateD C r)) : Evd K (tOp (rNeO C (Pr K 2 (Req C))) ta tb) σ G (.bl false) := ed_two ha (fun _ s => hb.up s) fun v w G' H' _ e dv dw Q k => by
  have dv0 := dv
  have dw0 := dw
  cases dv with
  | ins a1 a2 a3 => cases dw with
    | ins b1 b2 b3 =>
      refine ⟨_, _, _, _, _, _, rfl, rfl, e _ _ a1, e _ _ b1, G', [rateD C r, rateD C r], .bl true, e, rfl, .cons dv0 (.cons dw0 .nil), ⟨r, rateD C r, rfl, ok, s, .inl ⟨r, Gd.rate ok s⟩, ?_⟩, fun v G2 H2 n2 d2 => ?_⟩
      · show Da.bl true = .bl (decide (r.1 = r.1 ∧ r.2 = r.2))
        simp
      · cases d2
        exact ⟨_, rfl, k _ G2 H2 n2 (.bl _)⟩
theorem ed_neI' (ok : FrOk r) (s : Sz 3000 r) (hi : i.natAbs < 10 ^ 40) (ha : Evd K ta σ G (rateD C r)) (hb : Evd K tb σ G (.int i)) : Evd K (tOp (rNeI C (Pr K 2 (Req C))) ta tb) σ G (.bl (!eqR (rateD C r) (.int i))) := ed_two ha (fun _ s => hb.up s) fun v w G' H' _ e dv dw Q k => by
  have dv0 := dv
  cases dw
  cases dv with
  | ins a1 a2 a3 =>
    refine ⟨_, _, _, i, rfl, rfl, e _ _ a1, G', [rateD C r, .int i], .bl (eqR (rateD C r) (.int i)), e, rfl, .cons dv0 (.cons (.int i) .nil), ⟨r, .int i, rfl, ok, s, .inl ⟨_, gd_int hi⟩, rfl⟩, fun v G2 H2 n2 d2 => ?_⟩
    cases d2
    exact ⟨_, rfl, k _ G2 H2 n2 (.bl _)⟩
theorem o_read (my : May C d) (ho : Evd K ta σ G (.obj C)) (h : Evd K te σ G d) : EvO K (fun E => ClX.tCMeth C (Po K 2 (Rread C CB)) E ta (tCons te tNil)) σ G (readD C CB d) := fun H e Q E q => ho H e _ fun v G1 H1 n1 dv => by
  cases dv
  exact ⟨rfl, (h.up n1.a) H1 n1.b _ fun u G2 H2 n2 du => ⟨G2, [.obj C, d], _, n2.b, rfl, .cons (.obj C) (.cons du .nil), ⟨d, rfl, my, rfl⟩, q.up (n1.trans n2)⟩⟩
theorem o_readK (my : May C d) (ho : Evd K ta σ G (.obj C)) (h : Evd K te σ G d) : EvO K (fun E => tCMethK C 1 (Po K 2 (Rread C CB)) (fun vs zs => vs ++ zs) E ta (tCons te tNil)) σ G (readD C CB d) := fun H e Q E q => ho H e _ fun v G1 H1 n1 dv => by
  cases dv
  exact ⟨rfl, (h.up n1.a) H1 n1.b _ fun u G2 H2 n2 du => ⟨rfl, G2, [.obj C, d], _, n2.b, rfl, .cons (.obj C) (.cons du .nil), ⟨d, rfl, my, rfl⟩, q.up (n1.trans n2)⟩⟩
theorem read_val {x : Str} (h : readX x = some r) : readD C CB (.str x) = .val (rateD C r) := by
  show (match readX x with | none => errT CB | some r => Out.val (rateD C r)) = _
  rw [h]
theorem read_err {x : Str} (h : readX x = none) : readD C CB (.str x) = errT CB := by
  show (match readX x with | none => errT CB | some r => Out.val (rateD C r)) = _
  rw [h]
end
end K02

set_option Elab.async false
set_option linter.all false
set_option maxRecDepth 100000
set_option maxHeartbeats 4000000
namespace K02
open PySem PySem.Spec PyProof.Rows L2 GL
def spMade (K : PySem.W.Frag) : Sp := fun vs H Q _ => ∃ (S : LS) (k : Int) (G : Hp), vs = [.ref S.PA] ∧ At S k G H ∧ k ≤ 8000 ∧ ∀ (x : Str) G1 H1, x.length ≤ 80 → At S (k + 11) G1 H1 → NwL S G H G1 H1 → Q (.str x) H1
abbrev madeN : List Str := ["_law_pen_here", "_law_high", "_law_low", "_law_scale", "_law_made", "_law_shared", "_law_sign", "_law_due", "_law_line"]
theorem sc_made : FnScope madeN ["_law_pen_here"] (defScope s__law_made_right) := ⟨rfl, rfl, rfl, by decide +kernel, rfl, by decide +kernel, by decide +kernel⟩
theorem intS_toString (i : Int) : ((toString i : String) : Str) = intS i := by
  unfold intS
  split
  · next h =>
    rw [toString_neg h]
    refine str_ext ?_
    rw [codes_app, minus_codes]
    show (Str.ofString ("-" ++ toString (0 - i))).cps.toList = _
    rw [signs_ofString, String.toList_append, List.map_append, ← signs_ofString (toString (0 - i))]
    have e : (0 - i) = ((i.natAbs : Nat) : Int) := by omega
    rw [e]
    rfl
  · next h =>
    have e : i = ((i.natAbs : Nat) : Int) := by omega
    have e2 : ((toString i : String) : Str) = ((toString ((i.natAbs : Nat) : Int) : String) : Str) := by rw [← e]
    rw [e2]
    rfl
theorem sgn_mul {a b : Int} (hb : b ≠ 0) : ((if 0 < b then 1 else -1) * a).fdiv (gcdI a b) = (nrm a b).1 ∧ ((if 0 < b then 1 else -1) * b).fdiv (gcdI a b) = (nrm a b).2 := by
  obtain ⟨e1, e2⟩ := nrm_mul (a := a) (b := b) hb
  have g := gcdI_pos (a := a) (b := b) hb
  have key : ∀ {c d : Int}, c = shd a b * d → ((if 0 < b then 1 else -1) * c).fdiv (gcdI a b) = d := fun {c d} e => by
    have e3 : ((if 0 < b then 1 else -1) * c) = gcdI a b * d := by
      rw [e]
      unfold shd
      split
      · rw [Int.one_mul]
      · rw [Int.neg_mul, Int.neg_mul, Int.one_mul, Int.neg_neg]
    rw [e3, Int.fdiv_eq_ediv_of_nonneg _ (by omega), Int.mul_ediv_cancel_left _ (by omega)]
  exact ⟨key e1, key e2⟩
theorem nrm_zero {a b : Int} (hb : b ≠ 0) : (nrm a b).1 = 0 ↔ a = 0 := by
  have e := nrm_cross (a := a) (b := b) hb
  have p := (nrm_ok (a := a) (b := b) hb).pos
  constructor
  · intro h
    rw [h, Int.zero_mul] at e
    rcases Int.mul_eq_zero.mp e.symm with h | h
    · exact h
    · omega
  · intro h
    subst h
    rw [Int.zero_mul] at e
    rcases Int.mul_eq_zero.mp e with h | h
    · exact h
    · exact absurd h hb
theorem nrm_succ {a b : Int} (hb : b ≠ 0) : nrm a b ≠ nrm (a + 1) b := fun h => by
  have e1 := nrm_cross (a := a) (b := b) hb
  have e2 := nrm_cross (a := a + 1) (b := b) hb
  have p := (nrm_ok (a := a) (b := b) hb).pos
  rw [← h] at e2
  rw [e1, Int.add_mul, Int.one_mul] at e2
  omega
theorem shd_small {a b : Int} (hb : b ≠ 0) (h : b.natAbs < 10 ^ 40) : (gcdI a b).natAbs.log2 < 9000 := by
  have h1 : (gcdI a b).natAbs ≤ b.natAbs := by
    show (((Nat.gcd a.natAbs b.natAbs : Nat) : Int)).natAbs ≤ _
    rw [Int.natAbs_natCast]
    exact Nat.gcd_le_right _ (by omega)
  have h2 := PySem.Flt.log2_lt_of (k := 3000) (by decide) (s3000 (Nat.lt_of_le_of_lt h1 h))
  omega
theorem up8 {a : Nat} (h : a < 10 ^ 40) : a < 2 ^ 8000 := pow_up (s3000 h) (by decide)
theorem rate_len {r : Int × Int} (h1 : r.1.natAbs < 10 ^ 32) (h2 : r.2.natAbs < 10 ^ 32) : (rateS r).length ≤ 80 := by
  have l1 := intS_len (i := r.1) (n := 32) (by decide) h1
  have l2 := intS_len (i := r.2) (n := 32) (by decide) h2
  unfold rateS
  have e1 : ("/" : Str).length = 1 := by decide
  split
  · omega
  · rw [str_len, str_len]; omega
section
variable {P : Program} {w : World} {K : PySem.W.Frag} {mg : Str → Option Value} {base : Heap} {C CR CB f : Addr} {fd : FuncData}
abbrev XM (P : Program) (w : World) (K : PySem.W.Frag) (mg : Str → Option Value) (base : Heap) (f : Addr) (cdv : Value) (A : Around) (outer : List Env) (s : Shared) (H : Hp) (E : XK) : Cx := (cxOf CX0 P w K mg base madeN "_law_made_right" (defScope s__law_made_right) f cdv A outer s H E).nox
theorem el_num {S : LS} {σ : L2.St} {G : Hp} {k : Int} {i : Nat} (h : σ[i]? = some (some (.ref S.PA))) (hk : k ≤ 9000) : EvL S K (tCall (spNum K) [] E0 (tCons (tVar i) tNil)) σ G k (k + 5) (fun d => ∃ x : Int, d = .int x ∧ x.natAbs < 10 ^ 32) := fun H a Q q => ⟨_, h, S, k, G, rfl, a, hk, fun x G1 H1 hx a1 n1 => q (.int x) _ G1 H1 ⟨x, rfl, hx⟩ a1 n1 (.int x)⟩
theorem ok_made (F : Fun K "_law_made_right" "_law_made_right" s__law_made_right f fd) (T : TLw P w K mg base C CR CB) : FnG P w K mg base CX0 14 f fd ["_law_pen_here"] (spMade K) := by
  refine okG F sc_made (fun vs H Q E h => by obtain ⟨S, k, G, rfl, _⟩ := h; rfl) fun cdv A outer s H vs Q E hq hr h => ?_
  obtain ⟨S, k, G, rfl, at0, hk, kk⟩ := h
  obtain ⟨fE, fdE, GE, kE, O, nf, bE⟩ := T.GE
  obtain ⟨fB, fdB, GB, hB, iB, bB⟩ := T.GB
  obtain ⟨fS, fdS, GS, hS, iS, bS⟩ := T.GS
  refine ⟨_, (pss_cons (ps_par (i := 1) (j := 2) (by rfl) sc_made.nd rfl rfl (by decide) rfl rfl (pa_cons (pe_calO T.c_number (hr.mono (by decide)) rfl (pa_cons (pv 0) pa_nil)) (pa_cons (pe_calO T.c_number (hr.mono (by decide)) rfl (pa_cons (pv 0) pa_nil)) pa_nil)) (by rfl))
    (pss_cons (ps_par (i := 2) (j := 3) (by rfl) sc_made.nd rfl rfl (by decide) rfl rfl (pa_cons (pe_ifExp (pt_cmpR op_ne (pv 2) pe_int (nomark _)) (pv 2) pe_int) (pa_cons (pe_op op_add pe_int (pe_calO T.c_draw (hr.mono (by decide)) rfl (pa_cons (pv 0) (pa_cons pe_int pa_nil)))) pa_nil)) (by rfl))
    (pss_cons (ps_par (i := 4) (j := 5) (by rfl) sc_made.nd rfl rfl (by decide) rfl rfl (pa_cons (pe_mkX T.mk2 passL (hr.mono (by decide)) rfl T.m_Rate (pa_cons (pe_op op_mulW (pv 1) (pv 3)) (pa_cons (pe_op op_mulW (pv 2) (pv 3)) pa_nil))) (pa_cons (pe_calO T.c_divisor (hr.mono (by decide)) rfl (pa_cons (pv 1) (pa_cons (pv 2) pa_nil))) pa_nil)) (by rfl))
    (pss_cons (ps_set (i := 6) sc_made.nd rfl (Or.inl rfl) (pe_ifExp (pt_cmpR op_gt (pv 2) pe_int (nomark _)) pe_int (pe_un un_neg pe_int)))
    (pss_cons (ps_set (i := 7) sc_made.nd rfl (Or.inl rfl) (pe_tup (pa_cons (pe_op op_fdivWN (pe_op op_mul (pv 6) (pv 1)) (pv 5)) (pa_cons (pe_op op_fdivWN (pe_op op_mul (pv 6) (pv 2)) (pv 5)) pa_nil))))
    (pss_cons (ps_if (PW.pt (pw_or (pt_cmpR op_ne (pe_repr rfl T.sys (hq.deeper _) hr.units T.n_repr rfl (pe_tup (pa_cons (pe_propG T.p_top (pv 4) T.cls (hr.mono (by decide))) (pa_cons (pe_propG T.p_bottom (pv 4) T.cls (hr.mono (by decide))) pa_nil)))) (pe_repr rfl T.sys (hq.deeper _) hr.units T.n_repr rfl (pv 7)) (nomark _)) (pw_or (pt_cmpR op_ne (pe_callTy (call_boolO GB hB iB bB (hr.mono (by decide))) (by rfl) T.n_bool (by decide +kernel) (pa_cons (pv 4) pa_nil)) (pe_cmpR op_ne (pv 1) pe_int (nomark _)) (nomark _)) (pw_or1 (pt_cmpR (op_neO GE kE bE (hr.mono (by decide))) (pe_smethXK T.s_of passL (pe_own T.m_Rate (by rfl)) (hr.mono (by decide)) (pk_cons (pv 4) pk_nil)) (pv 4) (nomark _)))))) (pss_one (ps_ret pe_non)) pss_nil)
    (pss_cons (ps_if (pt_neP (K := K) rfl hr.units (pe_lst (pa_cons (pe_cmpR (op_rcD (n := 11) (hr.mono (by decide))) (pv 4) (pe_ix ix_tup (pv 7) pe_int (fun _ _ => rfl)) (nomark _)) (pa_cons (pe_cmpR (op_rcD (n := 11) (hr.mono (by decide))) (pe_ix ix_tup (pv 7) pe_int (fun _ _ => rfl)) (pv 4) (nomark _)) (pa_cons (pe_cmpR (op_neI GE kE O.eq T.si bE (hr.mono (by decide))) (pv 4) (pe_ix ix_tup (pv 7) pe_int (fun _ _ => rfl)) (nomark _)) pa_nil)))) (pe_lst (pa_cons (pe_cmpR op_eq (pe_ix ix_tup (pv 7) pe_int (fun _ _ => rfl)) pe_int (nomark _)) (pa_cons (pe_cmpR op_eq (pe_ix ix_tup (pv 7) pe_int (fun _ _ => rfl)) pe_int (nomark _)) (pa_cons (pe_cmpR op_ne (pe_ix ix_tup (pv 7) pe_int (fun _ _ => rfl)) pe_int (nomark _)) pa_nil))))) (pss_one (ps_ret pe_non)) pss_nil)
    (pss_cons (ps_if (PW.pt (pw_or (pt_cmpR (op_rcD (n := 11) (hr.mono (by decide))) (pv 4) (pe_mkX T.mk2 passL (hr.mono (by decide)) rfl T.m_Rate (pa_cons (pe_op op_add (pv 1) pe_int) (pa_cons (pv 2) pa_nil))) (nomark _)) (pw_or1 (pt_cmpR (op_inE (n := 11) (hr.mono (by decide))) (pv 4) (pe_lst (pa_cons pe_non (pa_cons (pv 7) (pa_cons (pe_lst (pa_cons (pv 4) pa_nil)) (pa_cons pe_bl (pa_cons pe_bl (pa_cons (pe_callTy (call_strO GS hS iS bS (hr.mono (by decide))) (by rfl) T.n_str (by decide +kernel) (pa_cons (pv 4) pa_nil)) pa_nil))))))) (by rfl))))) (pss_one (ps_ret pe_non)) pss_nil)
    (pss_cons (ps_set (i := 8) sc_made.nd rfl (Or.inl rfl) (pe_ifExp (pt_cmpR op_eq (pe_ix ix_tup (pv 7) pe_int (fun _ _ => rfl)) pe_int (nomark _)) (pe_callTy call_str_int (by rfl) T.n_str (by decide +kernel) (pa_cons (pe_ix ix_tup (pv 7) pe_int (fun _ _ => rfl)) pa_nil)) (pe_op op_add_str (pe_op op_add_str (pe_callTy call_str_int (by rfl) T.n_str (by decide +kernel) (pa_cons (pe_ix ix_tup (pv 7) pe_int (fun _ _ => rfl)) pa_nil)) pe_str) (pe_callTy call_str_int (by rfl) T.n_str (by decide +kernel) (pa_cons (pe_ix ix_tup (pv 7) pe_int (fun _ _ => rfl)) pa_nil)))))
    (pss_one (ps_ret (pe_ifExp (PW.pt (pw_and (pt_cmpR op_eq (pe_callTy (call_strO GS hS iS bS (hr.mono (by decide))) (by rfl) T.n_str (by decide +kernel) (pa_cons (pv 4) pa_nil)) (pv 8) (nomark _)) (pw_and1 (pt_cmpR (op_rcD (n := 11) (hr.mono (by decide))) (pe_cmethXK T.c_read passL (pe_own T.m_Rate (by rfl)) (hr.mono (by decide)) (pk_cons (pv 8) pk_nil)) (pv 4) (nomark _))))) (pv 8) pe_non)))))))))))), ?_⟩
  refine ql_par at0 (el_num rfl (by omega)) (el_num rfl (by omega)) fun v1 d1 v2 d2 G1 H1 ⟨a, e1, ha⟩ ⟨b0, e2, hb0⟩ at1 n1 dv1 dv2 => ?_
  subst e1
  subst e2
  cases dv1
  cases dv2
  have b32 : (10 : Nat) ^ 32 = 100000000000000000000000000000000 := by decide
  have b40 : (10 : Nat) ^ 40 = 10000000000000000000000000000000000000000 := by decide
  obtain ⟨b, hb, bne, bb⟩ : ∃ b : Int, b = (if b0 = 0 then 5 else b0) ∧ b ≠ 0 ∧ b.natAbs < 10 ^ 32 := ⟨_, rfl, by split <;> omega, by
    split
    · decide
    · exact hb0⟩
  refine ql_par (K := K) at1 (el_d (d := .int b) (x_if (b := !decide (b0 = 0)) (et_of (K := K) (ed_neI (ed_var (i := 2) rfl (.int b0)) xc_int rfl)) (fun h => ed_is (ed_var (i := 2) rfl (.int b0)) (by rw [hb, if_neg (by simpa using h)])) fun h => ed_is xc_int (by rw [hb, if_pos (by simpa using h)]))) (el_addI (i := 1) (R := fun d => ∃ r : Int, d = .int r ∧ 0 ≤ r ∧ r < 24) (el_mono (el_draw (K := K) rfl ⟨by decide, by decide⟩ (by omega)) (fun d ⟨r, e, r0, r1⟩ => ⟨r, e, r, rfl, r0, r1⟩) (Int.le_refl _))) fun v3 d3 v4 d4 G2 H2 e3 ⟨r0, e4, r1, e5, r2, r3⟩ at2 n2 dv3 dv4 => ?_
  subst e3
  subst e4
  cases e5
  cases dv3
  cases dv4
  obtain ⟨c, hc, c1, c2⟩ : ∃ c : Int, c = 1 + r0 ∧ 1 ≤ c ∧ c ≤ 24 := ⟨_, rfl, by omega, by omega⟩
  rw [← hc]
  have cs : ∀ {x : Int}, x.natAbs < 10 ^ 32 → (x * c).natAbs < 10 ^ 40 := fun {x} h => by
    rw [Int.natAbs_mul]
    have : c.natAbs ≤ 24 := by omega
    have h2 := Nat.mul_le_mul (Nat.le_of_lt h) this
    rw [b32] at h2
    rw [b40]
    omega
  have c40 : c.natAbs < 10 ^ 40 := by rw [b40]; omega
  have a40 : a.natAbs < 10 ^ 40 := by rw [b40]; rw [b32] at ha; omega
  have bb40 : b.natAbs < 10 ^ 40 := by rw [b40]; rw [b32] at bb; omega
  have en : nrm (a * c) (b * c) = nrm a b := nrm_same (Int.mul_ne_zero bne (by omega)) bne (by rw [Int.mul_assoc, Int.mul_comm c b])
  refine ql_par (K := K) at2 (el_d (d := rateD C (nrm a b)) (ed_is (ed_mk (CR := CR) (a := a * c) (b := b * c) (ed_mul3 (s3000 a40) (s3000 c40) (ed_var (i := 1) rfl (.int a)) (ed_var (i := 3) rfl (.int c))) (ed_mul3 (s3000 bb40) (s3000 c40) (ed_var (i := 2) rfl (.int b)) (ed_var (i := 3) rfl (.int c))) (Int.mul_ne_zero bne (by omega)) (up8 (cs ha)) (up8 (cs bb)) E0) (by rw [en]))) (el_d (d := .int (gcdI a b)) (x_callR (R := Rgcd) (xs_cons (ed_var (i := 1) rfl (.int a)) (xs_cons (ed_var (i := 2) rfl (.int b)) es_nil)) rfl ⟨a, b, rfl, rfl⟩)) fun v5 d5 v6 d6 G3 H3 e5 e6 at3 n3 dv5 dv6 => ?_
  subst e5
  subst e6
  cases dv6
  generalize er : nrm a b = r at *
  have ok : FrOk r := er ▸ nrm_ok bne
  obtain ⟨sz1, sz2⟩ : r.1.natAbs < 10 ^ 32 ∧ r.2.natAbs < 10 ^ 32 := by rw [← er]; exact nrm_le bne ha bb
  have up : ∀ {x : Int}, x.natAbs < 10 ^ 32 → x.natAbs < 10 ^ 40 := fun {x} h => by rw [b40]; rw [b32] at h; omega
  have sz : Sz 3000 r := ⟨s3000 (up sz1), s3000 (up sz2)⟩
  have szd : Szd r := ⟨Nat.lt_of_lt_of_le sz1 (Nat.pow_le_pow_right (by decide) (by decide)), Nat.lt_of_lt_of_le sz2 (Nat.pow_le_pow_right (by decide) (by decide))⟩
  refine ql_asg (K := K) (d := .int (if 0 < b then 1 else -1)) at3 (x_if (b := decide (0 < b)) (et_of (K := K) (ed_gtI (ed_var (i := 2) rfl (.int b)) xc_int rfl)) (fun h => ed_is xc_int (by rw [if_pos (of_decide_eq_true h)])) fun h => ed_is (ed_negI xc_int) (by rw [if_neg (of_decide_eq_false h)])) fun v7 G4 H4 at4 n4 dv7 => ?_
  have dv5 := dv5.up n4.a
  cases dv7
  obtain ⟨g1, g2⟩ := sgn_mul (a := a) (b := b) bne
  rw [er] at g1 g2
  have gp := gcdI_pos (a := a) (b := b) bne
  have sgs : (if 0 < b then (1 : Int) else -1) = 1 ∨ (if 0 < b then (1 : Int) else -1) = -1 := by split <;> simp
  have scm : ∀ x : Int, CMul (if 0 < b then 1 else -1) x := fun x => .inl (by rcases sgs with h | h <;> rw [h] <;> decide)
  refine ql_asg (K := K) (d := .tup [.int r.1, .int r.2]) at4 (ed_is (x_tup (xs_cons (ed_fdivWN ⟨by omega, shd_small bne bb40⟩ (ed_mulI (scm a) (ed_var (i := 6) rfl (.int _)) (ed_var (i := 1) rfl (.int a))) (ed_var (i := 5) rfl (.int (gcdI a b)))) (xs_cons (ed_fdivWN ⟨by omega, shd_small bne bb40⟩ (ed_mulI (scm b) (ed_var (i := 6) rfl (.int _)) (ed_var (i := 2) rfl (.int b))) (ed_var (i := 5) rfl (.int (gcdI a b)))) es_nil))) (by rw [g1, g2])) fun v8 G5 H5 at5 n5 dv8 => ?_
  have dv5 := dv5.up n5.a
  refine ql_no at5 (x_or (b := false) (c := false) (et_of (K := K) (ed_reprs (K := K) (x_tup (xs_cons (ed_top (ed_var (i := 4) rfl dv5)) (xs_cons (ed_bot (ed_var (i := 4) rfl dv5)) es_nil))) (ed_var (i := 7) rfl dv8) (show_pair (up sz1) (up sz2)))) (x_or (b := false) (c := false) (et_of (K := K) (ed_neB (K := K) (ed_boolO (ed_var (i := 4) rfl dv5)) (ed_neI (ed_var (i := 1) rfl (.int a)) xc_int rfl) (by
    have z := nrm_zero (a := a) (b := b) bne
    rw [er] at z
    by_cases h : a = 0
    · simp [h, z.mpr h]
    · have : ¬ r.1 = 0 := fun y => h (z.mp y)
      simp [h, this]))) (et_of (K := K) (ed_neO (K := K) ok sz (EvO.val (o_smethK (Ro := Rof C CR) (ed_c fun _ => .obj C) (xs_cons (ed_var (i := 4) rfl dv5) es_nil) rfl rfl ⟨_, rfl, .inr (.inl ⟨r, rfl, rfl⟩)⟩) E0) (ed_var (i := 4) rfl dv5))))) fun G6 H6 at6 n6 => ?_
  have dv5 := dv5.up n6.a
  have dv8 := dv8.up n6.a
  have i0 : ∀ {G : Hp} {σ : L2.St}, σ[7]? = some (some v8) → DR K G v8 (.tup [.int r.1, .int r.2]) → Evd K (tOp (rIxT K) (tVar 7) (tC (.int 0))) σ G (.int r.1) := fun {G σ} hs dv => ed_ixT (i := 0) (ed_var hs dv) xc_int rfl
  have i1 : ∀ {G : Hp} {σ : L2.St}, σ[7]? = some (some v8) → DR K G v8 (.tup [.int r.1, .int r.2]) → Evd K (tOp (rIxT K) (tVar 7) (tC (.int 1))) σ G (.int r.2) := fun {G σ} hs dv => ed_ixT (i := 1) (ed_var hs dv) xc_int rfl
  have ask1 : askE C (.int r.1) := .inl ⟨_, gd_int (up sz1)⟩
  have e1 : eqR (rateD C r) (.int r.1) = decide (r.2 = 1) := by
    show decide (r.1 = r.1 ∧ r.2 = 1) = _
    simp
  refine ql_no at6 (et_of (K := K) (x_neP (K := K) (d1 := .lst ([decide (r.2 = 1), decide (r.2 = 1), !decide (r.2 = 1)].map Da.bl)) (d2 := .lst ([decide (r.2 = 1), decide (r.2 = 1), !decide (r.2 = 1)].map Da.bl)) (p := .list ([decide (r.2 = 1), decide (r.2 = 1), !decide (r.2 = 1)].map PyData.bool)) (q := .list ([decide (r.2 = 1), decide (r.2 = 1), !decide (r.2 = 1)].map PyData.bool))
    (x_lst (xs_cons (ed_is (ed_rcD (X := XM P w K mg base f cdv A outer s H E) (ed_var (i := 4) rfl dv5) (i0 rfl dv8) (rc_ty O GE bE ok sz ask1 rfl)) (congrArg Da.bl e1)) (xs_cons (ed_is (ed_rcD (X := XM P w K mg base f cdv A outer s H E) (i0 rfl dv8) (ed_var (i := 4) rfl dv5) (rc_back O GE bE ok sz ask1 rfl)) (congrArg Da.bl e1)) (xs_cons (ed_is (ed_neI' (K := K) ok sz (up sz1) (ed_var (i := 4) rfl dv5) (i0 rfl dv8)) (by rw [e1])) es_nil))))
    (x_lst (xs_cons (ed_eqI (i1 rfl dv8) xc_int rfl) (xs_cons (ed_eqI (i1 rfl dv8) xc_int rfl) (xs_cons (ed_neI (i1 rfl dv8) xc_int rfl) es_nil)))) rfl rfl rfl rfl rfl rfl (Nat.le_of_ble_eq_true rfl) (by rw [bools_list]; rfl))) fun G7 H7 at7 n7 => ?_
  have dv5 := dv5.up n7.a
  have dv8 := dv8.up n7.a
  have sa1 : (a + 1).natAbs < 10 ^ 40 := by rw [b40]; rw [b32] at ha; omega
  have ok2 : FrOk (nrm (a + 1) b) := nrm_ok bne
  have sz2' : Sz 3000 (nrm (a + 1) b) := nrm_sz bne (s3000 sa1) (s3000 bb40)
  have nsu : decide (r = nrm (a + 1) b) = false := decide_eq_false (er ▸ nrm_succ bne)
  have odd : ∀ {d : Da} {t : String}, tyD d = some t → intD d = false → okE d = true → EqD (XM P w K mg base f cdv A outer s H E) 11 d (rateD C r) false := fun {d t} ht hn ho => by
    have h := rc_back (X := XM P w K mg base f cdv A outer s H E) O GE bE ok sz (.inr ⟨⟨t, ht⟩, hn⟩) ht
    rw [(eq_no (C := C) (r := r) ⟨t, ht⟩ hn).1] at h
    exact h.eqD ho rfl (.inr rfl) (fun e => by subst e; cases ht)
  refine ql_no at7 (x_or (b := false) (c := false) (et_is (et_of (K := K) (ed_rcD (X := XM P w K mg base f cdv A outer s H E) (ed_var (i := 4) rfl dv5) (ed_mk (CR := CR) (ed_addI (ed_var (i := 1) rfl (.int a)) xc_int) (ed_var (i := 2) rfl (.int b)) bne (up8 sa1) (up8 bb40) E0) (rc_rate O nf GE bE ok sz ok2 sz2'))) nsu) (et_of (K := K) (ed_inE (X := XM P w K mg base f cdv A outer s H E) (n := 11) (fun _ => false) (ds := [.non, .tup [.int r.1, .int r.2], .lst [rateD C r], .bl true, .bl false, .str (rateS r)]) (ed_var (i := 4) rfl dv5) (x_lst (xs_cons xc_non (xs_cons (ed_var (i := 7) rfl dv8) (xs_cons (x_lst (xs_cons (ed_var (i := 4) rfl dv5) es_nil)) (xs_cons xc_bl (xs_cons xc_bl (xs_cons (ed_strO szd (ed_var (i := 4) rfl dv5)) es_nil))))))) (fun i d' h => by
    have hm := List.mem_of_getElem? h
    simp only [List.mem_cons, List.not_mem_nil, or_false] at hm
    rcases hm with rfl | rfl | rfl | rfl | rfl | rfl
    all_goals exact odd rfl rfl rfl) (by simp)))) fun G8 H8 at8 n8 => ?_
  have dv5 := dv5.up n8.a
  have dv8 := dv8.up n8.a
  have st : ∀ {te : TE} {σ : L2.St} {G : Hp} {x : Int}, Evd K te σ G (.int x) → x.natAbs < 10 ^ 32 → Evd K (tCB rStrI (tCons te tNil)) σ G (.str (intS x)) := fun {te σ G x} h hx => ed_is (ed_strI h (show_big (up hx)).2) (congrArg Da.str (intS_toString x))
  have l1 := intS_len (i := r.1) (n := 32) (by decide) sz1
  have l2 := intS_len (i := r.2) (n := 32) (by decide) sz2
  have es1 : ("/" : Str).length = 1 := by decide
  refine ql_asg (K := K) (d := .str (rateS r)) at8 (x_if (b := decide (r.2 = 1)) (et_of (K := K) (ed_eqI (i1 rfl dv8) xc_int rfl)) (fun h => ed_is (st (i0 rfl dv8) sz1) (by rw [rateS, if_pos (of_decide_eq_true h)])) fun h => ed_is (ed_catS (ed_catS (st (i0 rfl dv8) sz1) xc_str (by rw [es1]; omega)) (st (i1 rfl dv8) sz2) (by rw [str_len, es1]; omega)) (by rw [rateS, if_neg (of_decide_eq_false h)])) fun v9 G9 H9 at9 n9 dv9 => ?_
  have dv5 := dv5.up n9.a
  cases dv9
  have ll := rate_len sz1 sz2
  refine ql_retL (R := fun d => d = .str (rateS r)) (k1 := k + 11) at9 (el_mono (el_d (K := K) (d := .str (rateS r)) (x_if (b := true && decide (r = r)) (x_and (b := true) (et_is (et_of (K := K) (x_eqs (K := K) (ed_strO szd (ed_var (i := 4) rfl dv5)) (ed_var (i := 8) rfl (.str (rateS r))) rfl)) (decide_eq_true rfl)) (et_of (K := K) (ed_rcD (X := XM P w K mg base f cdv A outer s H E) (EvO.val (EvO.is (o_readK (CB := CB) (.str _ (by omega)) (ed_c fun _ => .obj C) (ed_var (i := 8) rfl (.str (rateS r)))) (read_val (read_rate ok))) E0) (ed_var (i := 4) rfl dv5) (rc_rate O nf GE bE ok sz ok sz)))) (fun _ => ed_var (i := 8) rfl (.str (rateS r))) fun h => by simp at h)) (fun d e => e) (by omega)) fun v d GA HA e atA nA dv => ?_
  subst e
  cases dv
  exact kk _ GA HA ll atA (nwl_in at0 n1 (nwl_in at1 n2 (nwl_in at2 n3 (nwl_in at3 n4 (nwl_in at4 n5 (nwl_in at5 n6 (nwl_in at6 n7 (nwl_in at7 n8 (nwl_in at8 n9 nA atA) atA) atA) atA) atA) atA) atA) atA) atA)
end
end K02

set_option Elab.async false
set_option linter.all false
set_option maxRecDepth 100000
set_option maxHeartbeats 4000000
namespace K02
open PySem PySem.Spec PyProof.Rows L2 GL
structure Errs (K : PySem.W.Frag) (CP CR CB : Addr) : Prop where
  eR : PySem.W.exmOne K (.ref CR) (.ref CP) = some true
  gR : OGet K CR
  fR : PySem.W.findIn K (.ref CR) "part" = some none
  kR : PySem.W.kitOne K (.ref CR) (.ref CR) = some true
  kRB : PySem.W.kitOne K (.ref CR) (.ref CB) = some false
  eB : PySem.W.exmOne K (.ref CB) (.ref CP) = some true
  gB : OGet K CB
  fL : PySem.W.findIn K (.ref CB) "line" = some none
  fW : PySem.W.findIn K (.ref CB) "word" = some none
  kB : PySem.W.kitOne K (.ref CB) (.ref CB) = some true
def EHeard (CR CB : Addr) (Q : VK) : XK := fun cls d H' =>
  (∃ (dx : Addr) (v : V), d = some dx ∧ cls = .ref CR ∧ H' dx = some (.xd (([("part" : Str)] : List Str).zip [v])) ∧ ∀ a, H' a = none → Q v (upd H' a (exk a CR d))) ∨
  (∃ (dx : Addr) (x y : V), d = some dx ∧ cls = .ref CB ∧ H' dx = some (.xd (([("word" : Str), "line"] : List Str).zip [y, x])) ∧ ∀ a p, H' a = none → upd H' a (exk a CB d) p = none → Q (.ref p) (upd (upd H' a (exk a CB d)) p (.tup [x, y])))
def THeard (CR CB : Addr) : (XK → Hp → VK → Prop) → Hp → VK → Prop := fun tl H Q => ∀ p0, H p0 = none →
  ∀ Q' : VK, (∀ v H', (∀ p, H' p = none → Q (.ref p) (upd H' p (.lst [v]))) → Q' v H') → tl (EHeard CR CB Q) (upd H p0 (.tup [.non, .non])) Q'
theorem takes_len {X : Cx} {W : WX} {n : Nat} (tk : Takes X W) (hn : X.N.length = n) : Takes X (fun cls d σ H => σ.length = n → W cls d σ H) := fun u s' ⟨a, B, sI, pins, σ, H, cls, d, e, I, nb, up, sky, na, os, ag, w⟩ =>
  tk u s' ⟨a, B, sI, pins, σ, H, cls, d, e, I, nb, up, sky, na, os, ag, w (I.len.trans hn)⟩
abbrev heardN : List Str := ["_law_ask", "_law_caught", "_law_found", "error"]
theorem sc_heard : FnScope heardN ["_law_ask"] (defScope s__law_heard) := ⟨rfl, rfl, rfl, by decide +kernel, rfl, by decide +kernel, by decide +kernel⟩
theorem heard_gives {X : Cx} {K : PySem.W.Frag} {g CP CR CB : Addr} {cdg : Value} {q : Str} (hK : X.K = K) (mP : X.mg "PullError" = some (.ref CP)) (mR : X.mg "BadRate" = some (.ref CR)) (mB : X.mg "BadText" = some (.ref CB)) (mi : X.mg "isinstance" = none) (R : Errs K CP CR CB) :
    LamX.GivesTo X heardN "_law_heard" (defScope s__law_heard) g cdg (defBody s__law_heard) "_law_ask" q (THeard CR CB) := by
  intro f c' s H Q tl act hc h
  refine ⟨_, pss_cons (ps_asg (pe_tup (pa_cons pe_non (pa_cons pe_non pa_nil))) (pg_tup rfl (pgs_cons (pg_name (i := 1) sc_heard.nd rfl (Or.inl rfl)) (pgs_cons (pg_name (i := 2) sc_heard.nd rfl (Or.inl rfl)) pgs_nil))))
    (pss_cons (ps_try_kept (i := 3) (c := .ref CP) (tb := fun W D σ H => ∃ Ech : XK, (∀ cls d (σ' : L2.St) H', σ'.length = 4 → Ech cls d H' → W cls d σ' H') ∧ σ[0]? = some (some (.ref f)) ∧ H c' = some (LamX.CodeO c' q) ∧ tl Ech H (fun v H1 => D.nx (σ.set 2 (some v)) H1)) (ts := fun a cls d => tAsg (tVar 3) (gName 1)) rfl rfl rfl sc_heard.nd rfl rfl ⟨rfl, by decide, .inl mP⟩ LamX.takes0
      (fun W pn xe tk _ => ⟨fun pins s' σ H' D I ⟨Ech, hW, h1, h2, h3⟩ => (pss_one (ps_set (i := 2) sc_heard.nd rfl (Or.inl rfl) (act _ pn xe Ech _ _ (takes_len tk rfl) fun cls d σ' H' e l => hW cls d σ' H' l e))).run pins s' σ H' D I ⟨h1, h2, h3⟩⟩)
      (fun a oe cls d pn _ _ => pss_one (ps_set (i := 1) sc_heard.nd rfl (Or.inl rfl) (pv 3))))
    (pss_cons (ps_if (pt_cmpR op_isN1 (pv 1) pe_non (nomark _)) (pss_one (ps_ret (pe_lst (pa_cons (pv 2) pa_nil)))) pss_nil)
    (pss_cons (ps_if (pt_val (pe_isK (K := K) hK mi (by rfl) (pa_cons (pv 1) (pa_cons (pe_own mB rfl) pa_nil)))) (pss_one (ps_ret (pe_tup (pa_cons (pe_ofk (K := K) hK (pv 1)) (pa_cons (pe_ofk (K := K) hK (pv 1)) pa_nil))))) pss_nil)
    (pss_one (ps_ret (pe_ifExp (pt_val (pe_isK (K := K) hK mi (by rfl) (pa_cons (pv 1) (pa_cons (pe_own mR rfl) pa_nil)))) (pe_ofk (K := K) hK (pv 1)) pe_str)))))), ?_⟩
  refine ⟨by show 2 ≤ sizeLine; decide, fun p0 hp0 => ⟨p0, [.non, .non], rfl, SqT.of upd_same, rfl, .non, [.non], rfl, .non, [], rfl, rfl, ?_⟩⟩
  have nc : c' ≠ p0 := ne_of_none hc hp0
  have hKn : (cxOf C8.CX0 X.prog X.w X.K X.mg X.base heardN "_law_heard" (defScope s__law_heard) g cdg X.A X.stack s H C8.E0).nox.K = K := hK
  refine ⟨EHeard CR CB Q, fun cls d σ' H' hl z => ?_, rfl, by rw [upd_ne nc]; exact hc, ?_⟩
  · match σ', hl with
    | [x0, x1, x2, x3], _ =>
      rcases z with ⟨dx, v, rfl, rfl, hx, k⟩ | ⟨dx, x, y, rfl, rfl, hx, k⟩
      · refine ⟨true, by rw [hKn]; exact R.eR, fun _ => ⟨CR, rfl, fun a ha => ⟨.ref a, rfl, fun na => ?_⟩⟩, fun z => nomatch z⟩
        have hx2 : upd H' a (exk a CR (some dx)) dx = some (.xd (([("part" : Str)] : List Str).zip [v])) := by rw [upd_ne (ne_of_none hx ha)]; exact hx
        refine st_seq (st_no (ans_isN (val_var (i := 1) (v := .ref a) rfl) rfl) (st_next ?_))
        refine ⟨.ref a, rfl, a, CR, dx, _, .ref CB, .ref CB, false, rfl, .own CB, R.gR, upd_same, hx2, R.kRB, false, rfl, ?_⟩
        refine ⟨.ref a, rfl, a, CR, dx, _, .ref CR, .ref CR, true, rfl, .own CR, R.gR, upd_same, hx2, R.kR, true, rfl, ?_⟩
        exact ⟨.ref a, rfl, a, CR, dx, _, v, rfl, R.gR, R.fR, upd_same, hx2, rfl, k a ha⟩
      · refine ⟨true, by rw [hKn]; exact R.eB, fun _ => ⟨CB, rfl, fun a ha => ⟨.ref a, rfl, fun na => ?_⟩⟩, fun z => nomatch z⟩
        have hx2 : upd H' a (exk a CB (some dx)) dx = some (.xd (([("word" : Str), "line"] : List Str).zip [y, x])) := by rw [upd_ne (ne_of_none hx ha)]; exact hx
        refine st_seq (st_no (ans_isN (val_var (i := 1) (v := .ref a) rfl) rfl) (st_next ?_))
        refine ⟨.ref a, rfl, a, CB, dx, _, .ref CB, .ref CB, true, rfl, .own CB, R.gB, upd_same, hx2, R.kB, true, rfl, ?_⟩
        exact ⟨.ref a, rfl, a, CB, dx, _, x, rfl, R.gB, R.fL, upd_same, hx2, rfl, .ref a, rfl, a, CB, dx, _, y, rfl, R.gB, R.fW, upd_same, hx2, rfl, by show 2 ≤ sizeLine; decide, fun p hp => k a p ha hp⟩
  · refine h p0 hp0 _ fun v H' k => ?_
    refine st_seq (st_yes (ans_isN (val_var (i := 1) (v := .non) rfl) rfl) ?_)
    exact ⟨v, rfl, by show 1 ≤ sizeLine; decide, k⟩
structure TH (mg : Str → Option Value) (K : PySem.W.Frag) (CP CR CB : Addr) : Prop where
  mP : mg "PullError" = some (.ref CP)
  mR : mg "BadRate" = some (.ref CR)
  mB : mg "BadText" = some (.ref CB)
  mi : mg "isinstance" = none
  R : Errs K CP CR CB
  he : ∃ g fd, mg "_law_heard" = some (.ref g) ∧ Fun K "_law_heard" "_law_heard" s__law_heard g fd ∧ Binds K fd ["_law_ask"] []
/-- what is heard -/
inductive Hears (CR CB : Addr) : Out → Da → Prop where
  | val (d : Da) : Hears CR CB (.val d) (.lst [d])
  | rate (e : Da) : Hears CR CB (.err CR ["part"] [e]) e
  | text (w l : Da) : Hears CR CB (.err CB ["word", "line"] [w, l]) (.tup [l, w])
section
variable {X : Cx} {K : PySem.W.Frag} {CP CR CB c PT : Addr} {T : List (Addr × Str)} {params : Arguments} {scope : Scope} {p lpos pos : Pos}
theorem pe_heard {kk : Nat} {body : Expr} {t : XK → TE} (hK : X.K = K) (Z : TH X.mg K CP CR CB) (hg : Gl X "_law_heard") (TB : LamX.TabB X.base X.mg c PT) (hcode : X.env.code = .ref c) (hmT : (PT, X.env.qual ++ "<lambda>") ∈ T) (hu : ∀ p ∈ T, p.1 = PT → p.2 = X.env.qual ++ "<lambda>") (hr : Room (kk + 2) X.A) (L : LamX.LamS X.env.scope scope) (hdef : defaultsOf params X.env = ([], []))
    (hbind : ∀ (q : Str) (cl : List (Str × Addr)) (pm cv ctv : Value), bindArgs (PySem.W.kla_fn "<lambda>" q params body scope cl pm cv ctv) ⟨[], []⟩ = pure [])
    (hbody : ∀ (A : Around) (outer : List Env) (s : Shared) (H : Hp) (E : XK) (f c' : Addr), Room kk (A.deeper (LamX.lamEnv X scope s.heap.objs.size f c')) → PE (LamX.lamCx X A outer s H E scope f c') body (t E)) :
    PE X (.Call (.Name "_law_heard" p) [.Lambda params body scope lpos] [] pos) (LamX.tLam T (THeard CR CB) t) := by
  subst hK
  obtain ⟨g, fd, mg, FH, bH⟩ := Z.he
  obtain ⟨oc, od, kV, doc, pm, an, cdv, ct, osl, rfl, lk, hcd'⟩ := FH.ex
  exact LamX.pe_lamcall (k := kk) (c := c) (P := PT) hg mg FH.kp lk hcd' bH sc_heard rfl (Or.inl rfl) (heard_gives rfl Z.mP Z.mR Z.mB Z.mi Z.R) TB hcode hmT hu hr L hdef hbind hbody
theorem el_heard {S : LS} {σ : L2.St} {G : Hp} {k : Int} {te : XK → TE} {o : Out} {d : Da} (ev : EvO K te σ G o) (hh : Hears CR CB o d) : EvL S K (LamX.tLam S.T (THeard CR CB) te) σ G k k (· = d) := fun H a Q q => by
  refine ⟨a.tabs, fun H1 ex hT1 p0 hp0 Q' hQ' => ?_⟩
  obtain ⟨k', g, h1, h2⟩ := a.pen
  have a1 : At S k G H1 := ⟨⟨k', g, h1, ⟨ex _ _ h2.hp (fun _ z => nomatch z), ex _ _ h2.hc (fun _ z => nomatch z), h2.ne, h2.k0, h2.g0⟩⟩, a.len, hT1, fun b o z => ex b o (a.same b o z) (a.nt b o z), a.gP, a.nt⟩
  have n1 : NwL S G H G H1 := ⟨fun b o e _ t => ex b o e t, Same.refl G, fun _ _ _ _ z => z⟩
  have aN := a1.new (o := .tup [.non, .non]) hp0 (fun ps z => by cases z)
  have g0 : G p0 = none := a1.same.free hp0
  have sG : Same G (upd G p0 (.tup [.non, .non])) := same_upd (Same.refl G) g0
  have a2 : At S k G (upd H1 p0 (.tup [.non, .non])) := aN.1.back sG
  have n2 : NwL S G H1 G (upd H1 p0 (.tup [.non, .non])) := ⟨fun b o e _ _ => by rw [upd_ne (ne_of_none e hp0)]; exact e, Same.refl G, fun _ _ _ _ z => z⟩
  have n12 : NwL S G H G (upd H1 p0 (.tup [.non, .non])) := nwl_in a n1 n2 a2
  refine ev _ a2.same Q' (EHeard CR CB Q) ?_
  cases hh with
  | val d =>
    intro v G' H' n dv
    refine hQ' v H' fun p hp => ?_
    obtain ⟨a3, n3⟩ := a2.nw n
    obtain ⟨a4, n4⟩ := a3.new (o := .lst [v]) hp (fun ps z => by cases z)
    exact q (.ref p) _ _ _ rfl a4 (nwl_in a n12 (nwl_in a2 n3 n4 a4) a4) (.lst upd_same (.cons ((DR.cl d dv).up n4.a) .nil))
  | rate e =>
    intro G' H' dx us n hx hl du
    obtain ⟨v, rfl, dv⟩ := one_of du
    refine .inl ⟨dx, v, rfl, rfl, hx, fun a' ha => ?_⟩
    obtain ⟨a3, n3⟩ := a2.nw n
    obtain ⟨a4, n4⟩ := a3.new (o := exk a' CR (some dx)) ha (fun ps z => by unfold exk at z; cases z)
    exact q v _ _ _ rfl a4 (nwl_in a n12 (nwl_in a2 n3 n4 a4) a4) ((DR.cl d dv).up n4.a)
  | text w l =>
    intro G' H' dx us n hx hl du
    obtain ⟨y, x, rfl, dy, d0⟩ := two_of du
    refine .inr ⟨dx, x, y, rfl, rfl, hx, fun a' p' ha hp => ?_⟩
    obtain ⟨a3, n3⟩ := a2.nw n
    obtain ⟨a4, n4⟩ := a3.new (o := exk a' CB (some dx)) ha (fun ps z => by unfold exk at z; cases z)
    obtain ⟨a5, n5⟩ := a4.new (o := .tup [x, y]) hp (fun ps z => by cases z)
    have up := n4.a.trans n5.a
    exact q (.ref p') _ _ _ rfl a5 (nwl_in a n12 (nwl_in a2 n3 (nwl_in a3 n4 n5 a5) a5) a5) (.tup upd_same (.cons ((DR.cl l d0).up up) (.cons ((DR.cl w dy).up up) .nil)))
end
end K02

set_option Elab.async false
set_option linter.all false
set_option maxRecDepth 100000
set_option maxHeartbeats 4000000
namespace GL
open PySem PySem.Spec PyProof.Rows L2
section
variable {S : LS} {K : PySem.W.Frag} {σ : L2.St} {k k1 k0 : Int} {G H G0 H0 G1 H1 : Hp} {tt : TT} {ta tb te : TE} {tu tz : TS} {D : Ends} {b : Bool} {d : Da} {p : Addr} {o : HO} {xs : List V} {i : Nat}
theorem ql_ifb (a : At S k G H) (h : Evt tt σ G b) (h1 : b = true → ∀ G1 H1, At S k G1 H1 → NwL S G H G1 H1 → tu { D with nx := tz D } σ H1) (h2 : b = false → ∀ G1 H1, At S k G1 H1 → NwL S G H G1 H1 → tz D σ H1) : tSeq (tIfS tt tu tNext) tz D σ H := (el_t h : EvLt S tt σ G k k b) H a _ fun G1 H1 a1 n1 => by
  cases b with
  | true => exact h1 rfl G1 H1 a1 n1
  | false => exact h2 rfl G1 H1 a1 n1
/-- a list that is no data yet -/
theorem At.raw {p : Addr} {o : HO} (a : At S k G H) (hp : H p = none) : At S k G (upd H p o) ∧ NwL S G H G (upd H p o) := by
  obtain ⟨k', g, h1, h2⟩ := a.pen
  have sH : Same H (upd H p o) := same_upd (Same.refl H) hp
  exact ⟨⟨⟨k', g, h1, h2.same sH⟩, a.len, a.tabs.ext sH, a.same.trans sH, a.gP, a.nt⟩, ⟨fun b u e _ _ => sH _ _ e, Same.refl G, fun _ _ _ _ z => z⟩⟩
theorem At.set (a : At S k G H) (hp : H p = some (.lst xs)) (gp : G p = none) (ne : p ≠ S.PA) (nec : p ≠ S.c) : At S k G (upd H p o) := by
  obtain ⟨k', g, h1, h2⟩ := a.pen
  have bt : But p H (upd H p o) := But.upd
  refine ⟨⟨k', g, h1, ?_⟩, a.len, tabs_but2 a.tabs hp bt, fun b u z => ?_, a.gP, a.nt⟩
  · exact ⟨by rw [upd_ne (Ne.symm ne)]; exact h2.hp, by rw [upd_ne (Ne.symm nec)]; exact h2.hc, h2.ne, h2.k0, h2.g0⟩
  · rw [upd_ne (ne_of_none z gp)]; exact a.same b u z
theorem NwL.set (x : NwL S G0 H0 G H) (fresh : H0 p = none) : NwL S G0 H0 G (upd H p o) := ⟨fun b u e n t => by
    rw [upd_ne (ne_of_none e fresh)]
    exact x.x b u e n t, x.a, x.n⟩
/-- the list becomes data -/
theorem At.own (a : At S k G H) (hp : H p = some (.lst xs)) (gp : G p = none) (ne : p ≠ S.PA) : At S k (upd G p (.lst xs)) H ∧ Same G (upd G p (.lst xs)) := by
  obtain ⟨k', g, h1, h2⟩ := a.pen
  refine ⟨⟨⟨k', g, h1, h2⟩, a.len, a.tabs, fun b u z => ?_, by rw [upd_ne (Ne.symm ne)]; exact a.gP, fun b u z => ?_⟩, same_upd (Same.refl G) gp⟩
  · by_cases e : b = p
    · subst e; rw [upd_same] at z; cases z; exact hp
    · rw [upd_ne e] at z; exact a.same b u z
  · by_cases e : b = p
    · subst e; rw [upd_same] at z; cases z; exact fun _ y => nomatch y
    · rw [upd_ne e] at z; exact a.nt b u z
theorem At.away (a : At S k G H) (hp : H p = none) : p ≠ S.PA ∧ p ≠ S.c := by
  obtain ⟨k', g, h1, h2⟩ := a.pen
  exact ⟨fun e => (by rw [e, h2.hp] at hp; cases hp), fun e => (by rw [e, h2.hc] at hp; cases hp)⟩
end
end GL
namespace K02
open PySem PySem.Spec PyProof.Rows L2 GL
def spBent (K : PySem.W.Frag) : Sp := fun vs H Q _ => ∃ (S : LS) (k : Int) (G : Hp) (z : Str), vs = [.ref S.PA, .str z] ∧ At S k G H ∧ k ≤ 9000 ∧ z.length ≤ 200 ∧ ∀ (y : Str) G1 H1, y.length ≤ z.length + 2 → At S (k + 3) G1 H1 → NwL S G H G1 H1 → Q (.str y) H1
abbrev bentN : List Str := ["_law_pen_here", "_law_line", "_law_way", "_law_spot", "_law_sign"]
theorem sc_bent : FnScope bentN ["_law_pen_here", "_law_line"] (defScope s__law_bent) := ⟨rfl, rfl, rfl, by decide +kernel, rfl, by decide +kernel, by decide +kernel⟩
theorem sl_to_len (z : Str) (n : Nat) : (Txt.slice z none (some (n : Int))).length = min n z.length := by rw [← codes_len, slice_to', List.length_take, codes_len]
theorem sl_from_len (z : Str) (n : Nat) : (Txt.slice z (some (n : Int)) none).length = z.length - n := by rw [← codes_len, slice_from', List.length_drop, codes_len]
section
variable {P : Program} {w : World} {K : PySem.W.Frag} {mg : Str → Option Value} {base : Heap} {C CR CB f : Addr} {fd : FuncData}
theorem ok_bent (F : Fun K "_law_bent" "_law_bent" s__law_bent f fd) (T : TLw P w K mg base C CR CB) : FnOk P w K mg base CX0 3 f fd ["_law_pen_here", "_law_line"] (spBent K) := by
  refine F.ok sc_bent (fun vs H Q E h => by obtain ⟨S, k, G, z, rfl, _⟩ := h; rfl) fun cdv A outer s H vs Q E hr h => ?_
  obtain ⟨S, k, G, z, rfl, at0, hk, hz, kk⟩ := h
  refine ⟨_, (pss_cons (ps_par (i := 2) (j := 3) (by rfl) sc_bent.nd rfl rfl (by decide) rfl rfl (pa_cons (pe_calO T.c_draw (hr.mono (by decide)) rfl (pa_cons (pv 0) (pa_cons pe_int pa_nil))) (pa_cons (pe_calO T.c_draw (hr.mono (by decide)) rfl (pa_cons (pv 0) (pa_cons (pe_op op_add (pe_callB call_len_str (by rfl) T.n_len PySem.boot_len (pa_cons (pv 1) pa_nil)) pe_int) pa_nil))) pa_nil)) (by rfl))
      (pss_cons (ps_set (i := 4) sc_bent.nd rfl (Or.inl rfl) (pe_calO T.c_pick (hr.mono (by decide)) rfl (pa_cons (pv 0) (pa_cons (pe_lst (pa_cons pe_str (pa_cons pe_str (pa_cons pe_str (pa_cons pe_str (pa_cons pe_str (pa_cons pe_str (pa_cons pe_str (pa_cons pe_str (pa_cons pe_str (pa_cons pe_str (pa_cons pe_str (pa_cons pe_str pa_nil))))))))))))) pa_nil))))
      (pss_cons (ps_if (pt_cmpR op_eq (pv 2) pe_int (nomark _)) (pss_one (ps_ret (pe_op op_add_str (pe_slice C8.sl_txt (pv 1) po_none (po_some (pv 3))) (pe_slice C8.sl_txt (pv 1) (po_some (pe_op op_add (pv 3) pe_int)) po_none)))) pss_nil)
      (pss_one (ps_ret (pe_ifExp (pt_cmpR op_lt (pv 2) pe_int (nomark _)) (pe_op op_add_str (pe_op op_add_str (pe_slice C8.sl_txt (pv 1) po_none (po_some (pv 3))) (pv 4)) (pe_slice C8.sl_txt (pv 1) (po_some (pe_op op_sub (pe_op op_add (pv 3) (pv 2)) pe_int)) po_none)) (pe_op op_add_str (pe_slice C8.sl_txt (pv 1) po_none (po_some (pv 3))) (pe_revS (pe_slice C8.sl_txt (pv 1) (po_some (pv 3)) po_none))))))))), ?_⟩
  refine ql_par (K := K) at0 (el_draw (K := K) rfl ⟨by decide, by decide⟩ (by omega)) (el_drawL (K := K) (R' := fun m => m = (z.length : Int) + 1) rfl (ela_d (ed_addI (ed_lenS (ed_var (i := 1) rfl (.str z)) (by omega)) xc_int) ⟨_, rfl, by omega, by omega, rfl⟩) (by omega)) fun v1 d1 v2 d2 G1 H1 ⟨r1, e1, a0, a1⟩ ⟨r2, m, e2, b0, b1, b2⟩ at1 n1 dv1 dv2 => ?_
  subst e1
  subst e2
  cases dv1
  cases dv2
  obtain ⟨n, rfl⟩ : ∃ n : Nat, r2 = (n : Int) := ⟨r2.toNat, by omega⟩
  have hn : n ≤ z.length := by omega
  refine ql_asgL (R := fun d => ∃ y : Str, d = .str y ∧ y.length ≤ 2) at1 (el_pickA (K := K) rfl (ela_cons (ela_d xc_str ⟨_, rfl, by decide⟩) (ela_cons (ela_d xc_str ⟨_, rfl, by decide⟩) (ela_cons (ela_d xc_str ⟨_, rfl, by decide⟩) (ela_cons (ela_d xc_str ⟨_, rfl, by decide⟩) (ela_cons (ela_d xc_str ⟨_, rfl, by decide⟩) (ela_cons (ela_d xc_str ⟨_, rfl, by decide⟩) (ela_cons (ela_d xc_str ⟨_, rfl, by decide⟩) (ela_cons (ela_d xc_str ⟨_, rfl, by decide⟩) (ela_cons (ela_d xc_str ⟨_, rfl, by decide⟩) (ela_cons (ela_d xc_str ⟨_, rfl, by decide⟩) (ela_cons (ela_d xc_str ⟨_, rfl, by decide⟩) (ela_cons (ela_d xc_str ⟨_, rfl, by decide⟩) ela_nil)))))))))))) (by decide) (by omega)) fun v3 d3 G2 H2 ⟨y, e3, hy⟩ at2 n2 dv3 => ?_
  subst e3
  cases dv3
  have n02 := nwl_in at0 n1 n2 at2
  have line : ∀ {G : Hp} {σ : L2.St}, σ[1]? = some (some (.str z)) → Evd K (tVar 1) σ G (.str z) := fun h => ed_var h (.str z)
  have lt := sl_to_len z n
  have fin : ∀ {te : TE} {o : Str} {σ : L2.St} {G5 H5 : Hp}, At S (k + 3) G5 H5 → NwL S G H G5 H5 → Evd K te σ G5 (.str o) → o.length ≤ z.length + 2 → tRet te { nx := fun _ H' => Q .non H', rt := Q } σ H5 := fun {te o σ G5 H5} a5 n5 ev lo => by
    refine ql_retL (R := fun d => d = .str o) a5 (el_d ev) fun v d G6 H6 e a6 n6 dv => ?_
    subst e
    cases dv
    exact kk o G6 H6 lo a6 (nwl_in at0 n5 n6 a6)
  have at2' : At S (k + 3) G2 H2 := at2.up (by omega)
  refine ql_ifb (b := decide (r1 = 0)) at2' (et_of (K := K) (ed_eqI (ed_var (i := 2) rfl (.int r1)) xc_int rfl)) (fun hb G3 H3 at3 n3 => ?_) fun hb G3 H3 at3 n3 => ?_
  · have l2 := sl_from_len z (n + 1)
    exact fin at3 (nwl_in at0 n02 n3 at3) (ed_catS (ed_slS (line rfl) (by omega) (fun _ _ q => q) fun _ _ q => ⟨.int (n : Int), rfl, (n : Int), rfl, q⟩) (ed_slS (lo := some ((n + 1 : Nat) : Int)) (line rfl) (by omega) (fun _ _ q => ⟨.int (n : Int), rfl, (n : Int), 1, rfl, rfl, _, rfl, q⟩) fun _ _ q => q) (by omega)) (by rw [str_len]; omega)
  · have h0 := of_decide_eq_false hb
    obtain ⟨m1, rfl⟩ : ∃ m1 : Nat, r1 = (m1 : Int) + 1 := ⟨(r1 - 1).toNat, by omega⟩
    have l2 := sl_from_len z (n + m1)
    have l3 := sl_from_len z n
    have l4 := revT_len (Txt.slice z (some (n : Int)) none)
    have e5 : ((n : Int) + ((m1 : Int) + 1) - 1) = ((n + m1 : Nat) : Int) := by omega
    by_cases h : ((m1 : Int) + 1) < 3
    · refine fin at3 (nwl_in at0 n02 n3 at3) (x_if (b := true) (et_of (K := K) (ed_gtL (ed_var (i := 2) rfl (.int ((m1 : Int) + 1))) xc_int (decide_eq_true h))) (fun _ => ed_catS (ed_catS (ed_slS (line rfl) (by omega) (fun _ _ q => q) fun _ _ q => ⟨.int (n : Int), rfl, (n : Int), rfl, q⟩) (ed_var (i := 4) rfl (.str y)) (by omega)) (ed_slS (lo := some ((n + m1 : Nat) : Int)) (line rfl) (by omega) (fun _ _ q => ⟨.int (n : Int), rfl, .int ((m1 : Int) + 1), rfl, _, _, rfl, rfl, _, 1, rfl, rfl, _, rfl, by rw [e5]; exact q⟩) fun _ _ q => q) (by rw [str_len]; omega)) (fun z => nomatch z)) (by rw [str_len, str_len]; omega)
    · refine fin at3 (nwl_in at0 n02 n3 at3) (x_if (b := false) (et_of (K := K) (ed_gtL (ed_var (i := 2) rfl (.int ((m1 : Int) + 1))) xc_int (decide_eq_false h))) (fun z => nomatch z) (fun _ => ed_catS (ed_slS (line rfl) (by omega) (fun _ _ q => q) fun _ _ q => ⟨.int (n : Int), rfl, (n : Int), rfl, q⟩) (ed_revS (ed_slS (line rfl) (by omega) (fun _ _ q => ⟨.int (n : Int), rfl, (n : Int), rfl, q⟩) fun _ _ q => q) (by omega)) (by omega))) (by rw [str_len]; omega)
end
end K02

set_option Elab.async false
set_option linter.all false
set_option autoImplicit false
set_option maxRecDepth 100000
set_option maxHeartbeats 4000000
namespace GL
open PySem PySem.Spec PyProof.Rows L2
/-- a text and a dict are unlike -/
theorem dict_eq_str (l : Addr) (es : Array DictEntry) (n : Nat) (dd : Option Addr) (sl : Array (Option Value)) (b : Str) (u : Tok) :
    Meets (Builtin.«dict.__eq__» ⟨[.ref l, .str b u], []⟩) (fun _ R s => s.heap.get? l = some { cls := .type "dict", dict := dd, data := .dict es n, slots := sl } ∧ R (.ok (.ret .notImplemented)) s) :=
  .of_wp fun prog w A R s h => by
    obtain ⟨hp, g, d, tk, os⟩ := s; obtain ⟨hl, h⟩ := h
    have f1 := F.sub_str_dict
    wp_walk using wpAny_loadPart' hl
    exact ⟨_, rfl, h⟩
theorem str_eq_dict (a : Str) (t : Tok) (x : Addr) (c : Value) (es : Array DictEntry) (n : Nat) (dd : Option Addr) (sl : Array (Option Value)) :
    Meets (Builtin.«str.__eq__» ⟨[.str a t, .ref x], []⟩) (fun _ R s => s.heap.get? x = some { cls := c, dict := dd, data := .dict es n, slots := sl } ∧ R (.ok (.ret .notImplemented)) s) :=
  .of_wp fun prog w A R s h => by obtain ⟨hp, g, d, tk, os⟩ := s; obtain ⟨hl, h⟩ := h; wp_walk using wpAny_loadPart' hl; exact ⟨_, rfl, h⟩
theorem eqD_sd {X : Cx} {n : Nat} {z : Str} {ks : List Key} {ds : List Da} : EqD X n (.str z) (.dct ks ds) false :=
  eqD_rc (fun A pins s σ H x y u v sb I rx ry h1 h2 => by
    cases h1
    obtain ⟨t, rfl⟩ := rx
    cases h2 with
    | dct b1 b2 b3 =>
      cases ry
      obtain ⟨_, ne, ws, kv, ob2, es, ep, e1, e2, e3, _⟩ := dk_rd I.hok (.inl b1)
      obtain ⟨cls, dd, data, sl⟩ := ob2
      have e2 := e2.1
      simp only at e2 e3
      subst e2 e3
      refine SeqAt.rc_eq_decline_or (k := false) (typeIs_str _ _ _) ⟨_, e1, rfl⟩ (by decide) F.sub_dict_str F.slot_str_eq F.slot_dict_eq_refl
        (fun _ hq => call_meets F.slot_str_eq (typeIs_str _ _ _) F.entry_str_eq (F.args_str_eq_2 _ _) (str_eq_dict z t _ _ _ _ dd sl) ⟨e1, hq⟩)
        (fun _ hq => call_meets F.slot_dict_eq_refl ⟨_, e1, rfl⟩ F.entry_dict_eq (F.args_dict_eq_2 _ _) (dict_eq_str _ _ _ dd sl z t) ⟨e1, hq⟩)
        (fun _ hq => wpAny_of_eq (rfl : isSame (.str z t) (.ref _) = pure false) hq) (.inr sb.room.units0) ⟨rfl, loopI_refl I⟩)
    (fun rx ry h1 h2 e => by
      cases h1
      obtain ⟨t, rfl⟩ := rx
      cases h2
      cases ry
      cases e) fun rx h1 => no_float rx h1
end GL

set_option Elab.async false
set_option linter.all false
set_option autoImplicit false
set_option maxRecDepth 100000
set_option maxHeartbeats 2000000
namespace GL
open PySem PySem.Spec PyProof.Rows L2
open PySem.W (Frag InstAt findIn isFn subIn looks_subIn ifBound_K notFirst Looks)
/-! x != a text, x plain data, a dict, or an instance with its own __eq__ -/
theorem dict_ne_str (l : Addr) (es : Array DictEntry) (n : Nat) (dd : Option Addr) (sl : Array (Option Value)) (b : Str) (u : Tok) :
    Meets (Builtin.«dict.__ne__» ⟨[.ref l, .str b u], []⟩) (fun _ R s => s.heap.get? l = some { cls := .type "dict", dict := dd, data := .dict es n, slots := sl } ∧ R (.ok (.ret .notImplemented)) s) :=
  .of_wp fun prog w A R s h => by
    obtain ⟨hp, g, d, tk, os⟩ := s; obtain ⟨hl, h⟩ := h
    have f1 := F.sub_str_dict
    wp_walk using wpAny_loadPart' hl
    exact ⟨_, rfl, h⟩
theorem str_ne_dict (a : Str) (t : Tok) (x : Addr) (c : Value) (es : Array DictEntry) (n : Nat) (dd : Option Addr) (sl : Array (Option Value)) :
    Meets (Builtin.«str.__ne__» ⟨[.str a t, .ref x], []⟩) (fun _ R s => s.heap.get? x = some { cls := c, dict := dd, data := .dict es n, slots := sl } ∧ R (.ok (.ret .notImplemented)) s) :=
  .of_wp fun prog w A R s h => by obtain ⟨hp, g, d, tk, os⟩ := s; obtain ⟨hl, h⟩ := h; wp_walk using wpAny_loadPart' hl; exact ⟨_, rfl, h⟩
def rNeQ (K : Frag) (C : Addr) (sp : Sp) : R2 := fun x y H Q => rNeP K x y H Q ∨ (∃ ks ds z, DR K H x (.dct ks ds) ∧ y = .str z ∧ Q (.bl true) H) ∨
  ∃ a dx fs z, x = .ref a ∧ y = .str z ∧ H a = some (.ins C dx fs) ∧ sp [.ref a, .str z] H (fun v H' => ∃ k, v = .bl k ∧ Q (.bl (!k)) H') E0
section
variable {X : Cx} {n : Nat} {C f : Addr} {fd : FuncData} {ps : List Str} {sp : Sp}
theorem op_neQ (F : FnOk X.prog X.w X.K X.mg X.base CX0 n f fd ps sp) (k : EqK X.K C f) (fe : findIn X.K (.ref C) "__eq__" = some (some (.ref f))) (nf : subIn X.K (.type "str") (.ref C) = some false) (hb : Binds X.K fd ps []) (hr : Room (n + 2) X.A) : OpR X (compareOp .NotEq) (rNeQ X.K C sp) := by
  intro pins s σ H x y v u Q I rx ry h
  rcases h with h | h | h
  · obtain ⟨d, e, hd, he, pd, pe, dp, q⟩ := h
    obtain ⟨as, r1⟩ := Dp.reads I d x v hd rx
    obtain ⟨bs, r2⟩ := Dp.reads I e y u he ry
    exact SeqAt.ne_plain r1 r2 pd pe (by have := Nat.min_le_left d.depth e.depth; have := hr.units; omega) ⟨.bl _, H, I, rfl, q⟩
  · obtain ⟨ks, ds, z, h1, rfl, q⟩ := h
    obtain ⟨t, rfl⟩ := ry
    cases h1 with
    | dct b1 b2 b3 =>
      cases rx
      obtain ⟨_, ne, ws, kv, ob2, es, ep, e1, e2, e3, _⟩ := dk_rd I.hok (.inl b1)
      obtain ⟨cls, dd, data, sl⟩ := ob2
      have e2 := e2.1
      simp only at e2 e3
      subst e2 e3
      exact SeqAt.rc_ne_decline_or (k := false) ⟨_, e1, rfl⟩ (typeIs_str _ _ _) (by decide) PySem.F.sub_str_dict PySem.F.slot_dict_ne PySem.F.slot_str_ne_refl
        (fun _ hq => call_meets PySem.F.slot_dict_ne ⟨_, e1, rfl⟩ PySem.F.entry_dict_ne (PySem.F.args_dict_ne_2 _ _) (dict_ne_str _ _ _ dd sl z t) ⟨e1, hq⟩)
        (fun _ hq => call_meets PySem.F.slot_str_ne (typeIs_str _ _ _) PySem.F.entry_str_ne (PySem.F.args_str_ne_2 _ _) (str_ne_dict z t _ _ _ _ dd sl) ⟨e1, hq⟩)
        (fun _ hq => wpAny_of_eq (rfl : isSame (.ref _) (.str z t) = pure false) hq) (.inr hr.units0) ⟨.bl true, H, I, rfl, q⟩
  obtain ⟨a, dx, fs, i, rfl, rfl, ha, h⟩ := h
  cases rx
  obtain ⟨t, rfl⟩ := ry
  obtain ⟨mA, J0, _⟩ := ins_get I.hok ha
  obtain ⟨od, J, _⟩ := J0.look
  obtain ⟨nm, q, N, bs, hd, sn, sub, ab, col, dd, k0, k1, k2, k3, k5, nid, lC, nsO, eqN, neN⟩ := k.cls
  have KI := I.kIn
  have hr1 : Room (n + 1) X.A.in1 := hr.in1
  have ns : s.heap.Ns N (s.heap.nsMap N) := .of_isNs (PySem.W.isNs_of_in KI nsO)
  have nn := PySem.W.ns_none_of KI ns neN
  have run := run_at (A := X.A.in1) (us := [.ref a, .str i t]) (vs := [.ref a, .str i]) F (hr1.mono (by omega)) rfl hb I (.cons rfl (.cons ⟨t, rfl⟩ .nil)) h X.xe
  have two : wpAny (model X.prog X.w) X.A (tryCompare (.ref a) "__ne__" (.str i t)) (fun r s' => ∃ v, r = some v ∧ EP X pins σ Q v s') X.xe s := by
    unfold tryCompare
    obtain ⟨hp, g, d, tk, os⟩ := s
    refine wpAny_bind (PySem.wpAny_callSpecialIfBound?_inst J.1 J.cls (KI _ _ lC) ns nn PySem.F.cmp_object.mro PySem.F.cmp_object.ne (wpAny_call (codeAny_call_builtin PySem.F.cmp_object.ne.plain PySem.F.cmpEntry_ne (wpAny_check_slot_inst PySem.F.cmpKind_ne PySem.F.cmpSplit_ne (PySem.F.cmpArgs_ne _ _) PySem.F.cmp_object.hasObject J.1 J.cls (KI _ _ lC) ?_))))
    unfold Builtin.«object.__ne__»
    have e1 : slotArgs "__ne__" 1 { pos := [.ref a, .str i t] } = pure (.ref a, [.str i t]) := by rfl
    rw [e1]
    simp only [pure_bind]
    refine wpAny_bind (wpAny_cRoomFor hr1.units0 (wpAny_bind (ifBound_K KI J fe k.fn (wpAny_mono run (fun r s' z => ?_) fun _ _ e => e))))
    obtain ⟨v, H', I', rv, kk, rfl, qq⟩ := z
    cases rv
    refine wpAny_bind (wpAny_pure ?_)
    exact wpAny_pure (wpAny_pure ⟨_, rfl, .bl (!kk), H', I', rfl, qq⟩)
  have hu := hr.units0
  show wpAny (model X.prog X.w) X.A (richCompare .NotEq (.ref a) (.str i t)) (EP X pins σ Q) X.xe s
  unfold richCompare
  refine wpAny_holding (wpAny_bind (wpAny_cRoomFor hu ?_))
  have e0 : oneThing? .NotEq (.ref a) (.str i t) = none := by rfl
  rw [e0]
  show wpAny (model X.prog X.w) X.A (do
    let ta ← typeOf (.ref a)
    let tb ← typeOf (.str i t)
    _) _ _ _
  refine wpAny_bind (J.type.here (wpAny_bind (wpAny_typeOf (typeIs_str s i t) ?_)))
  have hne : (Value.ref C != Value.type "str") = true := by
    rw [bne_iff_ne]; exact fun z => nomatch z
  simp only [hne, if_true]
  refine wpAny_bind ((looks_subIn KI nf).here ?_)
  simp only [Bool.false_eq_true, if_false]
  refine wpAny_bind (m := tryCompare (.ref a) _ _) (wpAny_mono two (fun r s' z => ?_) fun _ _ e => e)
  obtain ⟨v, rfl, hq⟩ := z
  exact wpAny_pure hq
end
end GL

set_option Elab.async false
set_option linter.all false
set_option maxRecDepth 100000
set_option maxHeartbeats 4000000
namespace GL
open PySem PySem.Spec PyProof.Rows L2
/-- nothing of the data stands at p -/
def FrP (S : LS) (H : Hp) (p : Addr) : Prop := ∀ b u, H b = some u → b ≠ S.PA → (∀ ps, u ≠ .tbl ps) → b ≠ p
section
variable {S : LS} {K : PySem.W.Frag} {σ : L2.St} {k k1 k0 : Int} {G H G0 H0 G1 H1 : Hp} {ta tb te : TE} {tk : TA} {tz : TS} {D : Ends} {d : Da} {p : Addr} {o : HO} {xs vs : List V} {i : Nat} {zs : List Da}
theorem NwL.setP (x : NwL S G0 H0 G H) (fresh : FrP S H0 p) : NwL S G0 H0 G (upd H p o) := ⟨fun b u e n t => by
    rw [upd_ne (fresh b u e n t)]
    exact x.x b u e n t, x.a, x.n⟩
theorem FrP.back (x : NwL S G H G1 H1) (fr : FrP S H1 p) : FrP S H p := fun b u e n t => fr b u (x.x b u e n t) n t
theorem NwL.own (x : NwL S G H G1 H1) (fr : FrP S H p) (gp : G1 p = none) (ne : p ≠ S.PA) : NwL S G H (upd G1 p o) H1 := ⟨x.x, x.a.trans (same_upd (Same.refl _) gp), fun q u e t z => by
  have hq : q ≠ p := fun y => by
    by_cases h : q = S.PA
    · exact ne (y.symm.trans h)
    · exact fr q u e h t y
  rw [upd_ne hq]
  exact x.n q u e t z⟩
theorem ql_lst1 (a : At S k G H) (h : EvL S K te σ G k k1 (· = d)) (q : ∀ p v G1 H1, At S k1 G1 H1 → NwL S G H G1 H1 → FrP S H p → H1 p = some (.lst [v]) → G1 p = none → p ≠ S.PA → p ≠ S.c → DR K G1 v d → tz D (σ.set i (some (.ref p))) H1) : tSeq (tAsg (tLst (tCons te tNil)) (gName i)) tz D σ H := h H a _ fun v e G1 H1 he a1 n1 dv => by
  subst he
  refine ⟨by show 1 ≤ sizeLine; decide, fun p hp => ?_⟩
  obtain ⟨e1, e2⟩ := a1.away hp
  obtain ⟨a2, n2⟩ := a1.raw (o := .lst [v]) hp
  exact q p v G1 _ a2 (nwl_in a n1 n2 a2) (fun b u hb nb nt e => by rw [e] at hb nb; rw [n1.x p u hb nb nt] at hp; cases hp) upd_same (a1.same.free hp) e1 e2 dv
theorem ql_app (a0 : At S k0 G0 H0) (n0 : NwL S G0 H0 G H) (fr : FrP S H0 p) (a : At S k G H) (hv : σ[i]? = some (some (.ref p))) (hp : H p = some (.lst vs)) (gp : G p = none) (ne : p ≠ S.PA) (nec : p ≠ S.c) (hl : vs.length ≤ 999) (h : EvL S K te σ G k k1 (· = d))
    (q : ∀ v G1 H1, At S k1 G1 H1 → NwL S G0 H0 G1 H1 → Same G G1 → H1 p = some (.lst (vs ++ [v])) → G1 p = none → DR K G1 v d → tz D σ H1) : tSeq (tDrop (tBM K "list" rAppend (tVar i) (tCons te tNil))) tz D σ H := by
  refine ⟨_, hv, .inl ⟨rfl, _, SqL.of hp⟩, ?_⟩
  refine h H a _ fun v e G1 H1 he a1 n1 dv => ?_
  subst he
  have hp1 : H1 p = some (.lst vs) := n1.x _ _ hp ne (fun _ z => nomatch z)
  have gp1 : G1 p = none := n1.n _ _ hp (fun _ z => nomatch z) gp
  refine ⟨p, _, _, rfl, rfl, hp1, Nat.lt_of_le_of_lt hl (by decide), ?_⟩
  have a2 : At S k1 G1 (upd H1 p (.lst (vs ++ [v]))) := a1.set hp1 gp1 ne nec
  exact q v G1 _ a2 ((nwl_in a0 n0 n1 a1).setP fr) n1.a upd_same gp1 dv
theorem ed_dnew : Evd K tDNewK σ G (.dct [] []) := fun H e Q q p hp => by
  have m := Nw.new (o := .dK []) e hp
  exact q (.ref p) _ _ m (.dct upd_same rfl .nil)
/-- C(k = v, ..), no values by position -/
theorem o_makeK {n m : Nat} {C : Addr} {R : List Da → IOut → Prop} {io : IOut} {gV : List V → List V → List V} (hk : Evs K tk σ G zs) (hz : zs.length = m) (order : List Da) (ho : order.length = n)
    (hg : ∀ (a : Addr) (H' : Hp) (ws : List V), DRs K H' ws zs → ∃ us, gV [.ref a] ws = .ref a :: us ∧ DRs K H' us order) (hR : R order io) : EvO K (fun E => tMakeK C 0 m (PiO K C n R) gV E tNil tk) σ G (io.out C) := fun H e Q E q => hk H e _ fun ws G2 H2 n2 dws =>
  ⟨rfl, by rw [dws.len]; exact hz, fun a dx ha hdx ne => by
    obtain ⟨us, e4, r⟩ := hg a G2 ws dws
    rw [e4]
    have ga : G2 a = none := n2.b.free ha
    have up : ∀ {b : Addr} {o : HO}, H2 b = some o → upd (upd H2 dx (.own a)) a (.ins C dx []) b = some o := fun {b o} z => by rw [upd_ne (ne_of_none z ha), upd_ne (ne_of_none z hdx)]; exact z
    refine ⟨G2, a, dx, us, order, io, rfl, ho, fun b o z => up (n2.b _ _ z), ga, upd_same, r, hR, ?_⟩
    cases io with
    | set ns es => exact fun G' H' k1 k2 k3 k4 dd => ⟨rfl, q _ G' H' (n2.trans ⟨fun b o z => k1 b o (ne_of_none z ha) (up z), k2, k3, fun b o z w => k4 b o (ne_of_none z ha) (up z) w⟩) dd⟩
    | err D ns es => exact fun G' H' dx' us' n' h1 h2 h3 => q G' H' dx' us' (n2.trans ⟨fun b o z => n'.s b o (up z), n'.a, n'.b, fun b o z w => n'.n b o (up z) w⟩) h1 h2 h3⟩
end
def swp {α : Type} : List α → List α → List α
  | [s], [b, t] => [s, t, b]
  | vs, _ => vs
def MkK0 (P : Program) (w : World) (K : PySem.W.Frag) (mg : Str → Option Value) (base : Heap) (C : Addr) (k : Nat) (ks : List Str) (gV : List V → List V → List V) (sp : Sp) : Prop := ∃ f fd ps g, Mk K C f ∧ FnOk P w K mg base (L2.CX P w) k f fd ps sp ∧ KBn K fd ps 1 ks g gV
theorem pe_mkK0 {X : Cx} {C : Addr} {k : Nat} {ks : List Str} {gV : List V → List V → List V} {sp : Sp} {E : XK} {x : Str} {p pos : Pos} {kws : List Keyword} {tk : TA} (h : MkK0 X.prog X.w X.K X.mg X.base C k ks gV sp) (hx : Passes (L2.CX X.prog X.w) X E) (hr : Room (k + 1) X.A) (hg : Gl X x) (hm : X.mg x = some (.ref C)) (hkw : PK X kws tk)
    (hall : (backToKw pos (keywordEach kws X.env)).all (·.1.isSome) = true := by rfl) (hks : (backToKw pos (keywordEach kws X.env)).filterMap (·.1) = ks := by rfl) (hdb : (x == ("__debug__" : Str)) = false := by decide) (hpl : ((backTo pos (starEach [] X.env)).any (·.1) || (backToKw pos (keywordEach kws X.env)).any (·.1.isNone)) = false := by rfl) : PE X (.Call (.Name x p) [] kws pos) (tMakeK C 0 ks.length sp gV E tNil tk) := by
  obtain ⟨f, fd, ps, g, M, F, hb⟩ := h
  exact pe_makeK0 M F hr hg hm hb hx hkw hall hks hdb hpl
end GL
namespace K02
open PySem PySem.Spec PyProof.Rows L2 GL
abbrev refN : List Str := ["_law_pen_here", "_law_odd", "_law_more", "_law_fine", "_law_other", "_law_heard_here"]
theorem sc_ref : FnScope refN ["_law_pen_here"] (defScope s__law_refused_right) := ⟨rfl, rfl, rfl, by decide +kernel, rfl, by decide +kernel, by decide +kernel⟩
abbrev refQ : Str := (envOfC "_law_refused_right" (defScope s__law_refused_right) 0 0 (.ref 0)).qual
def OddD (C : Addr) (d : Da) : Prop := d = .non ∨ d = .bl true ∨ d = .bl false ∨ d = .str "3" ∨ d = .tup [.int 3] ∨ d = .lst [] ∨ d = .dct [] [] ∨ d = rateD C (1, 2)
def MoreD (C : Addr) (d : Da) : Prop := d = .non ∨ d = .int 0 ∨ d = .bl true ∨ d = .str "1" ∨ d = .tup [.int 1] ∨ d = .lst [.int 2] ∨ d = .dct [] [] ∨ d = rateD C (3, 1)
def OthD (d : Da) : Prop := d = .non ∨ d = .bl true ∨ d = .str "3" ∨ d = .tup [.int 3] ∨ d = .lst [] ∨ d = .dct [] []
theorem odd_ok {C : Addr} {d : Da} (h : OddD C d) : askR C d ∧ szD d ∧ intD d = false := by
  rcases h with rfl | rfl | rfl | rfl | rfl | rfl | rfl | rfl
  all_goals first | exact ⟨.inl ⟨_, rfl⟩, trivial, rfl⟩ | exact ⟨.inr ⟨_, rfl⟩, trivial, rfl⟩
theorem more_ok {C CR : Addr} {d : Da} {x : Int} (h : MoreD C d) : askR C d ∧ szD d ∧ dueR CR (.int x) d = .err CR ["part"] [.str "bottom"] := by
  rcases h with rfl | rfl | rfl | rfl | rfl | rfl | rfl | rfl
  · exact ⟨.inl ⟨_, rfl⟩, trivial, rfl⟩
  · exact ⟨.inl ⟨_, rfl⟩, (show (0 : Int).natAbs < 2 ^ 8000 from Nat.pow_pos (by decide)), (show (if (0 : Int) = 0 then IOut.err CR ["part"] [.str "bottom"] else IOut.set rateN [.int (nrm x 0).1, .int (nrm x 0).2]) = _ from if_pos rfl)⟩
  all_goals first | exact ⟨.inl ⟨_, rfl⟩, trivial, rfl⟩ | exact ⟨.inr ⟨_, rfl⟩, trivial, rfl⟩
theorem oth_ok {C CR : Addr} {d : Da} (h : OthD d) : ofD C CR d (.err CR ["part"] [.str "value"]) := by
  rcases h with rfl | rfl | rfl | rfl | rfl | rfl
  all_goals exact .inr (.inr ⟨⟨_, rfl⟩, rfl, rfl⟩)
def notS : Da → Bool
  | .str _ => false
  | _ => true
structure TRf (P : Program) (w : World) (K : PySem.W.Frag) (mg : Str → Option Value) (base : Heap) (C CR CB CP : Addr) : Prop extends TLw P w K mg base C CR CB where
  mkK : MkK0 P w K mg base C 7 ["bottom", "top"] swp (PiO K C 2 (Rini C CR))
  ss : PySem.W.subIn K (.type "str") (.ref C) = some false
  Z : TH mg K CP CR CB
def spRef (K : PySem.W.Frag) (T : List (Addr × Str)) : Sp := fun vs H Q _ => ∃ (S : LS) (k : Int) (G : Hp), S.T = T ∧ vs = [.ref S.PA] ∧ At S k G H ∧ k ≤ 8000 ∧ ∀ G1 H1, At S (k + 9) G1 H1 → NwL S G H G1 H1 → Q (.bl true) H1
section
variable {P : Program} {w : World} {K : PySem.W.Frag} {mg : Str → Option Value} {base : Heap} {C CR CB CP f c PT : Addr} {fd : FuncData}
theorem ed_neQ1 {σ : L2.St} {G : Hp} {ta tb : TE} {d : Da} (h : OddD C d) (ha : Evd K ta σ G d) (hb : Evd K tb σ G (.str "3")) : Evd K (tOp (rNeQ K C (Pr K 2 (Req C))) ta tb) σ G (.bl (notS d)) := by
  have pl : ∀ {p : PyData} {b : Bool}, d.toP = some p → p.hasDict = false → p.plain = true → p.depth ≤ 60 → (!PyData.eqv p (.str "3")) = b → Evd K (tOp (rNeQ K C (Pr K 2 (Req C))) ta tb) σ G (.bl b) := fun {p b} h1 h2 h3 h4 h5 => ed_two ha (fun _ s => hb.up s) fun x y G' H' _ e dx dy Q k => .inl ⟨p, .str "3", dp_of p (DR.dq d (dx.up e) h1) h2, dp_of _ (DR.dq _ (dy.up e) rfl) rfl, h3, rfl, h4, by rw [h5]; exact k _ G' H' (Nw.refl e) (.bl b)⟩
  rcases h with rfl | rfl | rfl | rfl | rfl | rfl | rfl | rfl
  · exact pl (p := .none) rfl rfl rfl (by decide) (by decide +kernel)
  · exact pl (p := .bool true) rfl rfl rfl (by decide) (by decide +kernel)
  · exact pl (p := .bool false) rfl rfl rfl (by decide) (by decide +kernel)
  · exact pl (p := .str "3") rfl rfl rfl (by decide) (by decide +kernel)
  · exact pl (p := .tuple [.int 3]) rfl rfl rfl (by decide) (by decide +kernel)
  · exact pl (p := .list []) rfl rfl rfl (by decide) (by decide +kernel)
  · exact ed_two ha (fun _ s => hb.up s) fun x y G' H' _ e dx dy Q k => by
      cases dy
      exact .inr (.inl ⟨[], [], "3", dx.up e, rfl, k _ G' H' (Nw.refl e) (.bl true)⟩)
  · exact ed_two ha (fun _ s => hb.up s) fun x y G' H' _ e dx dy Q k => by
      have dx0 := dx
      cases dy
      cases dx with
      | ins a1 a2 a3 =>
        have ok : FrOk (1, 2) := (by decide +kernel : nrm 1 2 = (1, 2)) ▸ nrm_ok (by decide)
        have sz : Sz 3000 (1, 2) := ⟨s3000 (by decide), s3000 (by decide)⟩
        refine .inr (.inr ⟨_, _, _, "3", rfl, rfl, e _ _ a1, G', [rateD C (1, 2), .str "3"], .bl false, e, rfl, .cons dx0 (.cons (.str _) .nil), ⟨(1, 2), .str "3", rfl, ok, sz, .inr ⟨⟨_, rfl⟩, rfl⟩, rfl⟩, fun v G2 H2 n2 d2 => ?_⟩)
        cases d2
        exact ⟨_, rfl, k _ G2 H2 n2 (.bl _)⟩
theorem ok_ref (F : FunC K "_law_refused_right" "_law_refused_right" s__law_refused_right c f fd) (T : TRf P w K mg base C CR CB CP) (TB : LamX.TabB base mg c PT) {TT : List (Addr × Str)} (hmT : (PT, refQ ++ "<lambda>") ∈ TT) (hu : ∀ p ∈ TT, p.1 = PT → p.2 = refQ ++ "<lambda>") : FnG P w K mg base CX0 17 f fd ["_law_pen_here"] (spRef K TT) := by
  have hmT : ∀ q : Str, q = refQ → (PT, q ++ "<lambda>") ∈ TT := fun q e => e ▸ hmT
  have hu : ∀ q : Str, q = refQ → ∀ p ∈ TT, p.1 = PT → p.2 = q ++ "<lambda>" := fun q e => e ▸ hu
  refine F.okG sc_ref (fun vs H Q E h => by obtain ⟨S, k, G, _, rfl, _⟩ := h; rfl) fun A outer s H vs Q E hq hr hh => ?_
  obtain ⟨S, k, G, rfl, rfl, at0, hk, fin⟩ := hh
  obtain ⟨fE, fdE, GE, kE, O, nf, bE⟩ := T.GE
  refine ⟨_, (pss_cons (ps_set (i := 1) sc_ref.nd rfl (Or.inr rfl) (pe_calO T.c_pick (hr.mono (by decide)) rfl (pa_cons (pv 0) (pa_cons (pe_lst (pa_cons pe_non (pa_cons pe_bl (pa_cons pe_bl (pa_cons pe_str (pa_cons (pe_tup (pa_cons pe_int pa_nil)) (pa_cons (pe_lst pa_nil) (pa_cons pe_dnewK (pa_cons (pe_mkX T.mk2 passL (hr.mono (by decide)) rfl T.m_Rate (pa_cons pe_int (pa_cons pe_int pa_nil))) pa_nil))))))))) pa_nil))))
    (pss_cons (ps_set (i := 2) sc_ref.nd rfl (Or.inr rfl) (pe_calO T.c_pick (hr.mono (by decide)) rfl (pa_cons (pv 0) (pa_cons (pe_lst (pa_cons pe_non (pa_cons pe_int (pa_cons pe_bl (pa_cons pe_str (pa_cons (pe_tup (pa_cons pe_int pa_nil)) (pa_cons (pe_lst (pa_cons pe_int pa_nil)) (pa_cons pe_dnewK (pa_cons (pe_mkX T.mk1 passL (hr.mono (by decide)) rfl T.m_Rate (pa_cons pe_int pa_nil)) pa_nil))))))))) pa_nil))))
    (pss_cons (ps_asg (pe_tup (pa_cons (pe_calO T.c_number (hr.mono (by decide)) rfl (pa_cons (pv 0) pa_nil)) (pa_cons (pe_calO T.c_pick (hr.mono (by decide)) rfl (pa_cons (pv 0) (pa_cons (pe_lst (pa_cons pe_non (pa_cons pe_bl (pa_cons pe_str (pa_cons (pe_tup (pa_cons pe_int pa_nil)) (pa_cons (pe_lst pa_nil) (pa_cons pe_dnewK pa_nil))))))) pa_nil))) pa_nil))) (pg_tup (n := 2) rfl (pgs_cons (pg_name (i := 3) sc_ref.nd rfl (Or.inr rfl)) (pgs_cons (pg_name (i := 4) sc_ref.nd rfl (Or.inr rfl)) pgs_nil))))
    (pss_cons (ps_set (i := 5) sc_ref.nd rfl (Or.inl rfl) (pe_lst (pa_cons (pe_heard (kk := 13) (K := K) (t := fun E => tMakeN C 2 0 (PiO K C 2 (Rini C CR)) (fun vs _ => vs) E (tCons (tVar 1) (tCons (tVar 2) tNil)) tNil) rfl T.Z rfl TB rfl (hmT _ rfl) (hu _ rfl) (hr.mono (by decide)) (LamX.lamS_by (sc := defScope s__law_refused_right) (by decide +kernel)) rfl (fun _ _ _ _ _ => rfl) (fun A outer s H E f c' hr2 => by exact pe_mkX T.mk2 (passes_call (takes_of rfl rfl rfl rfl) fun _ _ _ _ h => h) (hr2.mono (by decide)) rfl T.m_Rate (pa_cons (pe_var (i := 1) rfl (Or.inr (Or.inr rfl))) (pa_cons (pe_var (i := 2) rfl (Or.inr (Or.inr rfl))) pa_nil)))) pa_nil)))
    (pss_cons (ps_expr (pe_bm PySem.F.plainAttrs_list PySem.F.slot_list_append PySem.F.type_list_append mt_append (pv 5) (pa_cons (pe_heard (kk := 13) (K := K) (t := fun E => tMakeK C 0 (["bottom", "top"] : List Str).length (PiO K C 2 (Rini C CR)) swp E tNil (tCons (tVar 2) (tCons (tVar 3) tNil))) rfl T.Z rfl TB rfl (hmT _ rfl) (hu _ rfl) (hr.mono (by decide)) (LamX.lamS_by (sc := defScope s__law_refused_right) (by decide +kernel)) rfl (fun _ _ _ _ _ => rfl) (fun A outer s H E f c' hr2 => by exact pe_mkK0 T.mkK (passes_call (takes_of rfl rfl rfl rfl) fun _ _ _ _ h => h) (hr2.mono (by decide)) rfl T.m_Rate (pk_cons (pe_var (i := 2) rfl (Or.inr (Or.inr rfl))) (pk_cons (pe_var (i := 3) rfl (Or.inr (Or.inr rfl))) pk_nil)))) pa_nil)))
    (pss_cons (ps_expr (pe_bm PySem.F.plainAttrs_list PySem.F.slot_list_append PySem.F.type_list_append mt_append (pv 5) (pa_cons (pe_heard (kk := 13) (K := K) (t := fun E => tSMeth C (Po K 1 (Rof C CR)) E (tC (.ref C)) (tCons (tVar 4) tNil)) rfl T.Z rfl TB rfl (hmT _ rfl) (hu _ rfl) (hr.mono (by decide)) (LamX.lamS_by (sc := defScope s__law_refused_right) (by decide +kernel)) rfl (fun _ _ _ _ _ => rfl) (fun A outer s H E f c' hr2 => by exact pe_smethX T.s_of (passes_call (takes_of rfl rfl rfl rfl) fun _ _ _ _ h => h) (pe_own T.m_Rate (by rfl)) (hr2.mono (by decide)) (pa_cons (pe_var (i := 4) rfl (Or.inr (Or.inr rfl))) pa_nil))) pa_nil)))
    (pss_cons (ps_expr (pe_bm PySem.F.plainAttrs_list PySem.F.slot_list_append PySem.F.type_list_append mt_append (pv 5) (pa_cons (pe_heard (kk := 13) (K := K) (t := fun E => ClX.tCMeth C (Po K 2 (Rread C CB)) E (tC (.ref C)) (tCons (tIf (tTest (tOp (rNeQ K C (Pr K 2 (Req C))) (tVar 1) (tC (.str "3")))) (tVar 1) (tC .non)) tNil)) rfl T.Z rfl TB rfl (hmT _ rfl) (hu _ rfl) (hr.mono (by decide)) (LamX.lamS_by (sc := defScope s__law_refused_right) (by decide +kernel)) rfl (fun _ _ _ _ _ => rfl) (fun A outer s H E f c' hr2 => by exact pe_cmethX T.c_read (fun F hb => fnr_of F hb) (passes_call (takes_of rfl rfl rfl rfl) fun _ _ _ _ h => h) (pe_own T.m_Rate (by rfl)) (hr2.mono (by decide)) (pa_cons (pe_ifExp (pt_cmpR (op_neQ GE kE O.eq T.ss bE hr2) (pe_var (i := 1) rfl (Or.inr (Or.inr rfl))) pe_str (nomark _)) (pe_var (i := 1) rfl (Or.inr (Or.inr rfl))) pe_non) pa_nil))) pa_nil)))
    (pss_one (ps_ret (pe_eqP (K := K) rfl hr.units (pv 5) (pe_lst (pa_cons pe_str (pa_cons pe_str (pa_cons pe_str (pa_cons (pe_tup (pa_cons pe_int (pa_cons pe_int pa_nil))) pa_nil))))))))))))))), ?_⟩
  have r12 : nrm 1 2 = (1, 2) := by decide +kernel
  refine ql_asgL (R := OddD C) at0 (el_pickA (K := K) rfl (ela_cons (ela_d xc_non (.inl rfl)) (ela_cons (ela_d xc_bl (.inr (.inl rfl))) (ela_cons (ela_d xc_bl (.inr (.inr (.inl rfl)))) (ela_cons (ela_d xc_str (.inr (.inr (.inr (.inl rfl))))) (ela_cons (ela_d (x_tup (xs_cons xc_int es_nil)) (.inr (.inr (.inr (.inr (.inl rfl)))))) (ela_cons (ela_d (x_lst es_nil) (.inr (.inr (.inr (.inr (.inr (.inl rfl))))))) (ela_cons (ela_d ed_dnew (.inr (.inr (.inr (.inr (.inr (.inr (.inl rfl)))))))) (ela_cons (ela_d (ed_is (ed_mk (CR := CR) (a := 1) (b := 2) xc_int xc_int (by decide) (up8 (by decide)) (up8 (by decide)) E0) (by rw [r12])) (.inr (.inr (.inr (.inr (.inr (.inr (.inr rfl)))))))) ela_nil)))))))) (by decide) (by omega)) fun v1 odd G1 H1 hodd at1 n1 dv1 => ?_
  refine ql_asgL (R := MoreD C) at1 (el_pickA (K := K) rfl (ela_cons (ela_d xc_non (.inl rfl)) (ela_cons (ela_d xc_int (.inr (.inl rfl))) (ela_cons (ela_d xc_bl (.inr (.inr (.inl rfl)))) (ela_cons (ela_d xc_str (.inr (.inr (.inr (.inl rfl))))) (ela_cons (ela_d (x_tup (xs_cons xc_int es_nil)) (.inr (.inr (.inr (.inr (.inl rfl)))))) (ela_cons (ela_d (x_lst (xs_cons xc_int es_nil)) (.inr (.inr (.inr (.inr (.inr (.inl rfl))))))) (ela_cons (ela_d ed_dnew (.inr (.inr (.inr (.inr (.inr (.inr (.inl rfl)))))))) (ela_cons (ela_d (ed_mk1 (CR := CR) (a := 3) xc_int (up8 (by decide)) E0) (.inr (.inr (.inr (.inr (.inr (.inr (.inr rfl)))))))) ela_nil)))))))) (by decide) (by omega)) fun v2 more G2 H2 hmore at2 n2 dv2 => ?_
  refine ql_pair (K := K) at2 (el_num rfl (by omega)) (el_pickA (K := K) (R := OthD) rfl (ela_cons (ela_d xc_non (.inl rfl)) (ela_cons (ela_d xc_bl (.inr (.inl rfl))) (ela_cons (ela_d xc_str (.inr (.inr (.inl rfl)))) (ela_cons (ela_d (x_tup (xs_cons xc_int es_nil)) (.inr (.inr (.inr (.inl rfl))))) (ela_cons (ela_d (x_lst es_nil) (.inr (.inr (.inr (.inr (.inl rfl)))))) (ela_cons (ela_d ed_dnew (.inr (.inr (.inr (.inr (.inr rfl)))))) ela_nil)))))) (by decide) (by omega)) fun v3 d3 v4 oth G3 H3 ⟨fine, e3, hf⟩ hoth at3 n3 dv3 dv4 => ?_
  subst e3
  cases dv3
  have dv1 := (dv1.up n2.a).up n3.a
  have dv2 := dv2.up n3.a
  obtain ⟨o1, o2, o3⟩ := odd_ok hodd
  obtain ⟨m1, m2, m3⟩ := more_ok (CR := CR) (x := fine) hmore
  have b32 : (10 : Nat) ^ 32 = 100000000000000000000000000000000 := by decide
  have b40 : (10 : Nat) ^ 40 = 10000000000000000000000000000000000000000 := by decide
  have f8 : fine.natAbs < 2 ^ 8000 := up8 (by rw [b40]; rw [b32] at hf; omega)
  refine ql_lst1 (K := K) (d := .str "top") at3 (el_heard (EvO.is (o_mk2 (ed_var (i := 1) rfl dv1) (ed_var (i := 2) rfl dv2) o1 m1 o2 m2) (by rw [due_top o3]; rfl)) (.rate _)) fun p w1 G4 H4 at4 n4 fr hp4 gp4 e1 e2 dw1 => ?_
  have dv1 := dv1.up n4.a
  have dv2 := dv2.up n4.a
  have dv4 := dv4.up n4.a
  refine ql_app (K := K) (d := .str "bottom") at3 n4 fr at4 rfl hp4 gp4 e1 e2 (by simp) (el_heard (EvO.is (o_makeK (xs_cons (ed_var (i := 2) rfl dv2) (xs_cons (ed_var (i := 3) rfl (.int fine)) es_nil)) rfl [.int fine, more] rfl (fun a H' ws r => by
    obtain ⟨u1, u2, rfl, d1, d2⟩ := two_of r
    exact ⟨[u2, u1], rfl, .cons d2 (.cons d1 .nil)⟩) ⟨.int fine, more, rfl, ask_int, m1, f8, m2, rfl⟩) (by rw [m3]; rfl)) (.rate _)) fun w2 G5 H5 at5 n5 s5 hp5 gp5 dw2 => ?_
  have dv1 := dv1.up s5
  have dv4 := dv4.up s5
  refine ql_app (K := K) (d := .str "value") at3 n5 fr at5 rfl hp5 gp5 e1 e2 (by simp) (el_heard (o_of (ed_c fun _ => .obj C) (ed_var (i := 4) rfl dv4) (oth_ok hoth)) (.rate _)) fun w3 G6 H6 at6 n6 s6 hp6 gp6 dw3 => ?_
  have dv1 := dv1.up s6
  have rd : ∃ e, (notS odd = true → odd = e) ∧ (notS odd = false → Da.non = e) ∧ May C e ∧ readD C CB e = errT CB := by
    rcases hodd with rfl | rfl | rfl | rfl | rfl | rfl | rfl | rfl
    · exact ⟨_, (fun _ => rfl), (fun z => nomatch z), .flat _ _ rfl (by decide +kernel), rfl⟩
    · exact ⟨_, (fun _ => rfl), (fun z => nomatch z), .flat _ _ rfl (by decide +kernel), rfl⟩
    · exact ⟨_, (fun _ => rfl), (fun z => nomatch z), .flat _ _ rfl (by decide +kernel), rfl⟩
    · exact ⟨.non, (fun z => nomatch z), fun _ => rfl, .flat _ _ rfl (by decide +kernel), rfl⟩
    · exact ⟨_, (fun _ => rfl), (fun z => nomatch z), .flat _ _ rfl (by decide +kernel), rfl⟩
    · exact ⟨_, (fun _ => rfl), (fun z => nomatch z), .flat _ _ rfl (by decide +kernel), rfl⟩
    · exact ⟨_, (fun _ => rfl), (fun z => nomatch z), .flat _ _ rfl (by decide +kernel), rfl⟩
    · exact ⟨_, (fun _ => rfl), (fun z => nomatch z), .rate _, rfl⟩
  obtain ⟨e, q1, q2, my, er⟩ := rd
  refine ql_app (K := K) (d := .tup [.int 0, .int 0]) at3 n6 fr at6 rfl hp6 gp6 e1 e2 (by simp) (el_heard (EvO.is (o_read (CB := CB) my (ed_c fun _ => .obj C) (x_if (b := notS odd) (et_of (K := K) (ed_neQ1 hodd (ed_var (i := 1) rfl dv1) xc_str)) (fun h => ed_is (ed_var (i := 1) rfl dv1) (q1 h)) fun h => ed_is xc_non (q2 h))) er) (.text _ _)) fun w4 G7 H7 at7 n7 s7 hp7 gp7 dw4 => ?_
  obtain ⟨at8, s8⟩ := at7.own hp7 gp7 e1
  have n07 : NwL S G H G7 H7 := nwl_in at0 n1 (nwl_in at1 n2 (nwl_in at2 n3 n7 at7) at7) at7
  have fr0 : FrP S H p := (fr.back n3 |>.back n2).back n1
  have n08 : NwL S G H (upd G7 p (.lst ([w1] ++ [w2] ++ [w3] ++ [w4]))) H7 := n07.own fr0 gp7 e1
  have dl : DR K (upd G7 p (.lst ([w1] ++ [w2] ++ [w3] ++ [w4]))) (.ref p) (.lst [.str "top", .str "bottom", .str "value", .tup [.int 0, .int 0]]) := .lst upd_same (.cons ((((dw1.up s5).up s6).up s7).up s8) (.cons (((dw2.up s6).up s7).up s8) (.cons ((dw3.up s7).up s8) (.cons (dw4.up s8) .nil))))
  refine ql_retL (R := fun d => d = .bl true) (k1 := k + 9) at8 (el_mono (el_d (K := K) (d := .bl true) (x_eqP (p := .list [.str "top", .str "bottom", .str "value", .tuple [.int 0, .int 0]]) (q := .list [.str "top", .str "bottom", .str "value", .tuple [.int 0, .int 0]]) (ed_var (i := 5) rfl dl) (x_lst (xs_cons xc_str (xs_cons xc_str (xs_cons xc_str (xs_cons (x_tup (xs_cons xc_int (xs_cons xc_int es_nil))) es_nil))))) rfl rfl rfl rfl rfl rfl (Nat.le_of_ble_eq_true rfl) (by decide +kernel))) (fun d e => e) (by omega)) fun v d G9 H9 e at9 n9 dv => ?_
  subst e
  cases dv
  exact fin G9 H9 at9 (nwl_in at0 n08 n9 at9)
end
end K02

set_option Elab.async false
set_option linter.all false
set_option maxRecDepth 100000
set_option maxHeartbeats 2000000
namespace GL
open PySem PySem.Spec PyProof.Rows L2
/-! the facts of a written part of the heap, by one computed answer -/
def fdAt (K : PySem.W.Frag) (f : Addr) : FuncData := match K.lookup f with
  | some ⟨_, _, .func fd, _⟩ => fd
  | _ => PySem.W.fnOf "" "" { posonlyargs := [], args := [], vararg := none, kwonlyargs := [], kw_defaults := [], kwarg := none, defaults := [] } [] { kind := .function, names := [], isGenerator := false, isCoroutine := false } .none .none .none .none none .none .none
theorem fun_at {K : PySem.W.Frag} {f : Addr} {nm qual : Str} {st : Stmt} {oc : Value} {od an : Option Addr} {osl : Array (Option Value)} {kV doc pm cdv ct : Value}
    (e : K.lookup f = some ⟨oc, od, .func (PySem.W.fnOf nm qual (defArgs st) (defBody st) (defScope st) .none kV doc pm an cdv ct), osl⟩) (c : PySem.W.codeIn K cdv qual = true) : Fun K nm qual st f (fdAt K f) := by
  have h : fdAt K f = PySem.W.fnOf nm qual (defArgs st) (defBody st) (defScope st) .none kV doc pm an cdv ct := by
    unfold fdAt
    rw [e]
  rw [h]
  refine fun_mk e c ?_
  unfold PySem.W.keepIn
  show (match K.lookup f with
      | some ⟨_, _, .func _, _⟩ => true
      | some ⟨_, _, .cls _, _⟩ => PySem.W.specialIn K (.ref f) "__call__" == some (some (.builtin "type.__call__"))
      | _ => false) = true
  rw [e]
def getB (K : PySem.W.Frag) (C : Addr) : Bool := decide (PySem.W.findIn K (.ref C) "__getattribute__" = some (some (.builtin "BaseException.__getattribute__"))) && (decide (PySem.W.findIn K (.ref C) "__getattr__" = some none) && (decide (PySem.W.subIn K (.ref C) (.type "BaseException") = some true) &&
  ((PySem.W.clsIn K C).isSome && (PySem.W.hasDictIn K C && (decide (PySem.W.findIn K (.ref C) "__class__" = some (some (.builtin "object.__class__"))) && (decide (PySem.W.specialIn K (.builtin "object.__class__") "__get__" = some (some (.builtin "getset_descriptor.__get__"))) &&
  (decide (PySem.W.takesIn K (.builtin "object.__class__") = some true) && decide (PySem.W.mroIn K C (.type "object") = some true))))))))
theorem getB_of {K : PySem.W.Frag} {C : Addr} (h : getB K C = true) : OGet K C := by
  unfold getB at h
  simp only [Bool.and_eq_true, decide_eq_true_eq] at h
  obtain ⟨h1, h2, h3, h4, h5, h6, h7, h8, h9⟩ := h
  exact ⟨h1, h2, h3, h4, h5, h6, h7, h8, h9⟩
def oexB (K : PySem.W.Frag) (C : Addr) : Bool := (match K.lookup C with
  | some ⟨.type "type", _, .cls cd, sl⟩ => (match cd.mro, sl.toList with
    | .ref C' :: bm, [_, _, _, _, some (.builtin n), _] => C' == C && (n == "ValueError.__new__" && (!cd.hasDel && (cd.hasDict && PySem.HandSPX.refsVE bm)))
    | _, _ => false)
  | _ => false) && (decide (PySem.W.findIn K (.ref C) "__setattr__" = some (some (.builtin "object.__setattr__"))) && (decide (PySem.W.subIn K (.ref C) (.type "BaseException") = some true) && (decide (PySem.W.typeIn K (.ref C) = some (.type "type")) && PySem.W.keepIn K (.ref C))))
theorem oexB_of {K : PySem.W.Frag} {C : Addr} (h : oexB K C = true) : OexC K C := by
  unfold oexB at h
  rw [Bool.and_eq_true] at h
  obtain ⟨q, h⟩ := h
  simp only [Bool.and_eq_true, decide_eq_true_eq] at h
  obtain ⟨h1, h2, h3, h4⟩ := h
  refine ⟨?_, h1, h2, h3, h4⟩
  split at q
  · rename_i dd cd sl ho
    split at q
    · rename_i C' bm k0 k1 k2 k3 n k5 hm hs
      simp only [Bool.and_eq_true, beq_iff_eq, Bool.not_eq_true'] at q
      obtain ⟨rfl, rfl, hdel, hd, ht⟩ := q
      obtain ⟨nm, bs, mro, ns, qn, hdct, sn, sub, ab, col, del⟩ := cd
      dsimp only at hm hdel hd
      subst hm hdel hd
      have hsl : sl = #[k0, k1, k2, k3, some (.builtin "ValueError.__new__"), k5] := by
        obtain ⟨l⟩ := sl
        simp only at hs
        rw [hs]
      subst hsl
      exact ⟨nm, qn, ns, bs, bm, sn, sub, ab, col, dd, k0, k1, k2, k3, k5, ho, ht⟩
    · cases q
  · cases q
/-- the same with its __init__ -/
def omkB (K : PySem.W.Frag) (C I : Addr) : Bool := oexB K C && (decide (PySem.W.findIn K (.ref C) "__init__" = some (some (.ref I))) && decide (PySem.W.typeIn K (.ref I) = some (.type "function")))
theorem omkB_of {K : PySem.W.Frag} {C I : Addr} (h : omkB K C I = true) : OMk K C I := by
  unfold omkB at h
  simp only [Bool.and_eq_true, decide_eq_true_eq] at h
  obtain ⟨h1, h2, h3⟩ := h
  exact ⟨oexB_of h1, h2, h3⟩
end GL

set_option Elab.async false
set_option linter.all false
set_option maxRecDepth 100000
set_option maxHeartbeats 4000000
namespace GL
open PySem PySem.Spec PyProof.Rows L2
/-! for and comprehensions over lists of data, where the pen may be used and lambdas made -/
section
variable {S : LS} {K : PySem.W.Frag} {σ : L2.St} {k k1 : Int} {G H : Hp} {te tl ta tb : TE} {tbd tz : TS} {D : Ends} {g : TG} {Rs : List Da → Prop} {ds : List Da} {i : Int}
def endL (S : LS) (G H : Hp) (I : L2.St → Hp → Hp → Prop) (tz : TS) (D : Ends) : Ends := { D with nx := fun σ3 H3 => ∃ G3, NwL S G H G3 H3 ∧ I σ3 G3 H3, ct := fun σ3 H3 => ∃ G3, NwL S G H G3 H3 ∧ I σ3 G3 H3, bk := tz D }
theorem ql_forL (a : At S k G H) (h : EvL S K te σ G k k1 (fun d => ∃ ds, d = .lst ds ∧ Rs ds)) (cont : ∀ ds G1 H1, Rs ds → At S k1 G1 H1 → NwL S G H G1 H1 → ∃ I : Nat → L2.St → Hp → Hp → Prop, I 0 σ G1 H1 ∧
    (∀ i d x σ' G' H', ds[i]? = some d → NwL S G1 H1 G' H' → I i σ' G' H' → DR K G' x d → g x σ' H' fun σ2 H2 => tbd (endL S G1 H1 (I (i + 1)) tz D) σ2 H2) ∧ (∀ σ' G' H', NwL S G1 H1 G' H' → I ds.length σ' G' H' → tz D σ' H')) : tSeq (tFor (iList K te) g tbd) tz D σ H := h H a _ fun v d G1 H1 ⟨ds, e, hR⟩ a1 n1 dv => by
  subst e
  obtain ⟨I, h0, hs, hd⟩ := cont ds G1 H1 hR a1 n1
  cases dv with
  | @lst p xs _ b1 b2 =>
    have ne : p ≠ S.PA := fun e => by rw [e, a1.gP] at b1; cases b1
    have stay : ∀ {G' H' : Hp}, NwL S G1 H1 G' H' → H' p = some (.lst xs) := fun {G' H'} n => n.x _ _ (a1.same _ _ b1) ne (fun _ z => nomatch z)
    refine ⟨p, rfl, ⟨xs, SqL.of (a1.same _ _ b1)⟩, for_list (K := K) (xs := xs) (fun i σ' H' => ∃ G', NwL S G1 H1 G' H' ∧ I i σ' G' H') ⟨G1, .refl, h0⟩ (fun i σ' H' _ ⟨G', n, _⟩ => SqL.of (stay n)) (fun i x σ' H' hx ⟨G', n, hI⟩ => ?_) fun σ' H' ⟨G', n, hI⟩ => hd σ' G' H' n (by rw [← b2.len]; exact hI)⟩
    obtain ⟨d, q1, q2⟩ := b2.get hx
    exact hs i d x σ' G' H' q1 n hI (q2.up n.a)
theorem ql_forLE (a : At S k G H) (h : EvL S K te σ G k k1 (fun d => ∃ ds, d = .lst ds ∧ Rs ds)) (cont : ∀ ds G1 H1, Rs ds → At S k1 G1 H1 → NwL S G H G1 H1 → ∃ I : Nat → L2.St → Hp → Hp → Prop, I 0 σ G1 H1 ∧
    (∀ i d x σ' G' H', ds[i]? = some d → NwL S G1 H1 G' H' → I i σ' G' H' → DR K G' x d → g x σ' H' fun σ2 H2 => tbd (endL S G1 H1 (I (i + 1)) (fun D σ H => D.nx σ H) D) σ2 H2) ∧ (∀ σ' G' H', NwL S G1 H1 G' H' → I ds.length σ' G' H' → D.nx σ' H')) : tFor (iList K te) g tbd D σ H := ql_forL (tz := fun D σ H => D.nx σ H) a h cont
theorem el_lc {j : Nat} {vs : List Nat} (f : Da → Da) (hl : Evd K tl σ G (.lst ds)) (hz : ds.length ≤ 999) (hw : ∀ x : V, wipe ((wipe σ vs).set j (some x)) vs = wipe σ vs)
    (he : ∀ x d G', d ∈ ds → DR K G' x d → EvL S K te ((wipe σ vs).set j (some x)) G' k k (· = f d)) : EvL S K (tLc (iList K tl) (gName j) tYes te vs) σ G k k (· = .lst (ds.map f)) := fun H a Q q => (el_d hl : EvL S K tl σ G k k (· = .lst ds)) H a _ fun v d G1 H1 e a1 n1 dv => by
  subst e
  cases dv with
  | @lst p xs _ b1 b2 =>
    have ne : p ≠ S.PA := fun e => by rw [e, a1.gP] at b1; cases b1
    refine ⟨p, rfl, ⟨xs, SqL.of (a1.same _ _ b1)⟩, fun D hD => ?_⟩
    obtain ⟨e1, e2⟩ := a1.away hD
    obtain ⟨a2, n2⟩ := a1.raw (o := .lst []) hD
    have fr : FrP S H1 D := fun b u hb _ _ e => by rw [e, hD] at hb; cases hb
    have gD : G1 D = none := a1.same.free hD
    have stay : ∀ {G' H' : Hp}, NwL S G1 H1 G' H' → H' p = some (.lst xs) := fun {G' H'} n => n.x _ _ (a1.same _ _ b1) ne (fun _ z => nomatch z)
    refine lc_list (K := K) (a := p) (xs := xs) (fun i H' => ∃ G' acc, At S k G' H' ∧ NwL S G1 H1 G' H' ∧ H' D = some (.lst acc) ∧ G' D = none ∧ DRs K G' acc ((ds.take i).map f)) ⟨G1, [], a2, n2, upd_same, gD, by simpa using DRs.nil⟩ (fun i H' _ ⟨G', acc, _, n, _⟩ => SqL.of (stay n)) ?_ ?_
    · rintro i x H' hi ⟨G', acc, a3, n3, hd, gd, dr⟩
      obtain ⟨d, hdi, dx⟩ := b2.get hi
      have lacc : acc.length ≤ 999 := by
        rw [dr.len, List.length_map, List.length_take]
        omega
      refine ⟨hw x, ?_⟩
      show te _ H' _
      refine he x d G' (List.mem_of_getElem? hdi) (dx.up n3.a) H' a3 _ fun y e G3 H3 hy a4 n4 dy => ?_
      subst hy
      have hd4 : H3 D = some (.lst acc) := n4.x _ _ hd e1 (fun _ z => nomatch z)
      have gd4 : G3 D = none := n4.n _ _ hd (fun _ z => nomatch z) gd
      refine ⟨acc, hd4, Nat.lt_of_le_of_lt lacc (by decide), G3, acc ++ [y], a4.set hd4 gd4 e1 e2, (nwl_in a1 n3 n4 a4).setP fr, upd_same, gd4, ?_⟩
      rw [List.take_succ, hdi, List.map_append]
      exact (dr.up n4.a).app (.cons dy .nil)
    · rintro H' ⟨G', acc, a3, n3, hd, gd, dr⟩
      rw [show xs.length = ds.length from b2.len, List.take_length] at dr
      obtain ⟨a4, s4⟩ := a3.own hd gd e1
      exact q (.ref D) _ _ H' rfl a4 (nwl_in a n1 (n3.own fr gd e1) a4) (.lst upd_same (dr.up s4))
theorem ed_rep (ha : Evd K ta σ G (.lst ds)) (hb : Evd K tb σ G (.int i)) (h0 : 0 ≤ i) (h1 : i ≤ 100) (hz : ds.length ≤ 10) : Evd K (tOp rRep ta tb) σ G (.lst (List.replicate i.toNat ds).flatten) := ed_two ha (fun _ s => hb.up s) fun x y G' H' _ e dx dy Q q => by
  cases dy
  cases dx with
  | @lst p xs _ b1 b2 =>
    have hl := b2.len
    have hm : xs.length * i.toNat ≤ 1000 := by
      rw [hl]
      exact Nat.le_trans (Nat.mul_le_mul hz (show i.toNat ≤ 100 by omega)) (by decide)
    refine ⟨p, i, xs, rfl, rfl, e _ _ b1, by omega, by omega, sizeK hm, fun p2 hp2 => ?_⟩
    have n := Nw.new (o := .lst (List.replicate i.toNat xs).flatten) e hp2
    refine q (.ref p2) _ _ n (.lst upd_same ?_)
    have rep : ∀ m : Nat, DRs K (upd G' p2 (.lst (List.replicate i.toNat xs).flatten)) (List.replicate m xs).flatten (List.replicate m ds).flatten := fun m => by
      induction m with
      | zero => exact .nil
      | succ m ih =>
        rw [List.replicate_succ, List.replicate_succ, List.flatten_cons, List.flatten_cons]
        exact (b2.up n.a).app ih
    exact rep _
end
end GL

set_option Elab.async false
set_option linter.all false
set_option maxRecDepth 100000
set_option maxHeartbeats 4000000
namespace K02
open PySem PySem.Spec PyProof.Rows L2 GL
abbrev lawN : List Str := ["_law_script", "_law_pen_here", "_law_turn", "_law_line", "_law_bent_here", "_law_heard_here", "_law_some", "_law_told"]
theorem sc_law : FnScope lawN ["_law_script"] (defScope s_law) := ⟨rfl, rfl, rfl, by decide +kernel, rfl, by decide +kernel, by decide +kernel⟩
abbrev lawQ : Str := (envOfC "law" (defScope s_law) 0 0 (.ref 0)).qual
def spLaw (T : List (Addr × Str)) (K : PySem.W.Frag) : Sp := fun vs H Q _ => ∃ (a : Addr) (ns : List Int), vs = [.ref a] ∧ SqL K H a (ns.map V.int) ∧ ns.length ≤ 63 ∧ LamX.Tabs T H ∧ ∀ H', Q (.bl true) H'
theorem read_szd {x : Str} {r : Int × Int} (hx : x.length ≤ 300) (h : readX x = some r) : Szd r := by
  unfold readX at h
  cases ht : termsX x with
  | none => rw [ht] at h; cases h
  | some ab =>
    obtain ⟨a, b⟩ := ab
    rw [ht] at h
    have h : (if rateS (nrm a b) = x then some (nrm a b) else none) = some r := h
    split at h
    · injection h with h
      subst h
      obtain ⟨bne, ba, bb⟩ := terms_facts hx ht
      exact nrm_le bne ba bb
    · cases h
def line1 : Str := Txt.mul "7" 61
def line2 : Str := ("-1/" : Str) ++ Txt.mul "3" 70 ++ "1"
def line3 : Str := Txt.mul "9" 200 ++ "/2"
theorem lines_ok : ([line1, line2, line3].all fun x => isTx x && decide (x.length ≤ 300)) = true := by decide +kernel
def someL : List Str := ["", "-", "/", "8/4", "5/1", "0/3", "-0", "2/-3", "+1", "1/0"]
theorem some_ok : (someL.all fun x => !isTx x && decide (x.length ≤ 300)) = true := by decide +kernel
theorem et_isN {K : PySem.W.Frag} {σ : L2.St} {G : Hp} {i : Nat} {x : Str} (h : σ[i]? = some (some (.str x))) : Evt (tTest (tOp rIsN (tVar i) (tC .non))) σ G false := fun H e Q q => ans_isN (val_var h) rfl _ (q G H (Nw.refl e))
section
variable {S : LS} {K : PySem.W.Frag} {σ : L2.St} {G : Hp} {k k1 : Int} {i n : Nat} {te : TE}
theorem el_made (h : σ[i]? = some (some (.ref S.PA))) (hk : k ≤ 8000) : EvL S K (tCall (spMade K) [] E0 (tCons (tVar i) tNil)) σ G k (k + 11) (fun d => ∃ x : Str, d = .str x ∧ x.length ≤ 80) := fun H a Q q => ⟨_, h, S, k, G, rfl, a, hk, fun x G1 H1 hx a1 n1 => q (.str x) _ G1 H1 ⟨x, rfl, hx⟩ a1 n1 (.str x)⟩
theorem el_ref {T : List (Addr × Str)} (hT : S.T = T) (h : σ[i]? = some (some (.ref S.PA))) (hk : k ≤ 8000) : EvL S K (tCall (spRef K T) [] E0 (tCons (tVar i) tNil)) σ G k (k + 9) (· = .bl true) := fun H a Q q => ⟨_, h, S, k, G, hT, rfl, a, hk, fun G1 H1 a1 n1 => q (.bl true) _ G1 H1 rfl a1 n1 (.bl true)⟩
theorem el_bent (hv : σ[i]? = some (some (.ref S.PA))) (h : EvL S K te σ G k k1 fun d => ∃ z : Str, d = .str z ∧ z.length ≤ n) (hk : k1 ≤ 9000) (hn : n ≤ 200) : EvL S K (tCall (spBent K) [] E0 (tCons (tVar i) (tCons te tNil))) σ G k (k1 + 3) (fun d => ∃ z : Str, d = .str z ∧ z.length ≤ n + 2) := fun H a Q q => ⟨_, hv, h H a _ fun v d G1 H1 ⟨z, e, hz⟩ a1 n1 dv => by
  subst e
  cases dv
  exact ⟨S, k1, G1, z, rfl, a1, hk, by omega, fun y G2 H2 hy a2 n2 => q (.str y) _ G2 H2 ⟨y, rfl, by omega⟩ a2 (nwl_in a n1 n2 a2) (.str y)⟩⟩
end
section
variable {P : Program} {w : World} {K : PySem.W.Frag} {mg : Str → Option Value} {base : Heap} {C CR CB CP f c PT : Addr} {fd : FuncData}
theorem ok_law (F : FunC K "law" "law" s_law c f fd) (T : TRf P w K mg base C CR CB CP) (TB : LamX.TabB base mg c PT) {TT : List (Addr × Str)} (hmT : (PT, lawQ ++ "<lambda>") ∈ TT) (hu : ∀ p ∈ TT, p.1 = PT → p.2 = lawQ ++ "<lambda>")
    (c_pen : CalO P w K mg base 1 "_law_pen" ["_law_script"] (spPen K)) (c_made : CalG P w K mg base 14 "_law_made_right" ["_law_pen_here"] (spMade K)) (c_ref : CalG P w K mg base 17 "_law_refused_right" ["_law_pen_here"] (spRef K TT)) (c_bent : CalO P w K mg base 3 "_law_bent" ["_law_pen_here", "_law_line"] (spBent K)) (c_text : CalO P w K mg base 2 "_law_is_text" ["_law_line"] (Pr K 1 Rtx)) : FnG P w K mg base CX0 19 f fd ["_law_script"] (spLaw TT K) := by
  have hmT : ∀ q : Str, q = lawQ → (PT, q ++ "<lambda>") ∈ TT := fun q e => e ▸ hmT
  have hu : ∀ q : Str, q = lawQ → ∀ p ∈ TT, p.1 = PT → p.2 = q ++ "<lambda>" := fun q e => e ▸ hu
  refine F.okG sc_law (fun vs H Q E h => by obtain ⟨a, ns, rfl, _⟩ := h; rfl) fun A outer s H vs Q E hq hr hh => ?_
  obtain ⟨a, ns, rfl, ha, hl, hT, fin⟩ := hh
  obtain ⟨fS, fdS, GS, hS, iS, bS⟩ := T.GS
  refine ⟨_, (pss_cons (ps_set (i := 1) sc_law.nd rfl (Or.inl rfl) (pe_calO c_pen (hr.mono (by decide)) rfl (pa_cons (pv 0) pa_nil)))
    (pss_cons (ps_for PassesOwn.never rfl (pi_range1 rfl T.n_range (pa_cons pe_int pa_nil)) (pg_name (i := 2) sc_law.nd rfl (Or.inl rfl))
      (pss_cons (ps_set (i := 3) sc_law.nd rfl (Or.inl rfl) (pe_cal c_made (hq.deeper _) (hr.mono (by decide)) rfl (pa_cons (pv 1) pa_nil)))
      (pss_cons (ps_if (PW.pt (pw_or (pt_cmpR op_isN1 (pv 3) pe_non (nomark _)) (pw_or1 (pt_not (pt_val (pe_cal c_ref (hq.deeper _) (hr.mono (by decide)) rfl (pa_cons (pv 1) pa_nil))))))) (pss_one (ps_ret pe_bl)) pss_nil)
      (pss_one (ps_for PassesOwn.never rfl (pi_list (pe_lst (pa_cons (pe_calO c_bent (hr.mono (by decide)) rfl (pa_cons (pv 1) (pa_cons (pv 3) pa_nil))) (pa_cons (pe_calO c_bent (hr.mono (by decide)) rfl (pa_cons (pv 1) (pa_cons (pe_calO c_bent (hr.mono (by decide)) rfl (pa_cons (pv 1) (pa_cons (pv 3) pa_nil))) pa_nil))) pa_nil)))) (pg_name (i := 4) sc_law.nd rfl (Or.inr rfl))
        (pss_cons (ps_set (i := 5) sc_law.nd rfl (Or.inl rfl) (pe_heard (kk := 13) (K := K) (t := fun E => ClX.tCMeth C (Po K 2 (Rread C CB)) E (tC (.ref C)) (tCons (tVar 4) tNil)) rfl T.Z rfl TB rfl (hmT _ rfl) (hu _ rfl) (hr.mono (by decide)) (LamX.lamS_by (sc := defScope s_law) (by decide +kernel)) rfl (fun _ _ _ _ _ => rfl) (fun A outer s H E f c' hr2 => by exact pe_cmethX T.c_read (fun F hb => fnr_of F hb) (passes_call (takes_of rfl rfl rfl rfl) fun _ _ _ _ h => h) (pe_own T.m_Rate (by rfl)) (hr2.mono (by decide)) (pa_cons (pe_var (i := 4) rfl (Or.inr (Or.inr rfl))) pa_nil))))
        (pss_cons (ps_if (PW.pt (pw_and (pt_not (pt_val (pe_calO c_text (hr.mono (by decide)) rfl (pa_cons (pv 4) pa_nil)))) (pw_and1 (pt_neP (K := K) rfl hr.units (pv 5) (pe_tup (pa_cons pe_int (pa_cons pe_int pa_nil))))))) (pss_one (ps_ret pe_bl)) pss_nil)
        (pss_one (ps_if (PW.pt (pw_and (pt_val (pe_calO c_text (hr.mono (by decide)) rfl (pa_cons (pv 4) pa_nil))) (pw_and1 (PW.pt (pw_or (pt_not (pt_val (pe_callB call_isi (by rfl) T.n_isinstance PyProof.Rows.boot_isinstance (pa_cons (pv 5) (pa_cons (pe_bltn (v := .ty "list") rfl T.n_list (by decide +kernel) rfl) pa_nil))))) (pw_or1 (pt_cmpR op_ne (pe_callTy (call_strO GS hS iS bS (hr.mono (by decide))) (by rfl) T.n_str (by decide +kernel) (pa_cons (pe_ix ix_list (pv 5) pe_int (fun _ _ => rfl)) pa_nil)) (pv 4) (nomark _)))))))) (pss_one (ps_ret pe_bl)) pss_nil)))))))))
    (pss_cons (ps_for PassesOwn.never rfl (pi_list (pe_lst (pa_cons (pe_op op_repS pe_str pe_int) (pa_cons (pe_op op_add_str (pe_op op_add_str pe_str (pe_op op_repS pe_str pe_int)) pe_str) (pa_cons (pe_op op_add_str (pe_op op_repS pe_str pe_int) pe_str) pa_nil))))) (pg_name (i := 3) sc_law.nd rfl (Or.inl rfl))
      (pss_one (ps_if (pt_cmpR op_ne (pe_callTy (call_strO GS hS iS bS (hr.mono (by decide))) (by rfl) T.n_str (by decide +kernel) (pa_cons (pe_cmethX T.c_read (fun F hb => fnr_of F hb) passL (pe_own T.m_Rate (by rfl)) (hr.mono (by decide)) (pa_cons (pv 3) pa_nil)) pa_nil)) (pv 3) (nomark _)) (pss_one (ps_ret pe_bl)) pss_nil)))
    (pss_cons (ps_set (i := 6) sc_law.nd rfl (Or.inl rfl) (pe_lst (pa_cons pe_str (pa_cons pe_str (pa_cons pe_str (pa_cons pe_str (pa_cons pe_str (pa_cons pe_str (pa_cons pe_str (pa_cons pe_str (pa_cons pe_str (pa_cons pe_str pa_nil))))))))))))
    (pss_cons (ps_setLc (i := 7) (own := [("_law_line", 3)]) (g := gName 3) (tt := tYes) rfl sc_law.nd rfl rfl (by rfl) (pi_list (pv 6)) (blkOk_by (own := [("_law_line", 3)]) (N := lawN) (sc := defScope s_law) (by decide +kernel)) (fun _ _ _ _ _ => pg_name (i := 3) sc_law.nd rfl (Or.inr rfl)) (fun _ _ _ _ _ => pts_nil) (fun _ _ _ _ _ => (pe_heard (kk := 13) (K := K) (t := fun E => ClX.tCMeth C (Po K 2 (Rread C CB)) E (tC (.ref C)) (tCons (tVar 3) tNil)) rfl T.Z rfl TB rfl (hmT _ rfl) (hu _ rfl) (hr.mono (by decide)) (LamX.lamS_by (sc := { kind := .function, names := [(".0", .local), ("_law_line", .cell), ("_law_heard", .globalImplicit)], isGenerator := false, isCoroutine := false }) (by decide +kernel)) rfl (fun _ _ _ _ _ => rfl) (fun A outer s H E f c' hr2 => by exact pe_cmethX T.c_read (fun F hb => fnr_of F hb) (passes_call (takes_of rfl rfl rfl rfl) fun _ _ _ _ h => h) (pe_own T.m_Rate (by rfl)) (hr2.mono (by decide)) (pa_cons (pe_var (i := 3) rfl (Or.inr (Or.inr rfl))) pa_nil)))))
    (pss_one (ps_ret (pe_and (pe_eqP (K := K) rfl hr.units (pv 7) (pe_op op_rep (pe_lst (pa_cons (pe_tup (pa_cons pe_int (pa_cons pe_int pa_nil))) pa_nil)) pe_int)) (pe_one (pe_eqP (K := K) rfl hr.units (pe_lst (pa_cons (pe_callTy (call_strO GS hS iS bS (hr.mono (by decide))) (by rfl) T.n_str (by decide +kernel) (pa_cons (pe_mkX T.mk2 passL (hr.mono (by decide)) rfl T.m_Rate (pa_cons pe_int (pa_cons (pe_un un_neg pe_int) pa_nil))) pa_nil)) (pa_cons (pe_propG T.p_bottom (pe_mkX T.mk2 passL (hr.mono (by decide)) rfl T.m_Rate (pa_cons pe_int (pa_cons (pe_un un_neg pe_int) pa_nil))) T.cls (hr.mono (by decide))) pa_nil))) (pe_lst (pa_cons pe_str (pa_cons pe_int pa_nil))))))))))))), ?_⟩
  refine ⟨_, rfl, a, ns, rfl, ha, hl, fun PA c0 H1 s1 hP hc hp => ?_⟩
  let S : LS := ⟨PA, c0, ns, TT⟩
  have at0 : At S 0 (fun _ => none) H1 := ⟨⟨0, 0, Int.le_refl _, hp⟩, hl, hT.ext s1, (fun _ _ z => nomatch z), rfl, (fun _ _ z => nomatch z)⟩
  have ct : ∀ {te : TE} {σ : L2.St} {G : Hp} {x : Str}, Evd K te σ G (.str x) → x.length ≤ 300 → Evd K (tCall (Pr K 1 Rtx) [] E0 (tCons te tNil)) σ G (.bl (isTx x)) := fun {te σ G x} h hx => x_callR (R := Rtx) (xs_cons h es_nil) rfl ⟨x, rfl, by omega, rfl⟩
  refine ⟨8, rfl, by decide, by decide, for_range (lo := 0) (n := 8) (fun i σ' H' => (∃ x2 x3 x4 x5 x6 x7, σ' = [some (.ref a), some (.ref PA), x2, x3, x4, x5, x6, x7]) ∧ ∃ G, At S (40 * i) G H') ⟨⟨_, _, _, _, _, _, rfl⟩, _, at0.up (by omega)⟩ (fun i σ' H' hi j => ?_) (fun σ' H' j => ?_)⟩
  · obtain ⟨⟨x2, x3, x4, x5, x6, x7, rfl⟩, G, at1⟩ := j
    refine ql_asgL (K := K) at1 (el_made (S := S) (i := 1) rfl (by omega)) fun v3 d3 G2 H2 ⟨line, e3, hl3⟩ at2 n2 dv3 => ?_
    subst e3
    cases dv3
    refine ql_ifL (b := false || !true) at2 (elt_or (el_t (et_isN (K := K) (i := 3) rfl)) (fun _ => elt_not (elt_B (K := K) (el_ref (S := S) (T := TT) rfl (i := 1) rfl (by omega)))) (by omega)) rfl fun G3 H3 at3 n3 => ?_
    refine ql_forLE (K := K) (Rs := fun ds => ∃ x y : Str, ds = [.str x, .str y] ∧ x.length ≤ 300 ∧ y.length ≤ 300) at3 (el_mono (el_lst (els_c (el_bent (S := S) (i := 1) (n := 80) rfl (el_mono (el_d (ed_var (i := 3) rfl (.str line))) (fun d e => ⟨line, e, hl3⟩) (Int.le_refl _)) (by omega) (by decide)) (els_c (el_bent (S := S) (i := 1) (n := 82) rfl (el_bent (S := S) (i := 1) (n := 80) rfl (el_mono (el_d (ed_var (i := 3) rfl (.str line))) (fun d e => ⟨line, e, hl3⟩) (Int.le_refl _)) (by omega) (by decide)) (by omega) (by decide)) els_nil)) (fun ds ⟨d, es, e, _, d', es', e', _, e''⟩ => by subst e e' e''; exact Nat.le_of_ble_eq_true rfl)) (fun d ⟨ds, e, d1, es, e1, ⟨x, ex, hx⟩, d2, es2, e2, ⟨y, ey, hy⟩, e3⟩ => by
      subst e1 ex e2 ey e3
      exact ⟨_, e, x, y, rfl, by omega, by omega⟩) (Int.le_refl _)) fun ds G4 H4 ⟨x, y, eds, hx, hy⟩ at4 n4 => ?_
    subst eds
    refine ⟨fun _ σ' G' H' => (∃ y4 y5, σ' = [some (.ref a), some (.ref PA), some (.int (0 + i)), some (.str line), y4, y5, x6, x7]) ∧ At S (40 * i + 30) G' H', ⟨⟨_, _, rfl⟩, at4.up (by omega)⟩, ?_, fun σ' G' H' n ⟨⟨y4, y5, e⟩, at5⟩ => ⟨⟨_, _, _, _, _, _, e⟩, G', at5.up (by omega)⟩⟩
    rintro idx d vx σ' G' H' hd n5 ⟨⟨y4, y5, rfl⟩, at5⟩ dx
    obtain ⟨z, rfl, hz⟩ : ∃ z : Str, d = .str z ∧ z.length ≤ 300 := by
      have := List.mem_of_getElem? hd
      simp only [List.mem_cons, List.not_mem_nil, or_false] at this
      rcases this with rfl | rfl
      · exact ⟨x, rfl, hx⟩
      · exact ⟨y, rfl, hy⟩
    cases dx
    rcases read_iff (x := z) with ⟨t1, r, okr, t2, t3⟩ | ⟨t1, t2⟩
    · have szd := read_szd hz t2
      refine ql_asgL (K := K) at5 (el_heard (S := S) (d := .lst [rateD C r]) (EvO.is (o_read (CB := CB) (.str z hz) (ed_c fun _ => .obj C) (ed_var (i := 4) rfl (.str z))) (read_val t2)) (.val _)) fun v6 d6 G6 H6 e6 at6 n6 dv6 => ?_
      subst e6
      refine ql_no at6 (et_and (b := false) (c := false) (et_is (et_not (et_B (K := K) (ct (ed_var (i := 4) rfl (.str z)) hz))) (by rw [t1]; rfl)) fun q => nomatch q) fun G7 H7 at7 n7 => ?_
      have dv6 := dv6.up n7.a
      refine ql_endL (b := isTx z && (!true || !decide (rateS r = z))) at7 (el_t (x_and (et_B (K := K) (ct (ed_var (i := 4) rfl (.str z)) hz)) (x_or (et_not (et_B (K := K) (ed_isi (ed_var (i := 5) rfl dv6) rfl (by decide +kernel)))) (et_of (K := K) (x_nes (ed_strO szd (ed_ixL (i := 0) (ed_var (i := 5) rfl dv6) (fun _ _ => xc_int) rfl)) (ed_var (i := 4) rfl (.str z)) rfl))))) (by rw [t3]; simp) fun G8 H8 at8 n8 => ⟨G8, nwl_in at4 n5 (nwl_in at5 n6 (nwl_in at6 n7 n8 at8) at8) at8, ⟨_, _, rfl⟩, at8⟩
    · refine ql_asgL (K := K) at5 (el_heard (S := S) (d := .tup [.int 0, .int 0]) (EvO.is (o_read (CB := CB) (.str z hz) (ed_c fun _ => .obj C) (ed_var (i := 4) rfl (.str z))) (read_err t2)) (.text _ _)) fun v6 d6 G6 H6 e6 at6 n6 dv6 => ?_
      subst e6
      refine ql_no at6 (et_is (x_and (b := true) (et_is (et_not (et_B (K := K) (ct (ed_var (i := 4) rfl (.str z)) hz))) (by rw [t1]; rfl)) (et_of (K := K) (x_neP (p := .tuple [.int 0, .int 0]) (q := .tuple [.int 0, .int 0]) (ed_var (i := 5) rfl dv6) (x_tup (xs_cons xc_int (xs_cons xc_int es_nil))) rfl rfl rfl rfl rfl rfl (Nat.le_of_ble_eq_true rfl) rfl))) (by decide +kernel)) fun G7 H7 at7 n7 => ?_
      refine ql_endL (b := false) at7 (el_t (et_and (b := false) (c := false) (et_is (et_B (K := K) (ct (ed_var (i := 4) rfl (.str z)) hz)) t1) fun q => nomatch q)) rfl fun G8 H8 at8 n8 => ⟨G8, nwl_in at4 n5 (nwl_in at5 n6 (nwl_in at6 n7 n8 at8) at8) at8, ⟨_, _, rfl⟩, at8⟩
  · obtain ⟨⟨x2, x3, x4, x5, x6, x7, rfl⟩, G, at1⟩ := j
    have lall := lines_ok
    have lok : ∀ z ∈ [line1, line2, line3], isTx z = true ∧ z.length ≤ 300 := fun z hz => by
      have := List.all_eq_true.mp lall z hz
      rw [Bool.and_eq_true, decide_eq_true_eq] at this
      exact this
    refine ql_forL (K := K) (Rs := fun ds => ds = [line1, line2, line3].map Da.str) at1 (el_mono (el_d (d := .lst ([line1, line2, line3].map Da.str)) (x_lst (xs_cons (ed_repS (by decide) (by decide) (by decide) xc_str xc_int) (xs_cons (ed_catS (ed_catS xc_str (ed_repS (by decide) (by decide) (by decide) xc_str xc_int) (by decide +kernel)) xc_str (by decide +kernel)) (xs_cons (ed_catS (ed_repS (by decide) (by decide) (by decide) xc_str xc_int) xc_str (by decide +kernel)) es_nil))))) (fun d e => ⟨_, e, rfl⟩) (Int.le_refl _)) fun ds G2 H2 eds at2 n2 => ?_
    subst eds
    refine ⟨fun _ σ' G' H' => (∃ y3, σ' = [some (.ref a), some (.ref PA), x2, y3, x4, x5, x6, x7]) ∧ At S (40 * (8 : Nat)) G' H', ⟨⟨_, rfl⟩, at2⟩, ?_, ?_⟩
    · rintro idx d vx σ' G' H' hd n5 ⟨⟨y3, rfl⟩, at5⟩ dx
      obtain ⟨z, hz, rfl⟩ := List.mem_map.mp (List.mem_of_getElem? hd)
      obtain ⟨t1, l300⟩ := lok z hz
      cases dx
      rcases read_iff (x := z) with ⟨_, r, okr, t2, t3⟩ | ⟨t2, _⟩
      · have szd := read_szd l300 t2
        refine ql_endL (b := !decide (rateS r = z)) at5 (el_t (et_of (K := K) (x_nes (ed_strO szd (EvO.val (EvO.is (o_read (CB := CB) (.str z l300) (ed_c fun _ => .obj C) (ed_var (i := 3) rfl (.str z))) (read_val t2)) E0)) (ed_var (i := 3) rfl (.str z)) rfl))) (by rw [t3]; simp) fun G8 H8 at8 n8 => ⟨G8, nwl_in at2 n5 n8 at8, ⟨_, rfl⟩, at8⟩
      · rw [t1] at t2; cases t2
    · rintro σ' G' H' n5 ⟨⟨y3, rfl⟩, at5⟩
      refine ql_asg (K := K) (d := .lst (someL.map Da.str)) at5 (x_lst (xs_cons xc_str (xs_cons xc_str (xs_cons xc_str (xs_cons xc_str (xs_cons xc_str (xs_cons xc_str (xs_cons xc_str (xs_cons xc_str (xs_cons xc_str (xs_cons xc_str es_nil))))))))))) fun v6 G6 H6 at6 n6 dv6 => ?_
      have sok : ∀ z ∈ someL, isTx z = false ∧ z.length ≤ 300 := fun z hz => by
        have := List.all_eq_true.mp some_ok z hz
        rw [Bool.and_eq_true, decide_eq_true_eq, Bool.not_eq_true'] at this
        exact this
      refine ql_asgL (K := K) at6 (el_lc (S := S) (j := 3) (vs := [3]) (fun _ => .tup [.int 0, .int 0]) (ed_var (i := 6) rfl dv6) (by decide) (fun _ => rfl) fun vx d G' hd dx => by
        obtain ⟨z, hz, rfl⟩ := List.mem_map.mp hd
        obtain ⟨t1, l300⟩ := sok z hz
        rcases read_iff (x := z) with ⟨t2, _⟩ | ⟨_, t2⟩
        · rw [t1] at t2; cases t2
        · exact el_heard (S := S) (EvO.is (o_read (CB := CB) (.str z l300) (ed_c fun _ => .obj C) (ed_var (i := 3) rfl dx)) (read_err t2)) (.text _ _)) fun v7 d7 G7 H7 e7 at7 n7 dv7 => ?_
      subst e7
      have r04 : nrm 0 (-4) = (0, 1) := by decide +kernel
      have mk : ∀ {σ : L2.St} {G : Hp}, Evd K (tMakeN C 2 0 (PiO K C 2 (Rini C CR)) (fun vs _ => vs) E0 (tCons (tC (.int 0)) (tCons (tUn (rU fun i => .int (-i)) (tC (.int 4))) tNil)) tNil) σ G (rateD C (0, 1)) := fun {σ G} => ed_is (ed_mk (CR := CR) (a := 0) (b := -4) xc_int (ed_negI xc_int) (by decide) (up8 (by decide)) (up8 (by decide)) E0) (by rw [r04])
      have s01 : Szd (0, 1) := ⟨Nat.pow_pos (by decide), Nat.one_lt_pow (by decide) (by decide)⟩
      refine ql_retL (R := fun d => d = .bl true) at7 (el_d (K := K) (d := .bl true) (x_andV (b := true) (c := true) (x_eqP (p := .list (List.replicate 10 (.tuple [.int 0, .int 0]))) (q := .list (List.replicate 10 (.tuple [.int 0, .int 0]))) (ed_var (i := 7) rfl dv7) (ed_rep (K := K) (i := 10) (x_lst (xs_cons (x_tup (xs_cons xc_int (xs_cons xc_int es_nil))) es_nil)) xc_int (by decide) (by decide) (by decide)) rfl rfl rfl rfl rfl rfl (Nat.le_of_ble_eq_true rfl) (by decide +kernel)) (x_eqP (p := .list [.str "0", .int 1]) (q := .list [.str "0", .int 1]) (x_lst (xs_cons (ed_is (ed_strO s01 mk) (congrArg Da.str (by decide +kernel : rateS (0, 1) = "0"))) (xs_cons (ed_bot mk) es_nil))) (x_lst (xs_cons xc_str (xs_cons xc_int es_nil))) rfl rfl rfl rfl rfl rfl (Nat.le_of_ble_eq_true rfl) (by decide +kernel)))) fun v d G9 H9 e at9 n9 dv => ?_
      subst e
      cases dv
      exact fin _
end
end K02

set_option Elab.async false
set_option linter.all false
set_option maxRecDepth 100000
set_option maxHeartbeats 4000000
namespace GL
open PySem PySem.Spec PyProof.Rows L2
/-! defs found by an address of one's own -/
abbrev FnVA : Type := Option (Str × Str × Arguments × FuncBody × Scope × Addr × List (Str × Addr) × Addr)
def obsA (K : PySem.W.Frag) (f : Addr) : FnVA := match K.lookup f with
  | some ⟨_, _, .func fd, _⟩ => some (fd.name, fd.qualname, fd.params, fd.body, fd.scope, fd.globals, fd.closure, fd.builtins)
  | _ => none
def isN : Value → Bool
  | .none => true
  | _ => false
def codeA (K : PySem.W.Frag) (f : Addr) (qual : Str) : Bool := match K.lookup f with
  | some ⟨_, _, .func fd, _⟩ => PySem.W.codeIn K fd.code qual && isN fd.defaults
  | _ => false
theorem funA {K : PySem.W.Frag} {f : Addr} {nm qual : Str} {st : Stmt} (e : obsA K f = some (nm, qual, defArgs st, .stmts (defBody st), defScope st, mainGlobals, [], builtinsNs)) (c : codeA K f qual = true) : Fun K nm qual st f (fdAt K f) := by
  unfold obsA at e
  unfold codeA at c
  cases q : K.lookup f with
  | none => rw [q] at c; cases c
  | some o =>
    obtain ⟨oc, od, dt, osl⟩ := o
    rw [q] at c e
    cases dt with
    | func fd =>
      obtain ⟨n1, n2, n3, n4, n5, n6, n7, n8, n9, n10, n11, n12, n13, n14, n15⟩ := fd
      have e2 : (some (n1, n2, n3, n4, n5, n6, n7, n15) : FnVA) = some (nm, qual, defArgs st, .stmts (defBody st), defScope st, mainGlobals, [], builtinsNs) := e
      simp only [Option.some.injEq, Prod.mk.injEq] at e2
      obtain ⟨h1, h2, h3, h4, h5, h6, h7, h8⟩ := e2
      subst h1 h2 h3 h4 h5 h6 h7 h8
      have c3 : (PySem.W.codeIn K n13 n2 && isN n8) = true := c
      rw [Bool.and_eq_true] at c3
      obtain ⟨k1, k2⟩ := c3
      cases n8 with
      | none => exact fun_at q k1
      | _ => cases k2
    | _ => cases c
structure FnA where
  at_ : PySem.W.Frag → Addr
  name : Str
  qual : Str
  st : Stmt
def FnA.val (d : FnA) : FnVA := some (d.name, d.qual, defArgs d.st, .stmts (defBody d.st), defScope d.st, mainGlobals, [], builtinsNs)
def obsL (fl : List FnA) (K : PySem.W.Frag) : Bool × List FnVA := (fl.all fun d => codeA K (d.at_ K) d.qual, fl.map fun d => obsA K (d.at_ K))
def valL (fl : List FnA) : Bool × List FnVA := (true, fl.map FnA.val)
theorem funL {fl : List FnA} {K : PySem.W.Frag} (c : obsL fl K = valL fl) (i : Nat) {d : FnA} (h : fl[i]? = some d) : Fun K d.name d.qual d.st (d.at_ K) (fdAt K (d.at_ K)) := by
  have c1 : (fl.all fun d => codeA K (d.at_ K) d.qual) = true := congrArg (fun z : Bool × List FnVA => z.1) c
  have c2 : (fl.map fun d => obsA K (d.at_ K)) = fl.map FnA.val := congrArg (fun z : Bool × List FnVA => z.2) c
  have e2 : (fl.map fun d => obsA K (d.at_ K))[i]? = (fl.map FnA.val)[i]? := by rw [c2]
  rw [List.getElem?_map, List.getElem?_map, h] at e2
  exact funA (Option.some.inj e2) (List.all_eq_true.mp c1 d (List.mem_of_getElem? h))
end GL
namespace GL
open PySem PySem.Spec PyProof.Rows L2
theorem kb_of {K : PySem.W.Frag} {x qual : Str} {st : Stmt} {f : Addr} {fd : FuncData} {ps ks : List Str} {n : Nat} {g : List Value → List Value → List Value} {gV : List V → List V → List V} (F : Fun K x qual st f fd)
    (h : ∀ (kV doc pm : Value) (an : Option Addr) (cdv ct : Value) (us ws : List Value), us.length = n → ws.length = ks.length → bindArgs (PySem.W.fnOf x qual (defArgs st) (defBody st) (defScope st) .none kV doc pm an cdv ct) ⟨us, ks.zip ws⟩ = pure (ps.zip (g us ws)))
    (rel : ∀ {vs : List V} {us : List Value} {zs : List V} {ws : List Value}, Vals vs us → Vals zs ws → Vals (gV vs zs) (g us ws)) : KBn K fd ps n ks g gV := by
  obtain ⟨oc, od, kV, doc, pm, an, cdv, ct, osl, rfl, lk, hcd⟩ := F.ex
  exact ⟨fun s us ws _ l1 l2 => .of_eq (h kV doc pm an cdv ct us ws l1 l2), rel⟩
def isS (z : Str) : Option (Option Value) → Bool
  | some (some (.str x _)) => decide (x = z)
  | _ => false
def isI (i : Int) : Option (Option Value) → Bool
  | some (some (.int j _)) => decide (j = i)
  | _ => false
theorem isS_ok {z : Str} {o : Option (Option Value)} (h : isS z o = true) : ∃ t, o = some (some (.str z t)) := by
  unfold isS at h
  split at h
  · next x t => exact ⟨t, by rw [of_decide_eq_true h]⟩
  · cases h
theorem isI_ok {i : Int} {o : Option (Option Value)} (h : isI i o = true) : ∃ t, o = some (some (.int i t)) := by
  unfold isI at h
  split at h
  · next x t => exact ⟨t, by rw [of_decide_eq_true h]⟩
  · cases h
def isV (i : Int) : Option PySem.W.CFound → Bool
  | some (.val (.int j _)) => decide (j = i)
  | _ => false
theorem isV_ok {i : Int} {o : Option PySem.W.CFound} (h : isV i o = true) : ∃ t, o = some (.val (.int i t)) := by
  unfold isV at h
  split at h
  · next x t => exact ⟨t, by rw [of_decide_eq_true h]⟩
  · cases h
def isG (p C : Addr) : Option PySem.W.CFound → Bool
  | some (.get (.builtin b) (.ref p') .none (.ref C')) => decide (b = "classmethod.__get__") && (decide (p' = p) && decide (C' = C))
  | _ => false
theorem isG_ok {p C : Addr} {o : Option PySem.W.CFound} (h : isG p C o = true) : o = some (.get (.builtin "classmethod.__get__") (.ref p) .none (.ref C)) := by
  unfold isG at h
  split at h
  · next b p' C' =>
    simp only [Bool.and_eq_true, decide_eq_true_eq] at h
    obtain ⟨rfl, rfl, rfl⟩ := h
    rfl
  · cases h
def isR (a : Addr) : Value → Bool
  | .ref c => decide (c = a)
  | _ => false
theorem isR_ok {a : Addr} {v : Value} (h : isR a v = true) : v = .ref a := by
  unfold isR at h
  split at h
  · rw [of_decide_eq_true h]
  · cases h
def eqkB (K : PySem.W.Frag) (C f : Addr) : Bool := (match K.lookup C with
  | some ⟨.type "type", _, .cls cd, sl⟩ => (match cd.mro, sl.toList with
    | [.ref C', .type "object"], [_, _, _, _, some (.builtin _), _] => decide (C' = C) && (!cd.hasDel && (PySem.W.nsOkIn K cd.ns && (decide (PySem.W.nsIn K cd.ns "__eq__" = some (some (.ref f))) && decide (PySem.W.nsIn K cd.ns "__ne__" = some none))))
    | _, _ => false)
  | _ => false)
theorem eqkB_of {K : PySem.W.Frag} {C f : Addr} (q : eqkB K C f = true) (hf : PySem.W.isFn K (.ref f) = true) : EqK K C f := by
  unfold eqkB at q
  refine ⟨?_, hf⟩
  split at q
  · rename_i dd cd sl ho
    split at q
    · rename_i C' k0 k1 k2 k3 n k5 hm hs
      simp only [Bool.and_eq_true, decide_eq_true_eq, Bool.not_eq_true'] at q
      obtain ⟨rfl, hdel, q1, q2, q3⟩ := q
      obtain ⟨nm, bs, mro, ns, qn, hdct, sn, sub, ab, col, del⟩ := cd
      dsimp only at hm hdel q1 q2 q3
      subst hm hdel
      have hsl : sl = #[k0, k1, k2, k3, some (.builtin n), k5] := by
        obtain ⟨l⟩ := sl
        simp only at hs
        rw [hs]
      subst hsl
      exact ⟨nm, qn, ns, bs, _, sn, sub, ab, col, dd, k0, k1, k2, k3, k5, n, ho, q1, q2, q3⟩
    · cases q
  · cases q

/-! addresses by name, and a def's code object with its table -/
def gl (x : Str) (K : PySem.W.Frag) : Addr := He.ga K x
def codeOf (f : Addr) (K : PySem.W.Frag) : Addr := match (fdAt K f).code with
  | .ref c => c
  | _ => 0
def tabOf (f : Addr) (K : PySem.W.Frag) : Addr := match K.lookup (codeOf f K) with
  | some ⟨_, _, .fields vs, _⟩ => (match (vs[11]? : Option Value) with
    | some (.ref P) => P
    | _ => 0)
  | _ => 0
/-- the def at f has its code object, and that its own table -/
def tabB (K : PySem.W.Frag) (f : Addr) : Bool := isR (codeOf f K) (fdAt K f).code && (PySem.W.codeHdIn K (codeOf f K) (tabOf f K) && (K.lookup (tabOf f K)).isNone)
section
variable {K : PySem.W.Frag} {f : Addr} {h : Heap} {x qual : Str} {st : Stmt}
theorem funC_of (F : Fun K x qual st f (fdAt K f)) (t : tabB K f = true) : FunC K x qual st (codeOf f K) f (fdAt K f) := by
  unfold tabB at t
  rw [Bool.and_eq_true] at t
  have d := isR_ok t.1
  obtain ⟨oc, od, kV, doc, pm, an, cdv, ct, osl, e, lk, hc⟩ := F.ex
  have ec : cdv = .ref (codeOf f K) := by rw [e] at d; exact d
  subst ec
  exact ⟨oc, od, kV, doc, pm, an, ct, osl, e, lk, hc⟩
theorem tab_none (t : tabB K f = true) : K.lookup (tabOf f K) = none := by
  unfold tabB at t
  simp only [Bool.and_eq_true] at t
  exact Option.isNone_iff_eq_none.mp t.2.2
theorem tab_code (X : K.In h) (t : tabB K f = true) : PySem.W.CodeHd h (codeOf f K) (tabOf f K) := by
  unfold tabB at t
  simp only [Bool.and_eq_true] at t
  exact PySem.W.codeHd_of_K X t.2.1
theorem tab_own (F : Fun K x qual st f (fdAt K f)) (own : LamX.OwnTab K f h) (t : tabB K f = true) : h.get? (tabOf f K) = some { cls := .none, data := .fields #[] } := by
  unfold tabB at t
  simp only [Bool.and_eq_true] at t
  have d := isR_ok t.1
  have d8 := t.2.1
  obtain ⟨oc, od, kV, doc, pm, an, cdv, ct, osl, e, lk, hc⟩ := F.ex
  unfold PySem.W.codeHdIn at d8
  split at d8
  · next vs _ hk =>
    simp only [Bool.and_eq_true] at d8
    obtain ⟨⟨⟨⟨⟨e1, _⟩, _⟩, _⟩, _⟩, _⟩ := d8
    split at e1
    · next P' hv =>
      have e2 : P' = tabOf f K := beq_iff_eq.mp e1
      exact own (codeOf f K) (tabOf f K) _ _ _ _ vs _ lk rfl d hk (by rw [hv, e2])
    · cases e1
  · cases d8
end
/-- a method's def, as an attribute that is found -/
def methB (K : PySem.W.Frag) (C : Addr) (m : Str) : Bool := decide (PySem.W.findIn K (.ref C) m = some (some (.ref (He.ma K C m)))) && (PySem.W.isFn K (.ref (He.ma K C m)) && PySem.W.keepIn K (.ref (He.ma K C m)))
theorem methB_of {K : PySem.W.Frag} {C : Addr} {m : Str} (h : methB K C m = true) : Meth K C m (He.ma K C m) := by
  unfold methB at h
  simp only [Bool.and_eq_true, decide_eq_true_eq] at h
  exact ⟨h.1, h.2.1, h.2.2⟩
/-- a plain class of instances -/
def clsB (K : PySem.W.Frag) (C : Addr) : Bool := PySem.W.plainGet K C Str.empty && (PySem.W.hasDictIn K C && (PySem.W.plainOver K C && decide (PySem.W.findIn K (.ref C) "__setattr__" = some (some (.builtin "object.__setattr__")))))
theorem clsB_of {K : PySem.W.Frag} {C : Addr} (h : clsB K C = true) : Cls K C := by
  unfold clsB at h
  simp only [Bool.and_eq_true, decide_eq_true_eq] at h
  exact ⟨h.1, h.2.1, h.2.2.1, h.2.2.2⟩
def incB (K : PySem.W.Frag) (C : Addr) : Bool := clsB K C && (decide (PySem.W.findIn K (.ref C) "__class__" = some (some (.builtin "object.__class__"))) && (decide (PySem.W.specialIn K (.builtin "object.__class__") "__get__" = some (some (.builtin "getset_descriptor.__get__"))) && (decide (PySem.W.takesIn K (.builtin "object.__class__") = some true) && decide (PySem.W.mroIn K C (.type "object") = some true))))
theorem incB_of {K : PySem.W.Frag} {C : Addr} (h : incB K C = true) : InC K C := by
  unfold incB at h
  simp only [Bool.and_eq_true, decide_eq_true_eq] at h
  exact ⟨clsB_of h.1, h.2.1, h.2.2.1, h.2.2.2.1, h.2.2.2.2⟩
def mkB (K : PySem.W.Frag) (C : Addr) : Bool := PySem.W.makesIn K C && (PySem.W.keepIn K (.ref C) && (decide (PySem.W.findIn K (.ref C) "__init__" = some (some (.ref (He.ma K C "__init__")))) && PySem.W.isFn K (.ref (He.ma K C "__init__"))))
theorem mkB_of {K : PySem.W.Frag} {C : Addr} (h : mkB K C = true) : Mk K C (He.ma K C "__init__") := by
  unfold mkB at h
  simp only [Bool.and_eq_true, decide_eq_true_eq] at h
  exact ⟨h.1, h.2.2.1, h.2.2.2, h.2.1⟩
def mcv (K : PySem.W.Frag) (C : Addr) : Value := match K.lookup C with
  | some ⟨m, _, _, _⟩ => m
  | _ => .none
def creadB (K : PySem.W.Frag) (C : Addr) : Bool := PySem.W.readsIn K C (mcv K C) && decide (PySem.W.specialIn K (.ref C) "__getattribute__" = some (some (.builtin "type.__getattribute__")))
theorem creadB_of {K : PySem.W.Frag} {C : Addr} (h : creadB K C = true) : ClX.CRead K C (mcv K C) := by
  unfold creadB at h
  rw [Bool.and_eq_true, decide_eq_true_eq] at h
  exact ⟨h.1, h.2⟩
def freeB (K : PySem.W.Frag) (l : List Str) : Bool := l.all fun x => decide (PySem.W.nsIn K mainGlobals x = some none)
def globB (K : PySem.W.Frag) (l : List Str) : Bool := l.all fun x => decide (PySem.W.nsIn K mainGlobals x = some (some (.ref (gl x K))))
def noneB (K : PySem.W.Frag) (C : Addr) (l : List Str) : Bool := l.all fun x => decide (PySem.W.findIn K (.ref C) x = some none)
theorem freeB_of {K : PySem.W.Frag} {h : Heap} {mg : Str → Option Value} {l : List Str} (X : K.In h) (G : h.Ns mainGlobals mg) (q : freeB K l = true) : ∀ x ∈ l, mg x = none := fun x hx => PySem.W.mg_none_of X G (of_decide_eq_true (List.all_eq_true.mp q x hx))
theorem globB_of {K : PySem.W.Frag} {h : Heap} {mg : Str → Option Value} {l : List Str} (X : K.In h) (G : h.Ns mainGlobals mg) (q : globB K l = true) : ∀ x ∈ l, mg x = some (.ref (gl x K)) := fun x hx => PySem.W.mg_of X G (of_decide_eq_true (List.all_eq_true.mp q x hx))
theorem noneB_of {K : PySem.W.Frag} {C : Addr} {l : List Str} (q : noneB K C l = true) : ∀ x ∈ l, PySem.W.findIn K (.ref C) x = some none := fun x hx => of_decide_eq_true (List.all_eq_true.mp q x hx)
end GL

set_option Elab.async false
set_option linter.all false
set_option maxRecDepth 100000
set_option maxHeartbeats 4000000
namespace GL
open PySem PySem.Spec PyProof.Rows L2
/-- the getter of a property, the def of a static method -/
def prf (K : PySem.W.Frag) (C : Addr) (m : Str) : Addr := match PySem.W.recIn K (He.ma K C m) "property" with
  | some (.ref g :: _) => g
  | _ => 0
def smf (K : PySem.W.Frag) (C : Addr) (m : Str) : Addr := match PySem.W.recIn K (He.ma K C m) "staticmethod" with
  | some (.ref g :: _) => g
  | _ => 0
def isRec : Option (List Value) → Bool
  | some (.ref _ :: _) => true
  | _ => false
def isGs (p C : Addr) : Option PySem.W.CFound → Bool
  | some (.get (.builtin n) (.ref p') .none (.ref C')) => decide (n = "staticmethod.__get__") && (decide (p' = p) && decide (C' = C))
  | _ => false
theorem isGs_ok {p C : Addr} {o : Option PySem.W.CFound} (h : isGs p C o = true) : o = some (.get (.builtin "staticmethod.__get__") (.ref p) .none (.ref C)) := by
  unfold isGs at h
  split at h
  · simp only [Bool.and_eq_true, decide_eq_true_eq] at h
    obtain ⟨rfl, rfl, rfl⟩ := h
    rfl
  · cases h
def propB (K : PySem.W.Frag) (C : Addr) (m : Str) : Bool := decide (PySem.W.findIn K (.ref C) m = some (some (.ref (He.ma K C m)))) && (decide (PySem.W.specialIn K (.ref (He.ma K C m)) "__get__" = some (some (.builtin "property.__get__"))) && (decide (PySem.W.takesIn K (.ref (He.ma K C m)) = some true) && isRec (PySem.W.recIn K (He.ma K C m) "property")))
theorem propB_of {K : PySem.W.Frag} {C : Addr} {m : Str} (h : propB K C m = true) : PropOf K C m (He.ma K C m) (prf K C m) := by
  unfold propB at h
  simp only [Bool.and_eq_true, decide_eq_true_eq] at h
  obtain ⟨h1, h2, h3, h4⟩ := h
  refine ⟨h1, h2, h3, ?_⟩
  unfold prf
  unfold isRec at h4
  split at h4
  · next g r e => rw [e]; exact ⟨r, rfl⟩
  · cases h4
def smB (K : PySem.W.Frag) (C : Addr) (m : Str) : Bool := isGs (He.ma K C m) C (PySem.W.findCls K (.ref C) (mcv K C) m) && (isRec (PySem.W.recIn K (He.ma K C m) "staticmethod") && PySem.W.keepIn K (.ref (smf K C m)))
theorem smB_of {K : PySem.W.Frag} {C : Addr} {m : Str} (h : smB K C m = true) : SMet K C (mcv K C) m (He.ma K C m) (smf K C m) := by
  unfold smB at h
  simp only [Bool.and_eq_true] at h
  obtain ⟨h1, h2, h3⟩ := h
  refine ⟨isGs_ok h1, ?_, h3⟩
  unfold smf
  unfold isRec at h2
  split at h2
  · next g r e => rw [e]; exact ⟨r, rfl⟩
  · cases h2
/-- the def of a class method -/
def cmf (K : PySem.W.Frag) (C : Addr) (m : Str) : Addr := match PySem.W.recIn K (He.ma K C m) "classmethod" with
  | some (.ref g :: _) => g
  | _ => 0
def cmB (K : PySem.W.Frag) (C : Addr) (m : Str) : Bool := isG (He.ma K C m) C (PySem.W.findCls K (.ref C) (mcv K C) m) && (isRec (PySem.W.recIn K (He.ma K C m) "classmethod") && PySem.W.fnIn K (cmf K C m))
theorem cmB_of {K : PySem.W.Frag} {C : Addr} {m : Str} (h : cmB K C m = true) : ClX.CMet K C (mcv K C) m (He.ma K C m) (cmf K C m) := by
  unfold cmB at h
  simp only [Bool.and_eq_true] at h
  obtain ⟨h1, h2, h3⟩ := h
  refine ⟨isG_ok h1, ?_, h3⟩
  unfold cmf
  unfold isRec at h2
  split at h2
  · next g r e => rw [e]; exact ⟨r, rfl⟩
  · cases h2
end GL

set_option Elab.async false
set_option linter.all false
set_option maxRecDepth 100000
set_option maxHeartbeats 2000000
namespace GL
open PySem PySem.Spec PyProof.Rows L2
open LamX (TabB OwnTab)
/-! the end of a law's row: tables of code objects, and what is kept wherever nothing is being shown -/
section
variable {P : Program} {w : World} {K : PySem.W.Frag} {mg mb : Str → Option Value} {CX : CXT} {k : Nat} {fa a : Addr} {cs : List (Addr × Addr)} {fd : FuncData} {x : Str} {sp : Sp} {s₁ : Shared} {vs : List Value} {ns : List Int}
abbrev tblO : Obj := { cls := .none, data := .fields #[] }
abbrev scrO (vs : List Value) : Obj := { cls := .type "list", data := .seq vs.toArray }
/-- what is tracked at the beginning: the tables, and the script where it is not written -/
structure Beg (K : PySem.W.Frag) (cs : List (Addr × Addr)) (a : Addr) (H : Hp) : Prop where
  t : ∀ p ∈ cs, H p.2 = some (.tbl #[])
  only : ∀ b u, H b = some u → (∃ p ∈ cs, b = p.2) ∨ (b = a ∧ K.lookup a = none ∧ ∃ ob xs, u = .frz ob (.lst xs))
theorem core_gT (KX : K.In s₁.heap) (hns : s₁.heap.Ns mainGlobals mg) (hb : s₁.heap.Ns builtinsNs mb) (hbb : ∀ x : Str, x ≠ "__name__" → mb x = bootBuiltins x) (hlim : s₁.heap.NoLimit) (hg : s₁.gens = #[])
    (hT : ∀ p ∈ cs, s₁.heap.get? p.2 = some tblO) (nT : ∀ p ∈ cs, K.lookup p.2 = none) (C : ∀ p ∈ cs, PySem.W.CodeHd s₁.heap p.1 p.2)
    (hbm : ∃ (bm : Addr) (ob : Obj), mg "__builtins__" = some (.ref bm) ∧ bm ≠ builtinsNs ∧ s₁.heap.get? bm = some ob ∧ ob.cls = .type "module" ∧ ob.dict = some builtinsNs ∧ ob.data = .plain)
    (ha : s₁.heap.get? a = some (scrO vs)) (hr : Room k callerA) (hsy : SysAt s₁.heap)
    (F : ∀ base : Heap, K.In base → base.Ns mainGlobals mg → SysAt base → (∀ p ∈ cs, TabB base mg p.1 p.2) → FnG P w K mg base CX k fa fd [x] sp) (bd : ∀ (s : Shared) (u : Value), BindsTo s fd ⟨[u], []⟩ [(x, u)])
    (hsp : ∀ H : Hp, (∀ p ∈ cs, H p.2 = some (.tbl #[])) → SqL K H a (ns.map V.int) → sp [.ref a] H (fun v _ => v = .bl true) fun _ _ _ => False)
    (hCX : ∀ H e s', CX [] H s₁ (fun _ _ _ => False) e s' → False)
    (H : Hp) (B : Beg K cs a H) (hS : SqL K H a (ns.map V.int)) (ok : HOk P w H s₁.heap) :
    codeAny (model P w) callerA (.call (.ref fa) ⟨[.ref a], []⟩) (fun r s' => r = .ok (.ret (.bool true)) ∧ OldK s₁.heap s'.heap ∧ s'.os = s₁.os ∧ AllBare s'.gens) s₁ := by
  -- what stands untracked is seen
  have see : ∀ {b : Addr} {o : Obj}, s₁.heap.get? b = some o → (∀ vs n, o.data ≠ .seq vs n) → o.data ≠ .fields #[] → (hidT s₁.heap H).get? b = some o := fun {b o} e n1 n2 => hidT_get e (by
    cases q : H b with
    | none => rfl
    | some u =>
      rcases B.only b u q with ⟨p, hp, rfl⟩ | ⟨rfl, _⟩
      · have z := hT p hp; rw [e] at z; cases z; exact (n2 rfl).elim
      · rw [ha] at e; cases e; exact (n1 _ _ rfl).elim)
  have seeNs : ∀ {b : Addr} {m : Str → Option Value}, s₁.heap.Ns b m → (hidT s₁.heap H).Ns b m := by
    rintro b m ⟨o, es, ep, e, d, r⟩
    exact ⟨o, es, ep, see e (by rw [d]; exact fun _ _ z => nomatch z) (by rw [d]; exact fun z => nomatch z), d, r⟩
  have kin : K.In (hidT s₁.heap H) := fun b o e => hidT_get (KX b o e) (by
    cases q : H b with
    | none => rfl
    | some u =>
      rcases B.only b u q with ⟨p, hp, rfl⟩ | ⟨rfl, z, _⟩
      · rw [nT p hp] at e; cases e
      · rw [z] at e; cases e)
  have TB : ∀ p ∈ cs, TabB (hidT s₁.heap H) mg p.1 p.2 := fun p hp => by
    have tp := hT p hp
    constructor
    · obtain ⟨o, us, file, tf, flags, tg, inF, text, tt, e1, r1, r2, r3, rest⟩ := C p hp
      exact ⟨o, us, file, tf, flags, tg, inF, text, tt, see e1 (by rw [r2]; exact fun _ _ z => nomatch z) (by rw [r2]; intro z; cases z; simp at r3), r1, r2, r3, rest⟩
    · obtain ⟨bm, ob, b1, b2, b3, b4, b5, b6⟩ := hbm
      refine ⟨bm, ob, b1, b2, fun q => ?_, fun q => ?_, see b3 (by rw [b6]; exact fun _ _ z => nomatch z) (by rw [b6]; exact fun z => nomatch z), b4, b5, b6⟩
      · obtain ⟨o, es, ep, e, hd, _⟩ := hns
        rw [q, e] at b3; cases b3; rw [hd] at b6; cases b6
      · rw [q, tp] at b3; cases b3; cases b6
    · intro z
      obtain ⟨o, es, ep, e, hd, _⟩ := hns
      rw [z, tp] at e; cases e; cases hd
  obtain ⟨mc, l1, l2⟩ := hlim
  have e0 : Env0 P w K mg (hidT s₁.heap H) callerA [] s₁ H :=
    { frames := rfl, mod := ⟨kin, seeNs hns, ⟨mb, seeNs hb, hbb⟩, ⟨mc, seeNs l1, l2⟩⟩, bs := fun b o e => of_hidT e, bsz := Nat.le_of_eq (hidT_size _ _), funs := trivial, frf := (fun b z => nomatch z), hok := ok, bare := .of_eq hg }
  have sy : SysAt (hidT s₁.heap H) := hsy.elim fun m h => ⟨m, seeNs h⟩
  have run := (F _ kin (seeNs hns) sy TB).go callerA quiet_caller hr [] s₁ H e0 ⟨[.ref a], []⟩ [.ref a] [.ref a] (bd s₁ (.ref a)) (.cons rfl .nil) _ _ (hsp H B.t hS)
  refine codeAny_mono run fun r s' z => ?_
  cases r with
  | error e => exact (hCX H e s' z).elim
  | ok fl => cases fl with
    | next | brk | cont => exact False.elim z
    | ret u =>
      obtain ⟨v, H', os, bare, un, ok', rv, q⟩ := z
      cases (show v = V.bl true from q)
      cases (show u = Value.bool true from rv)
      -- a table may have grown; all else stands
      have stay : ∀ b o, s₁.heap.get? b = some o → s'.heap.get? b = some o ∨ ∃ p ∈ cs, b = p.2 ∧ o = tblO ∧ ∃ more : Array Value, s'.heap.get? b = some { cls := .none, data := .fields more } := fun b o e => by
        cases q : H b with
        | none => exact .inl (un.keep b o e q (fun z => nomatch z) (fun z => nomatch z))
        | some u =>
          rcases B.only b u q with ⟨p, hp, rfl⟩ | ⟨rfl, _, ob, xs, rfl⟩
          · have tp := hT p hp
            rw [e] at tp
            obtain ⟨more, hm⟩ := un.tbls p.2 #[] (B.t p hp)
            exact .inr ⟨p, hp, rfl, Option.some.inj tp, _, ok' p.2 _ hm⟩
          · have e1 := (ok b _ q).1
            have e2 := (ok' b _ (un.frzs b ob _ q)).1
            rw [e] at e1
            cases e1
            exact .inl e2
      refine ⟨rfl, ⟨fun b o e => ?_, fun b o e => ?_⟩, os, bare⟩
      · rcases stay b o e with h | ⟨p, hp, rfl, rfl, more, h⟩
        · exact .inl h
        · exact .inr (.inl ⟨((C p hp).tab (hT p hp)).isCodeTable, rfl, #[], more, rfl, by rw [Array.empty_append]; exact h⟩)
      · rcases stay b o e with h | ⟨p, hp, rfl, rfl, more, h⟩
        · exact ⟨o, h⟩
        · exact ⟨_, h⟩
open Classical in
/-- the tables alone -/
noncomputable def tabsH (cs : List (Addr × Addr)) : Hp := fun b => if ∃ p ∈ cs, b = p.2 then some (.tbl #[]) else none
theorem tabsH_at {p : Addr × Addr} (h : p ∈ cs) : tabsH cs p.2 = some (.tbl #[]) := if_pos ⟨p, h, rfl⟩
theorem of_tabsH {b : Addr} {u : HO} (h : tabsH cs b = some u) : (∃ p ∈ cs, b = p.2) ∧ u = .tbl #[] := by
  unfold tabsH at h
  by_cases q : ∃ p ∈ cs, b = p.2
  · rw [if_pos q] at h; exact ⟨q, (Option.some.inj h).symm⟩
  · rw [if_neg q] at h; cases h
theorem law_gT (KX : K.In s₁.heap) (hns : s₁.heap.Ns mainGlobals mg) (hb : s₁.heap.Ns builtinsNs mb) (hbb : ∀ x : Str, x ≠ "__name__" → mb x = bootBuiltins x) (hlim : s₁.heap.NoLimit) (hg : s₁.gens = #[])
    (hT : ∀ p ∈ cs, s₁.heap.get? p.2 = some tblO) (nT : ∀ p ∈ cs, K.lookup p.2 = none) (C : ∀ p ∈ cs, PySem.W.CodeHd s₁.heap p.1 p.2)
    (hbm : ∃ (bm : Addr) (ob : Obj), mg "__builtins__" = some (.ref bm) ∧ bm ≠ builtinsNs ∧ s₁.heap.get? bm = some ob ∧ ob.cls = .type "module" ∧ ob.dict = some builtinsNs ∧ ob.data = .plain)
    (ha : s₁.heap.get? a = some (scrO vs)) (hi : IntsAre vs ns) (hl : ns.length ≤ sizeLine) (hr : Room k callerA) (hsy : SysAt s₁.heap)
    (F : ∀ base : Heap, K.In base → base.Ns mainGlobals mg → SysAt base → (∀ p ∈ cs, TabB base mg p.1 p.2) → FnG P w K mg base CX k fa fd [x] sp) (bd : ∀ (s : Shared) (u : Value), BindsTo s fd ⟨[u], []⟩ [(x, u)])
    (hsp : ∀ H : Hp, (∀ p ∈ cs, H p.2 = some (.tbl #[])) → SqL K H a (ns.map V.int) → sp [.ref a] H (fun v _ => v = .bl true) fun _ _ _ => False)
    (hCX : ∀ H e s', CX [] H s₁ (fun _ _ _ => False) e s' → False) :
    codeAny (model P w) callerA (.call (.ref fa) ⟨[.ref a], []⟩) (fun r s' => r = .ok (.ret (.bool true)) ∧ OldK s₁.heap s'.heap ∧ s'.os = s₁.os ∧ AllBare s'.gens) s₁ := by
  have rv := vals_ints hi
  have go := core_gT KX hns hb hbb hlim hg hT nT C hbm ha hr hsy F bd hsp hCX
  have nq : ∀ p ∈ cs, p.2 ≠ a := fun p hp e => by
    have z := hT p hp
    rw [e, ha] at z
    have z := congrArg Obj.data (Option.some.inj z)
    cases z
  cases hk : K.lookup a with
  | some o =>
    have e := KX a o hk
    rw [ha] at e
    cases e
    exact go (tabsH cs) ⟨fun p hp => tabsH_at hp, fun b u z => .inl (of_tabsH z).1⟩ (.inr ⟨_, vs.toArray, _, hk, rfl, rfl, rfl, by rw [List.size_toArray, hi.length]; exact hl, by simpa using rv⟩) fun b u z => by
      obtain ⟨⟨p, hp, rfl⟩, rfl⟩ := of_tabsH z
      exact hT p hp
  | none =>
    refine go (upd (tabsH cs) a (.frz (scrO vs) (.lst (ns.map V.int)))) ⟨fun p hp => by rw [upd_ne (nq p hp)]; exact tabsH_at hp, fun b u z => ?_⟩ (.inl (.inr ⟨scrO vs, upd_same⟩)) fun b u z => ?_
    · by_cases e : b = a
      · subst e; rw [upd_same] at z; exact .inr ⟨rfl, hk, _, _, (Option.some.inj z).symm⟩
      · rw [upd_ne e] at z; exact .inl (of_tabsH z).1
    · by_cases e : b = a
      · subst e
        rw [upd_same] at z
        cases z
        exact ⟨ha, by rw [List.length_map]; exact hl, vs, _, rv, ha⟩
      · rw [upd_ne e] at z
        obtain ⟨⟨p, hp, rfl⟩, rfl⟩ := of_tabsH z
        exact hT p hp
end
/-- what is known of the law's promise at the head's heap -/
structure LawAtG (l : PySem.W.OpenLaw) (w : World) (K : PySem.W.Frag) (CX : CXT) (k n : Nat) (x : Str) (mg : Str → Option Value) (fa : Addr) (h : Heap) where
  fd : FuncData
  cs : List (Addr × Addr)
  sp : Sp
  hT : ∀ p ∈ cs, h.get? p.2 = some tblO
  nT : ∀ p ∈ cs, K.lookup p.2 = none
  C : ∀ p ∈ cs, PySem.W.CodeHd h p.1 p.2
  bd : ∀ (s : Shared) (u : Value), BindsTo s fd ⟨[u], []⟩ [(x, u)]
  hsp : ∀ (H : Hp) (a : Addr) (ns : List Int), ns.length ≤ n → (∀ z ∈ ns, Builtin.Int.intBits z ≤ 1048576) → (∀ p ∈ cs, H p.2 = some (.tbl #[])) → SqL K H a (ns.map V.int) → sp [.ref a] H (fun v _ => v = .bl true) fun _ _ _ => False
  F : ∀ base : Heap, K.In base → base.Ns mainGlobals mg → SysAt base → (∀ p ∈ cs, TabB base mg p.1 p.2) → FnG l.prog w K mg base CX k fa fd [x] sp
/-- the defs of these names, where they stand, have empty tables -/
def OwnTabs (q : Program) (K : PySem.W.Frag) (mg : Str → Option Value) (h : Heap) : Prop := ∀ (nm : Str) (f : Addr), ((PyProof.Rows.recsOf q).any fun e => e.name == nm) = true → mg nm = some (.ref f) → OwnTab K f h
theorem walk_gT {l : PySem.W.OpenLaw} {n k : Nat} {q : Program} {loose : List Str} {XP : (Str → Option Value) → Heap → Prop} {YP : World → Heap → Prop} {d : DefRec} {K : Params → PySem.W.Frag} {CX : World → CXT} {x : Str}
    (hn : l.most = some n) (hn2 : n ≤ sizeLine) (hdf : d.params.defaults = []) (hr : Room k callerA) (hY : ∀ (w : World) (h : Heap), YP w h → (K w.params).In h) (hi : importsNone q = true)
    (F : ∀ (w : World) (mg : Str → Option Value) (fa : Addr) (h : Heap), YP w h → (K w.params).In h → h.Ns mainGlobals mg → mg d.name = some (.ref fa) → OwnTabs q (K w.params) mg h → Nonempty (LawAtG l w (K w.params) (CX w) k n x mg fa h))
    (hCX : ∀ (w : World) (H : Hp) (s : Shared) (e : Value) (s' : Shared), CX w [] H s (fun _ _ _ => False) e s' → False) :
    PySem.W.WalkO q loose XP YP l.row.toRowW d [] (fun f vs => PySem.call f vs) := by
  refine Att.attach_callB hn hdf fun w s₀ s₁ mg mb fa o pm cd doc a vs ns G Y ho hd hcd hmg hobj hints hlen hbits hg => ?_
  have KX := hY w _ Y
  have own : OwnTabs q (K w.params) mg s₁.heap := fun nm f hnm hf c P o1 fd1 e dd vs1 sl k1 k2 k3 k4 k5 => by
    obtain ⟨dL, hm, hn1⟩ := List.any_eq_true.mp hnm
    obtain ⟨a', o', fd', c', P', h1, h2, h3, h4, h5, h6⟩ := G.T.tab dL hm
    rw [beq_iff_eq.mp hn1, hf] at h1
    cases h1
    have g1 := KX _ _ k1
    rw [g1] at h2
    cases h2
    rw [k2] at h3
    cases h3
    rw [k3] at h4
    cases h4
    obtain ⟨⟨oc, vc, e1, _, e3, e4⟩, hP⟩ := h6
    rw [KX _ _ k4] at e1
    cases e1
    cases e3
    rw [k5] at e4
    cases e4
    exact hP
  obtain ⟨L⟩ := F w mg fa _ Y KX G.T.g hmg own
  exact law_gT KX G.T.g G.T.b G.T.builtins G.T.nolimit hg L.hT L.nT L.C G.T.bmain hobj hints (Nat.le_trans hlen hn2) hr ((G.T.seer hi).2.elim fun m h => ⟨m, h.1⟩) L.F L.bd (fun H hH hS => L.hsp H a ns hlen hbits hH hS) fun H e s' => hCX w H s₁ e s'
end GL

set_option Elab.async false
set_option linter.all false
set_option maxRecDepth 100000
set_option maxHeartbeats 4000000
namespace K02
open PySem PySem.Spec PyProof.Rows L2 GL
def aRate (K : PySem.W.Frag) : Addr := He.ga K "Rate"
def aBad (K : PySem.W.Frag) : Addr := He.ga K "BadRate"
def aTxt (K : PySem.W.Frag) : Addr := He.ga K "BadText"
def aPull (K : PySem.W.Frag) : Addr := He.ga K "PullError"
def aTwin (K : PySem.W.Frag) : Addr := He.ga K "Twinned"
def rM (m : Str) (K : PySem.W.Frag) : Addr := He.ma K (aRate K) m
abbrev FT (K : PySem.W.Frag) (f : Addr) (fd : FuncData) : Prop := FunD K "__init__" "Rate.__init__" (defArgs sR_init) (defBody sR_init) (defScope sR_init) [.int 1] [] f fd
theorem kb_full {K : PySem.W.Frag} {f : Addr} {fd : FuncData} (F : FT K f fd) : KBn K fd ["self", "top", "bottom"] 3 [] (fun us _ => us) (fun vs _ => vs) := by
  obtain ⟨its, h⟩ := F.kbindsD (ps := ["self", "top", "bottom"]) 3 [] (fun us _ _ => us) (List.cons_ne_nil _ _) (fun r _ _ => r) fun T kV doc pm an cdv ct us its ws l1 l2 l3 => match us, its, ws, l1, l2, l3 with
    | [_, _, _], [_], [], _, _, _ => ⟨_, rfl, rfl⟩
  exact h
theorem kb_dfl {K : PySem.W.Frag} {f : Addr} {fd : FuncData} (F : FT K f fd) : ∃ its : List Value, KBn K fd ["self", "top", "bottom"] 2 [] (fun us _ => us ++ its) (fun vs _ => vs ++ [.int 1]) := by
  obtain ⟨its, h⟩ := F.kbindsD (ps := ["self", "top", "bottom"]) 2 [] (fun us ds _ => us ++ ds) (List.cons_ne_nil _ _) (fun r d _ => r.append d) fun T kV doc pm an cdv ct us its ws l1 l2 l3 => match us, its, ws, l1, l2, l3 with
    | [_, _], [_], [], _, _, _ => ⟨_, rfl, rfl⟩
  exact ⟨its, h⟩
theorem swp_rel {vs : List V} {us : List Value} {zs : List V} {ws : List Value} (r : Vals vs us) (z : Vals zs ws) : Vals (swp vs zs) (swp us ws) := by
  cases r with
  | nil => exact .nil
  | cons a r =>
    cases r with
    | cons a2 r => exact .cons a (.cons a2 r)
    | nil =>
      cases z with
      | nil => exact .cons a .nil
      | cons b z =>
        cases z with
        | nil => exact .cons a .nil
        | cons c z =>
          cases z with
          | nil => exact .cons a (.cons c (.cons b .nil))
          | cons d z => exact .cons a .nil
theorem kb_kw {K : PySem.W.Frag} {f : Addr} {fd : FuncData} (F : FT K f fd) : ∃ g, KBn K fd ["self", "top", "bottom"] 1 ["bottom", "top"] g swp := by
  obtain ⟨its, h⟩ := F.kbindsD (ps := ["self", "top", "bottom"]) 1 ["bottom", "top"] (fun us _ ws => swp us ws) (List.cons_ne_nil _ _) (fun r _ z => swp_rel r z) fun T kV doc pm an cdv ct us its ws l1 l2 l3 => match us, its, ws, l1, l2, l3 with
    | [_], [_], [_, _], _, _, _ => ⟨_, rfl, rfl⟩
  exact ⟨_, h⟩
def fl2 : List FnA := [⟨gl "copied", "copied", "copied", sCopied⟩,
  ⟨gl "is_integer", "is_integer", "is_integer", s_is_integer⟩,
  ⟨gl "is_fraction", "is_fraction", "is_fraction", s_is_fraction⟩,
  ⟨gl "lead", "lead", "lead", s_lead⟩,
  ⟨gl "terms_of", "terms_of", "terms_of", s_terms_of⟩,
  ⟨gl "digits_of", "digits_of", "digits_of", s_digits_of⟩,
  ⟨gl "number_text", "number_text", "number_text", s_number_text⟩,
  ⟨gl "is_digits", "is_digits", "is_digits", s_is_digits⟩,
  ⟨gl "read_digits", "read_digits", "read_digits", s_read_digits⟩,
  ⟨gl "_law_pen", "_law_pen", "_law_pen", s__law_pen⟩,
  ⟨gl "_law_draw", "_law_draw", "_law_draw", s__law_draw⟩,
  ⟨gl "_law_pick", "_law_pick", "_law_pick", s__law_pick⟩,
  ⟨gl "_law_number", "_law_number", "_law_number", s__law_number⟩,
  ⟨gl "_law_divisor", "_law_divisor", "_law_divisor", s__law_divisor⟩,
  ⟨gl "_law_heard", "_law_heard", "_law_heard", s__law_heard⟩,
  ⟨gl "_law_is_count", "_law_is_count", "_law_is_count", s__law_is_count⟩,
  ⟨gl "_law_is_text", "_law_is_text", "_law_is_text", s__law_is_text⟩,
  ⟨gl "_law_made_right", "_law_made_right", "_law_made_right", s__law_made_right⟩,
  ⟨gl "_law_bent", "_law_bent", "_law_bent", s__law_bent⟩,
  ⟨gl "_law_refused_right", "_law_refused_right", "_law_refused_right", s__law_refused_right⟩,
  ⟨gl "law", "law", "law", s_law⟩,
  ⟨fun K => He.ma K (aRate K) "__eq__", "__eq__", "Rate.__eq__", sR_eq⟩,
  ⟨fun K => He.ma K (aRate K) "__bool__", "__bool__", "Rate.__bool__", sR_bool⟩,
  ⟨fun K => He.ma K (aRate K) "__str__", "__str__", "Rate.__str__", sR_str⟩,
  ⟨fun K => prf K (aRate K) "top", "top", "Rate.top", sR_top⟩,
  ⟨fun K => prf K (aRate K) "bottom", "bottom", "Rate.bottom", sR_bottom⟩,
  ⟨fun K => smf K (aRate K) "of", "of", "Rate.of", sR_of⟩,
  ⟨fun K => cmf K (aRate K) "read", "read", "Rate.read", sR_read⟩,
  ⟨fun K => He.ma K (aBad K) "__init__", "__init__", "BadRate.__init__", sI_BadRate⟩,
  ⟨fun K => He.ma K (aTxt K) "__init__", "__init__", "BadText.__init__", sI_BadText⟩]
def initD : He.DefD := ⟨("Rate", some "__init__"), "__init__", "Rate.__init__", defArgs sR_init, defBody sR_init, defScope sR_init, [.int 1], []⟩
def freeL : List Str := ["isinstance", "int", "bool", "list", "len", "abs", "range", "repr", "tuple", "str", "dict", "all"]
def gloL : List Str := ["copied", "is_integer", "is_fraction", "lead", "terms_of", "digits_of", "number_text", "is_digits", "read_digits", "_law_pen", "_law_draw", "_law_pick", "_law_number", "_law_divisor", "_law_heard", "_law_is_count", "_law_is_text", "_law_made_right", "_law_bent", "_law_refused_right", "law", "Rate", "BadRate", "BadText", "PullError", "Twinned"]
def chkA (K : PySem.W.Frag) : Bool := freeB K freeL && (globB K gloL && (isI 60 (PySem.W.nsIn K mainGlobals "CHUNK") && (isS DIGL (PySem.W.nsIn K mainGlobals "DIGITS") && (decide (PySem.W.nsIn K mainGlobals "gcd" = some (some (.builtin "math.gcd")))))))
def chkB (K : PySem.W.Frag) : Bool := noneB K (aRate K) ["_top", "_bottom"] && (noneB K (aBad K) ["part"] && (noneB K (aTxt K) ["line", "word"] && (incB K (aRate K) && (mkB K (aRate K) && (creadB K (aRate K) && (methB K (aRate K) "__str__" && (methB K (aRate K) "__bool__" && (propB K (aRate K) "top" && (propB K (aRate K) "bottom" && (smB K (aRate K) "of" && (cmB K (aRate K) "read")))))))))))
def chkC (K : PySem.W.Frag) : Bool := omkB K (aBad K) (He.ma K (aBad K) "__init__") && (omkB K (aTxt K) (He.ma K (aTxt K) "__init__") && (getB K (aBad K) && (getB K (aTxt K) && (decide (PySem.W.exmOne K (.ref (aBad K)) (.ref (aPull K)) = some true) && (decide (PySem.W.exmOne K (.ref (aTxt K)) (.ref (aPull K)) = some true) && (decide (PySem.W.kitOne K (.ref (aBad K)) (.ref (aBad K)) = some true) && (decide (PySem.W.kitOne K (.ref (aBad K)) (.ref (aTxt K)) = some false) && (decide (PySem.W.kitOne K (.ref (aTxt K)) (.ref (aTxt K)) = some true) && (decide (PySem.W.kitOne K (.ref (aRate K)) (.ref (aRate K)) = some true) && (decide (PySem.W.kitOne K (.ref (aRate K)) (.type "int") = some false) && (decide (PySem.W.kitOne K (.ref (aRate K)) (.type "str") = some false) && ((kindL.all fun T => decide (PySem.W.kitOne K (.type T) (.ref (aRate K)) = some false)) && (((["NoneType", "bool", "int", "str"] : List String).all fun T => decide (PySem.W.kitOne K (.type T) (.ref (aTwin K)) = some false)))))))))))))))
def chkD (K : PySem.W.Frag) : Bool := ownB K (aRate K) (rM "__eq__" K) && (PySem.W.notFirst K (aRate K) (.ref (aRate K)) && (eqkB K (aRate K) (rM "__eq__" K) && (decide (PySem.W.subIn K (.type "int") (.ref (aRate K)) = some false) && (decide (PySem.W.subIn K (.type "str") (.ref (aRate K)) = some false) && (tabB K (gl "law" K) && (tabB K (gl "_law_refused_right" K) && (decide (tabOf (gl "law" K) K ≠ tabOf (gl "_law_refused_right" K) K) && (decide (PySem.W.nsIn K mainGlobals "law" = some (some (.ref (gl "law" K))))))))))))
theorem law_at {l : PySem.W.OpenLaw} {w : World} {q : Program} {K : PySem.W.Frag} {mg : Str → Option Value} {h : Heap} {fa : Addr} (X : K.In h) (G : h.Ns mainGlobals mg) (hfa : mg "law" = some (.ref fa)) (own : OwnTabs q K mg h) (r1 : ((PyProof.Rows.recsOf q).any fun e => e.name == "law") = true) (r2 : ((PyProof.Rows.recsOf q).any fun e => e.name == "_law_refused_right") = true)
    (cA : chkA K = true) (cB : chkB K = true) (cC : chkC K = true) (cD : chkD K = true) (cl : obsL fl2 K = valL fl2) (ci : He.fnW K initD.at_ = initD.val) (co : initD.ok K = true) : Nonempty (LawAtG l w K C8.CX0 19 63 "_law_script" mg fa h) := by
  unfold chkA at cA
  unfold chkB at cB
  unfold chkC at cC
  unfold chkD at cD
  simp only [Bool.and_eq_true, decide_eq_true_eq] at cA cB cC cD
  obtain ⟨a1, a2, a3, a4, a5⟩ := cA
  obtain ⟨b1, b2, b3, b4, b5, b6, b7, b8, b9, b10, b11, b12⟩ := cB
  obtain ⟨c1, c2, c3, c4, c5, c6, c7, c8, c9, c10, c11, c12, c13, c14⟩ := cC
  obtain ⟨d1, d2, d3, d4, d5, d6, d7, d8, d9⟩ := cD
  have e0 : mg "law" = some (.ref (gl "law" K)) := PySem.W.mg_of X G d9
  obtain rfl : fa = gl "law" K := by rw [hfa] at e0; cases e0; rfl
  have fr := freeB_of X G a1
  have gg := globB_of X G a2
  obtain ⟨tC, a3⟩ := isI_ok a3
  obtain ⟨tD, a4⟩ := isS_ok a4
  have na := noneB_of b1
  have nB : PySem.W.findIn K (.ref (aBad K)) "part" = some none := noneB_of b2 _ (by decide)
  have nL : PySem.W.findIn K (.ref (aTxt K)) "line" = some none := noneB_of b3 _ (by decide)
  have nW : PySem.W.findIn K (.ref (aTxt K)) "word" = some none := noneB_of b3 _ (by decide)
  have J := incB_of b4
  have M : Mk K (aRate K) (rM "__init__" K) := mkB_of b5
  have RD := creadB_of b6
  have mS : Meth K (aRate K) "__str__" (rM "__str__" K) := methB_of b7
  have mB : Meth K (aRate K) "__bool__" (rM "__bool__" K) := methB_of b8
  have OB : OMk K (aBad K) (He.ma K (aBad K) "__init__") := omkB_of c1
  have OX : OMk K (aTxt K) (He.ma K (aTxt K) "__init__") := omkB_of c2
  have O : OwnF K (aRate K) (rM "__eq__" K) := ownB_of d1
  have EQ : EqK K (aRate K) (rM "__eq__" K) := eqkB_of d3 O.fn
  have kb : ∀ t ∈ kindL, PySem.W.kitOne K (.type t) (.ref (aRate K)) = some false := fun t ht => of_decide_eq_true (List.all_eq_true.mp c13 t ht)
  have F_copied : Fun K "copied" "copied" sCopied (gl "copied" K) (fdAt K (gl "copied" K)) := funL cl 0 (d := ⟨_, _, _, _⟩) rfl
  have b_copied : Binds K (fdAt K (gl "copied" K)) ["value"] [] := F_copied.binds fun _ _ _ _ _ _ us hl => match us, hl with | [_], _ => rfl
  have F_is_integer : Fun K "is_integer" "is_integer" s_is_integer (gl "is_integer" K) (fdAt K (gl "is_integer" K)) := funL cl 1 (d := ⟨_, _, _, _⟩) rfl
  have b_is_integer : Binds K (fdAt K (gl "is_integer" K)) ["value"] [] := F_is_integer.binds fun _ _ _ _ _ _ us hl => match us, hl with | [_], _ => rfl
  have F_is_fraction : Fun K "is_fraction" "is_fraction" s_is_fraction (gl "is_fraction" K) (fdAt K (gl "is_fraction" K)) := funL cl 2 (d := ⟨_, _, _, _⟩) rfl
  have b_is_fraction : Binds K (fdAt K (gl "is_fraction" K)) ["value"] [] := F_is_fraction.binds fun _ _ _ _ _ _ us hl => match us, hl with | [_], _ => rfl
  have F_lead : Fun K "lead" "lead" s_lead (gl "lead" K) (fdAt K (gl "lead" K)) := funL cl 3 (d := ⟨_, _, _, _⟩) rfl
  have b_lead : Binds K (fdAt K (gl "lead" K)) ["one", "other"] [] := F_lead.binds fun _ _ _ _ _ _ us hl => match us, hl with | [_, _], _ => rfl
  have F_terms_of : Fun K "terms_of" "terms_of" s_terms_of (gl "terms_of" K) (fdAt K (gl "terms_of" K)) := funL cl 4 (d := ⟨_, _, _, _⟩) rfl
  have b_terms_of : Binds K (fdAt K (gl "terms_of" K)) ["text"] [] := F_terms_of.binds fun _ _ _ _ _ _ us hl => match us, hl with | [_], _ => rfl
  have F_digits_of : Fun K "digits_of" "digits_of" s_digits_of (gl "digits_of" K) (fdAt K (gl "digits_of" K)) := funL cl 5 (d := ⟨_, _, _, _⟩) rfl
  have b_digits_of : Binds K (fdAt K (gl "digits_of" K)) ["number"] [] := F_digits_of.binds fun _ _ _ _ _ _ us hl => match us, hl with | [_], _ => rfl
  have F_number_text : Fun K "number_text" "number_text" s_number_text (gl "number_text" K) (fdAt K (gl "number_text" K)) := funL cl 6 (d := ⟨_, _, _, _⟩) rfl
  have b_number_text : Binds K (fdAt K (gl "number_text" K)) ["number"] [] := F_number_text.binds fun _ _ _ _ _ _ us hl => match us, hl with | [_], _ => rfl
  have F_is_digits : Fun K "is_digits" "is_digits" s_is_digits (gl "is_digits" K) (fdAt K (gl "is_digits" K)) := funL cl 7 (d := ⟨_, _, _, _⟩) rfl
  have b_is_digits : Binds K (fdAt K (gl "is_digits" K)) ["text"] [] := F_is_digits.binds fun _ _ _ _ _ _ us hl => match us, hl with | [_], _ => rfl
  have F_read_digits : Fun K "read_digits" "read_digits" s_read_digits (gl "read_digits" K) (fdAt K (gl "read_digits" K)) := funL cl 8 (d := ⟨_, _, _, _⟩) rfl
  have b_read_digits : Binds K (fdAt K (gl "read_digits" K)) ["text"] [] := F_read_digits.binds fun _ _ _ _ _ _ us hl => match us, hl with | [_], _ => rfl
  have F_law_pen : Fun K "_law_pen" "_law_pen" s__law_pen (gl "_law_pen" K) (fdAt K (gl "_law_pen" K)) := funL cl 9 (d := ⟨_, _, _, _⟩) rfl
  have b_law_pen : Binds K (fdAt K (gl "_law_pen" K)) ["_law_script"] [] := F_law_pen.binds fun _ _ _ _ _ _ us hl => match us, hl with | [_], _ => rfl
  have F_law_draw : Fun K "_law_draw" "_law_draw" s__law_draw (gl "_law_draw" K) (fdAt K (gl "_law_draw" K)) := funL cl 10 (d := ⟨_, _, _, _⟩) rfl
  have b_law_draw : Binds K (fdAt K (gl "_law_draw" K)) ["_law_pen_here", "_law_many"] [] := F_law_draw.binds fun _ _ _ _ _ _ us hl => match us, hl with | [_, _], _ => rfl
  have F_law_pick : Fun K "_law_pick" "_law_pick" s__law_pick (gl "_law_pick" K) (fdAt K (gl "_law_pick" K)) := funL cl 11 (d := ⟨_, _, _, _⟩) rfl
  have b_law_pick : Binds K (fdAt K (gl "_law_pick" K)) ["_law_pen_here", "_law_some"] [] := F_law_pick.binds fun _ _ _ _ _ _ us hl => match us, hl with | [_, _], _ => rfl
  have F_law_number : Fun K "_law_number" "_law_number" s__law_number (gl "_law_number" K) (fdAt K (gl "_law_number" K)) := funL cl 12 (d := ⟨_, _, _, _⟩) rfl
  have b_law_number : Binds K (fdAt K (gl "_law_number" K)) ["_law_pen_here"] [] := F_law_number.binds fun _ _ _ _ _ _ us hl => match us, hl with | [_], _ => rfl
  have F_law_divisor : Fun K "_law_divisor" "_law_divisor" s__law_divisor (gl "_law_divisor" K) (fdAt K (gl "_law_divisor" K)) := funL cl 13 (d := ⟨_, _, _, _⟩) rfl
  have b_law_divisor : Binds K (fdAt K (gl "_law_divisor" K)) ["_law_one", "_law_other"] [] := F_law_divisor.binds fun _ _ _ _ _ _ us hl => match us, hl with | [_, _], _ => rfl
  have F_law_heard : Fun K "_law_heard" "_law_heard" s__law_heard (gl "_law_heard" K) (fdAt K (gl "_law_heard" K)) := funL cl 14 (d := ⟨_, _, _, _⟩) rfl
  have b_law_heard : Binds K (fdAt K (gl "_law_heard" K)) ["_law_ask"] [] := F_law_heard.binds fun _ _ _ _ _ _ us hl => match us, hl with | [_], _ => rfl
  have F_law_is_count : Fun K "_law_is_count" "_law_is_count" s__law_is_count (gl "_law_is_count" K) (fdAt K (gl "_law_is_count" K)) := funL cl 15 (d := ⟨_, _, _, _⟩) rfl
  have b_law_is_count : Binds K (fdAt K (gl "_law_is_count" K)) ["_law_word"] [] := F_law_is_count.binds fun _ _ _ _ _ _ us hl => match us, hl with | [_], _ => rfl
  have F_law_is_text : Fun K "_law_is_text" "_law_is_text" s__law_is_text (gl "_law_is_text" K) (fdAt K (gl "_law_is_text" K)) := funL cl 16 (d := ⟨_, _, _, _⟩) rfl
  have b_law_is_text : Binds K (fdAt K (gl "_law_is_text" K)) ["_law_line"] [] := F_law_is_text.binds fun _ _ _ _ _ _ us hl => match us, hl with | [_], _ => rfl
  have F_law_made_right : Fun K "_law_made_right" "_law_made_right" s__law_made_right (gl "_law_made_right" K) (fdAt K (gl "_law_made_right" K)) := funL cl 17 (d := ⟨_, _, _, _⟩) rfl
  have b_law_made_right : Binds K (fdAt K (gl "_law_made_right" K)) ["_law_pen_here"] [] := F_law_made_right.binds fun _ _ _ _ _ _ us hl => match us, hl with | [_], _ => rfl
  have F_law_bent : Fun K "_law_bent" "_law_bent" s__law_bent (gl "_law_bent" K) (fdAt K (gl "_law_bent" K)) := funL cl 18 (d := ⟨_, _, _, _⟩) rfl
  have b_law_bent : Binds K (fdAt K (gl "_law_bent" K)) ["_law_pen_here", "_law_line"] [] := F_law_bent.binds fun _ _ _ _ _ _ us hl => match us, hl with | [_, _], _ => rfl
  have F_law_refused_right : Fun K "_law_refused_right" "_law_refused_right" s__law_refused_right (gl "_law_refused_right" K) (fdAt K (gl "_law_refused_right" K)) := funL cl 19 (d := ⟨_, _, _, _⟩) rfl
  have b_law_refused_right : Binds K (fdAt K (gl "_law_refused_right" K)) ["_law_pen_here"] [] := F_law_refused_right.binds fun _ _ _ _ _ _ us hl => match us, hl with | [_], _ => rfl
  have F_law : Fun K "law" "law" s_law (gl "law" K) (fdAt K (gl "law" K)) := funL cl 20 (d := ⟨_, _, _, _⟩) rfl
  have b_law : Binds K (fdAt K (gl "law" K)) ["_law_script"] [] := F_law.binds fun _ _ _ _ _ _ us hl => match us, hl with | [_], _ => rfl
  have F_m_eq : Fun K "__eq__" "Rate.__eq__" sR_eq (He.ma K (aRate K) "__eq__") (fdAt K (He.ma K (aRate K) "__eq__")) := funL cl 21 (d := ⟨_, _, _, _⟩) rfl
  have b_m_eq : Binds K (fdAt K (He.ma K (aRate K) "__eq__")) ["self", "other"] [] := F_m_eq.binds fun _ _ _ _ _ _ us hl => match us, hl with | [_, _], _ => rfl
  have F_m_bool : Fun K "__bool__" "Rate.__bool__" sR_bool (He.ma K (aRate K) "__bool__") (fdAt K (He.ma K (aRate K) "__bool__")) := funL cl 22 (d := ⟨_, _, _, _⟩) rfl
  have b_m_bool : Binds K (fdAt K (He.ma K (aRate K) "__bool__")) ["self"] [] := F_m_bool.binds fun _ _ _ _ _ _ us hl => match us, hl with | [_], _ => rfl
  have F_m_str : Fun K "__str__" "Rate.__str__" sR_str (He.ma K (aRate K) "__str__") (fdAt K (He.ma K (aRate K) "__str__")) := funL cl 23 (d := ⟨_, _, _, _⟩) rfl
  have b_m_str : Binds K (fdAt K (He.ma K (aRate K) "__str__")) ["self"] [] := F_m_str.binds fun _ _ _ _ _ _ us hl => match us, hl with | [_], _ => rfl
  have F_m_top : Fun K "top" "Rate.top" sR_top (prf K (aRate K) "top") (fdAt K (prf K (aRate K) "top")) := funL cl 24 (d := ⟨_, _, _, _⟩) rfl
  have b_m_top : Binds K (fdAt K (prf K (aRate K) "top")) ["self"] [] := F_m_top.binds fun _ _ _ _ _ _ us hl => match us, hl with | [_], _ => rfl
  have F_m_bottom : Fun K "bottom" "Rate.bottom" sR_bottom (prf K (aRate K) "bottom") (fdAt K (prf K (aRate K) "bottom")) := funL cl 25 (d := ⟨_, _, _, _⟩) rfl
  have b_m_bottom : Binds K (fdAt K (prf K (aRate K) "bottom")) ["self"] [] := F_m_bottom.binds fun _ _ _ _ _ _ us hl => match us, hl with | [_], _ => rfl
  have F_m_of : Fun K "of" "Rate.of" sR_of (smf K (aRate K) "of") (fdAt K (smf K (aRate K) "of")) := funL cl 26 (d := ⟨_, _, _, _⟩) rfl
  have b_m_of : Binds K (fdAt K (smf K (aRate K) "of")) ["value"] [] := F_m_of.binds fun _ _ _ _ _ _ us hl => match us, hl with | [_], _ => rfl
  have F_m_read : Fun K "read" "Rate.read" sR_read (cmf K (aRate K) "read") (fdAt K (cmf K (aRate K) "read")) := funL cl 27 (d := ⟨_, _, _, _⟩) rfl
  have b_m_read : Binds K (fdAt K (cmf K (aRate K) "read")) ["cls", "text"] [] := F_m_read.binds fun _ _ _ _ _ _ us hl => match us, hl with | [_, _], _ => rfl
  have F_m_bad : Fun K "__init__" "BadRate.__init__" sI_BadRate (He.ma K (aBad K) "__init__") (fdAt K (He.ma K (aBad K) "__init__")) := funL cl 28 (d := ⟨_, _, _, _⟩) rfl
  have b_m_bad : Binds K (fdAt K (He.ma K (aBad K) "__init__")) ["self", "part"] [] := F_m_bad.binds fun _ _ _ _ _ _ us hl => match us, hl with | [_, _], _ => rfl
  have F_m_txt : Fun K "__init__" "BadText.__init__" sI_BadText (He.ma K (aTxt K) "__init__") (fdAt K (He.ma K (aTxt K) "__init__")) := funL cl 29 (d := ⟨_, _, _, _⟩) rfl
  have b_m_txt : Binds K (fdAt K (He.ma K (aTxt K) "__init__")) ["self", "line", "word"] [] := F_m_txt.binds fun _ _ _ _ _ _ us hl => match us, hl with | [_, _, _], _ => rfl
  obtain ⟨fdI, FI⟩ := He.DefD.funD ci co
  have FI : FT K (rM "__init__" K) fdI := FI
  obtain ⟨its, kD⟩ := kb_dfl FI
  obtain ⟨gK, kK⟩ := kb_kw FI
  have TCc : TC K mg (gl "copied" K) := ⟨⟨aTwin K, gg "Twinned" (by decide), c14⟩, fr _ (by decide), fr _ (by decide), fr _ (by decide), fr _ (by decide), gg _ (by decide)⟩
  have kO : KBn K (fdAt K (smf K (aRate K) "of")) ["value"] 0 ["value"] (fun _ ws => ws) (fun _ zs => zs) := kb_of F_m_of (fun _ _ _ _ _ _ us ws hl hw => match us, hl, ws, hw with | [], _, [_], _ => rfl) (fun _ z => z)
  have kR : KBn K (fdAt K (cmf K (aRate K) "read")) ["cls", "text"] 1 ["text"] (fun us ws => us ++ ws) (fun vs zs => vs ++ zs) := kb_of F_m_read (fun _ _ _ _ _ _ us ws hl hw => match us, hl, ws, hw with | [_], _, [_], _ => rfl) (fun r z => r.append z)
  have EE : Errs K (aPull K) (aBad K) (aTxt K) := ⟨c5, getB_of c3, nB, c7, c8, c6, getB_of c4, nL, nW, c9⟩
  have FL := funC_of F_law d6
  have FR := funC_of F_law_refused_right d7
  let TT2 : List (Addr × Str) := [(tabOf (gl "law" K) K, lawQ ++ "<lambda>"), (tabOf (gl "_law_refused_right" K) K, refQ ++ "<lambda>")]
  refine ⟨⟨fdAt K (gl "law" K), [(codeOf (gl "law" K) K, tabOf (gl "law" K) K), (codeOf (gl "_law_refused_right" K) K, tabOf (gl "_law_refused_right" K) K)], spLaw TT2 K, fun p hp => ?_, fun p hp => ?_, fun p hp => ?_, fun s u => ?_, fun H a ns hl hb ht hs => ?_, fun base KB GB SB TBt => ?_⟩⟩
  · simp only [List.mem_cons, List.not_mem_nil, or_false] at hp
    rcases hp with rfl | rfl
    · exact tab_own F_law (own "law" _ r1 (gg _ (by decide))) d6
    · exact tab_own F_law_refused_right (own "_law_refused_right" _ r2 (gg _ (by decide))) d7
  · simp only [List.mem_cons, List.not_mem_nil, or_false] at hp
    rcases hp with rfl | rfl
    · exact tab_none d6
    · exact tab_none d7
  · simp only [List.mem_cons, List.not_mem_nil, or_false] at hp
    rcases hp with rfl | rfl
    · exact tab_code X d6
    · exact tab_code X d7
  · obtain ⟨oc, od, kV, doc, pm, an, cdv, ct, osl, e, lk, hc⟩ := F_law.ex
    rw [e]
    exact .of_eq rfl
  · refine ⟨a, ns, rfl, hs, hl, fun p hp => ?_, fun _ => rfl⟩
    simp only [TT2, List.mem_cons, List.not_mem_nil, or_false] at hp
    rcases hp with rfl | rfl
    · exact LamX.TabS.nil (ht (codeOf (gl "law" K) K, tabOf (gl "law" K) K) (List.mem_cons_self ..))
    · exact LamX.TabS.nil (ht (codeOf (gl "_law_refused_right" K) K, tabOf (gl "_law_refused_right" K) K) (List.mem_cons_of_mem _ (List.mem_cons_self ..)))
  · have TB1 := TBt (codeOf (gl "law" K) K, tabOf (gl "law" K) K) (List.mem_cons_self ..)
    have TB2 := TBt (codeOf (gl "_law_refused_right" K) K, tabOf (gl "_law_refused_right" K) K) (List.mem_cons_of_mem _ (List.mem_cons_self ..))
    have tx : TX l.prog w K mg base := ⟨fr _ (by decide), fr _ (by decide), fr _ (by decide), fr _ (by decide), fr _ (by decide), ⟨tD, PySem.W.mg_of X G a4⟩, ⟨tC, PySem.W.mg_of X G a3⟩⟩
    have tr : TR l.prog w K mg base (aRate K) := ⟨fr _ (by decide), fr _ (by decide), fr _ (by decide), fr _ (by decide), fr _ (by decide), fr _ (by decide), fr _ (by decide), fr _ (by decide), fr _ (by decide), fr _ (by decide), gg "Rate" (by decide), PySem.W.mg_of X G a5, J.cl, J, c10, kb, c11, c12, na _ (by decide), na _ (by decide)⟩
    have GBr := ok_BadRate (P := l.prog) (w := w) (mg := mg) (base := base) F_m_bad TCc F_copied b_copied OB.o nB
    have GTx := ok_BadText (P := l.prog) (w := w) (mg := mg) (base := base) F_m_txt TCc F_copied b_copied OX.o nL nW
    have k_int : CalO l.prog w K mg base 1 "is_integer" ["value"] (Pr K 1 (Rint (aRate K))) := ⟨_, _, ok_is_integer F_is_integer tr, gg _ (by decide), F_is_integer.kp, b_is_integer⟩
    have k_frac : CalO l.prog w K mg base 2 "is_fraction" ["value"] (Pr K 1 (Rfr (aRate K))) := ⟨_, _, ok_is_fraction F_is_fraction tr k_int, gg _ (by decide), F_is_fraction.kp, b_is_fraction⟩
    have k_dig : CalO l.prog w K mg base 1 "digits_of" ["number"] (Pr K 1 Rdig) := ⟨_, _, ok_digits_of F_digits_of tx, gg _ (by decide), F_digits_of.kp, b_digits_of⟩
    have k_txt : CalO l.prog w K mg base 2 "number_text" ["number"] (Pr K 1 Rnum) := ⟨_, _, ok_number_text F_number_text k_dig, gg _ (by decide), F_number_text.kp, b_number_text⟩
    have k_isd : CalO l.prog w K mg base 1 "is_digits" ["text"] (Pr K 1 Rdgs) := ⟨_, _, ok_is_digits F_is_digits tx, gg _ (by decide), F_is_digits.kp, b_is_digits⟩
    have k_rdd : CalO l.prog w K mg base 1 "read_digits" ["text"] (Pr K 1 Rrdd) := ⟨_, _, ok_read_digits F_read_digits tx, gg _ (by decide), F_read_digits.kp, b_read_digits⟩
    have k_terms : CalO l.prog w K mg base 2 "terms_of" ["text"] (Pr K 1 (Rterms (aRate K))) := ⟨_, _, ok_terms_of F_terms_of tr k_isd k_rdd, gg _ (by decide), F_terms_of.kp, b_terms_of⟩
    have GI := ok_init FI tr k_int OB GBr b_m_bad (gg "BadRate" (by decide))
    have ts : TS l.prog w K mg base (aRate K) (aBad K) := { tr with ci := k_int, cf := k_frac, p_top := ⟨_, _, _, propB_of b9, ok_top F_m_top tr, b_m_top⟩, p_bottom := ⟨_, _, _, propB_of b10, ok_bottom F_m_bottom tr, b_m_bottom⟩, mk1 := ⟨_, _, _, _, M, GI, kD⟩, mk2 := ⟨_, _, _, _, M, GI, kb_full FI⟩, m_BadRate := gg "BadRate" (by decide), eR := ⟨_, _, OB, GBr, b_m_bad⟩ }
    have ts2 : TS2 l.prog w K mg base (aRate K) (aBad K) := { ts with s_of := ⟨_, _, _, _, RD, smB_of b11, ok_of F_m_of ts, b_m_of, kO⟩ }
    have ts3 : TS3 l.prog w K mg base (aRate K) (aBad K) (aTxt K) := { ts2 with GS := ⟨_, _, ok_str F_m_str ts k_txt, mS.at_, mS.fn, b_m_str⟩, m_BadText := gg "BadText" (by decide), eT := ⟨_, _, OX, GTx, b_m_txt⟩ }
    have k_lead : CalO l.prog w K mg base 10 "lead" ["one", "other"] (Pr K 2 (Rlead (aRate K))) := ⟨_, _, ok_lead F_lead ts2, gg _ (by decide), F_lead.kp, b_lead⟩
    have k_pen : CalO l.prog w K mg base 1 "_law_pen" ["_law_script"] (spPen K) := ⟨_, _, ok_law_pen F_law_pen tr, gg _ (by decide), F_law_pen.kp, b_law_pen⟩
    have k_draw : CalO l.prog w K mg base 1 "_law_draw" ["_law_pen_here", "_law_many"] (spDraw 9223372036854775808) := ⟨_, _, ok_law_draw F_law_draw tr, gg _ (by decide), F_law_draw.kp, b_law_draw⟩
    have k_less := draw_less (b := 1073741824) (by decide) k_draw
    have k_pick : CalO l.prog w K mg base 2 "_law_pick" ["_law_pen_here", "_law_some"] (spPick K) := ⟨_, _, ok_law_pick F_law_pick tr k_less, gg _ (by decide), F_law_pick.kp, b_law_pick⟩
    have k_number : CalO l.prog w K mg base 3 "_law_number" ["_law_pen_here"] (spNum K) := ⟨_, _, ok_number F_law_number tr k_draw k_pick, gg _ (by decide), F_law_number.kp, b_law_number⟩
    have k_div : CalO l.prog w K mg base 1 "_law_divisor" ["_law_one", "_law_other"] (Pr K 2 Rgcd) := ⟨_, _, ok_divisor F_law_divisor tr, gg _ (by decide), F_law_divisor.kp, b_law_divisor⟩
    have k_isc : CalO l.prog w K mg base 1 "_law_is_count" ["_law_word"] (Pr K 1 Rct) := ⟨_, _, ok_is_count F_law_is_count tr, gg _ (by decide), F_law_is_count.kp, b_law_is_count⟩
    have k_ist : CalO l.prog w K mg base 2 "_law_is_text" ["_law_line"] (Pr K 1 Rtx) := ⟨_, _, ok_is_text F_law_is_text tr k_isc k_div, gg _ (by decide), F_law_is_text.kp, b_law_is_text⟩
    have GE := ok_eq F_m_eq ts2 k_lead
    have tl : TLw l.prog w K mg base (aRate K) (aBad K) (aTxt K) := { ts3 with sys := SB, GE := ⟨_, _, GE, EQ, O, d2, b_m_eq⟩, GB := ⟨_, _, ok_bool F_m_bool ts, mB.at_, mB.fn, b_m_bool⟩, c_read := ⟨_, _, _, _, RD, cmB_of b12, ok_read F_m_read ts3 k_terms, b_m_read, kR⟩, si := d4, c_number := k_number, c_divisor := k_div, c_draw := k_less, c_pick := k_pick }
    have Z : TH mg K (aPull K) (aBad K) (aTxt K) := ⟨gg "PullError" (by decide), gg "BadRate" (by decide), gg "BadText" (by decide), fr _ (by decide), EE, ⟨_, _, gg _ (by decide), F_law_heard, b_law_heard⟩⟩
    have tf : TRf l.prog w K mg base (aRate K) (aBad K) (aTxt K) (aPull K) := { tl with mkK := ⟨_, _, _, _, M, GI, kK⟩, ss := d5, Z := Z }
    have k_made : CalG l.prog w K mg base 14 "_law_made_right" ["_law_pen_here"] (spMade K) := ⟨_, _, ok_made F_law_made_right tl, gg _ (by decide), F_law_made_right.kp, b_law_made_right⟩
    have k_bent : CalO l.prog w K mg base 3 "_law_bent" ["_law_pen_here", "_law_line"] (spBent K) := ⟨_, _, ok_bent F_law_bent tl, gg _ (by decide), F_law_bent.kp, b_law_bent⟩
    have k_ref : CalG l.prog w K mg base 17 "_law_refused_right" ["_law_pen_here"] (spRef K TT2) := ⟨_, _, ok_ref FR tf TB2 (List.mem_cons_of_mem _ (List.mem_cons_self ..)) (fun p hp e => by
        simp only [TT2, List.mem_cons, List.not_mem_nil, or_false] at hp
        rcases hp with rfl | rfl
        · exact (d8 e).elim
        · rfl), gg _ (by decide), F_law_refused_right.kp, b_law_refused_right⟩
    exact ok_law FL tf TB1 (List.mem_cons_self ..) (fun p hp e => by
        simp only [TT2, List.mem_cons, List.not_mem_nil, or_false] at hp
        rcases hp with rfl | rfl
        · rfl
        · exact (d8 e.symm).elim) k_pen k_made k_ref k_bent k_ist
def chk2 (K : PySem.W.Frag) : Bool := chkA K && (chkB K && (chkC K && (chkD K && initD.ok K)))
theorem end_k02 {l : PySem.W.OpenLaw} {q : Program} {loose : List Str} {XP : (Str → Option Value) → Heap → Prop} {YP : World → Heap → Prop} {d : DefRec} {K : Params → PySem.W.Frag}
    (hn : l.most = some 63) (hdf : d.params.defaults = []) (hd : d.name = "law") (r1 : ((PyProof.Rows.recsOf q).any fun e => e.name == "law") = true) (r2 : ((PyProof.Rows.recsOf q).any fun e => e.name == "_law_refused_right") = true) (hi : importsNone q = true) (hY : ∀ (w : World) (h : Heap), YP w h → (K w.params).In h) (c1 : ∀ w : World, chk2 (K w.params) = true) (c2 : ∀ w : World, obsL fl2 (K w.params) = valL fl2) (c3 : ∀ w : World, He.fnW (K w.params) initD.at_ = initD.val) :
    PySem.W.WalkO q loose XP YP l.row.toRowW d [] (fun f vs => PySem.call f vs) :=
  GL.walk_gT (n := 63) (k := 19) (x := "_law_script") (K := K) (CX := fun _ => C8.CX0) hn (by decide) hdf ⟨rfl, by decide, by decide⟩ hY hi
    (fun w mg fa h Y X G hmg own => by
      have c := c1 w
      unfold chk2 at c
      simp only [Bool.and_eq_true] at c
      obtain ⟨h1, h2, h3, h4, h5⟩ := c
      exact law_at X G (by rw [hd] at hmg; exact hmg) own r1 r2 h1 h2 h3 h4 (c2 w) (c3 w) h5) (fun _ _ _ _ _ z => z)
end K02

open PySem PySem.W PyProof.Rows
set_option maxRecDepth 100000 in
set_option maxHeartbeats 0 in
theorem PySem.Challenge.cw_emptypulls_k02_rates_made_and_written_holds : PySem.Challenge.rw_emptypulls_k02_rates_made_and_written.Holds := by
  w_on; o_law; k_head; (case hw => w_witness2)
  k_fill
  exact K02.end_k02 rfl rfl rfl (by rfl) (by rfl) (by rfl) (fun w h Y => PySem.W.km_in_of Y) (fun w => by kernel_rfl) (fun w => by kernel_rfl) (fun w => by kernel_rfl)
