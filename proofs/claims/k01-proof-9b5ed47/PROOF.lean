import PyProof.Rows.All
import Wide.All
import OpenK.AllK
import Wide.FinOn
import PyProof.EqAt
import PyProof.EqKinds
import PyProof.TupleCall
import HandS.ForExc
import HandS.ExcInit
import HandS.Defaults
import HandS.ForMost
import HandS.WordsExc
import KE.KExcIs
import HandS.IsInst
import HandS.ExcValue
import PyProof.ReprRoads
import HandS.Evl
import HandS.DictComp
import HandS.Style
import HandS.Exc
import HandS.Codes
import HandS.FStr
import HandS.Steps
import PyProof.Rows.StrSplitJoin
import PyProof.Rows.StrItems
import HandS.ClsMeth
import HandS.MakeKw
import HandS.OwnEq
import KE.KCallOwn
import PyProof.InstNe
import PyProof.Rows.StrMul
import HandS.HeadHook1
import PySem.Challenge.RW_emptypulls_k01_errors_and_their_fields
set_option Elab.async false
set_option linter.all false
set_option maxRecDepth 100000
set_option maxHeartbeats 4000000
namespace PySem
namespace OEXK
open PySem.W PySem.Calls PyProof.Rows PySem.HandSPX
section
variable {M : Model} {A : Around} {E : Value → Shared → Prop} {h : Heap} {g : Array GenState} {d : Drawn} {t : Nat} {os : OsState}
variable {nm q : Str} {C N : Addr} {bs bm bmB : List Value} {hdct : Bool} {sn : List Str} {sub : List Value} {ab : Bool} {col : Option Bool} {dd : Option Addr} {k0 k1 k2 k3 k5 : Option Value} {B newId initId : String}
theorem check_new_kw (F : ExcBaseFacts B newId initId bmB) (hT : ∀ X : String, bm.contains (.type X) = bmB.contains (.type X)) {rest : List Value} {kw : List (Str × Value)} {Q : Unit → Shared → Prop}
    (hC : h.get? C = some (excClassObj nm q C N bs bm hdct sn sub ab col dd k0 k1 k2 k3 k5 newId)) (hq : Q () ⟨h, g, d, t, os⟩) : wpAny M A (checkBuiltinCall newId ⟨.ref C :: rest, kw⟩) Q E ⟨h, g, d, t, os⟩ := by
  have hcont : (Value.ref C :: bm).contains (.type B) = true := by rw [List.contains_cons, hT, F.hasB, Bool.or_true]
  have hstar := F.noStar
  simp only [checkBuiltinCall, F.newKind, F.newSplit, F.newRow]
  repeat (first | refine wpAny_loadPart_at hC ?_ | (refine wpAny_isSubtype_exc hC ?_; rw [hcont]) | refine wpAny_staticBase_exc hC ?_ | refine wpAny_madeBy_exc hC ?_ | simp only [bne_self_eq_false, Bool.false_eq_true, if_false] | wp_step)
  exact hq
end
section
variable {prog : Program} {w : World} {A : Around} {E : Value → Shared → Prop} {R : Result → Shared → Prop} {h : Heap} {g : Array GenState} {d : Drawn} {t : Nat} {os : OsState}
variable {nm q : Str} {C N : Addr} {bs bm bmB : List Value} {hdct : Bool} {sn : List Str} {sub : List Value} {ab : Bool} {col : Option Bool} {dd : Option Addr} {k0 k1 k2 k3 k5 : Option Value} {B newId initId : String}
theorem new_kw (F : ExcBaseFacts B newId initId bmB) (hT : ∀ X : String, bm.contains (.type X) = bmB.contains (.type X)) {rest : List Value} {kw : List (Str × Value)}
    (hC : h.get? C = some (excClassObj nm q C N bs bm hdct sn sub ab col dd k0 k1 k2 k3 k5 newId))
    (hq : R (.ok (.ret (.ref (h.objs.size + 1)))) ⟨(h.push { cls := .type "tuple", data := .seq rest.toArray }).push
      { cls := .ref C, data := .fields #[.ref h.objs.size, .none, .none, .none, .bool false, .none] }, g, d, t, os⟩) (hrest : rest.length ≤ sizeLine) :
    codeAny (model prog w) A (.builtin newId ⟨.ref C :: rest, kw⟩) R ⟨h, g, d, t, os⟩ := by
  have hends := F.ends
  have hcB : (Value.ref C :: bm).contains (.type B) = true := by rw [List.contains_cons, hT, F.hasB, Bool.or_true]
  have hcA : (Value.ref C :: bm).contains (.type "AttributeError") = false := by rw [List.contains_cons, hT, F.noAttr]; rfl
  have hcN : (Value.ref C :: bm).contains (.type "NameError") = false := by rw [List.contains_cons, hT, F.noName]; rfl
  refine codeAny_builtinAt F.entry ?_
  unfold Builtin.«BaseException.__new__»
  refine wpAt_bind ?_
  show wpAt _ _ _ (stack >>= _) _ _ _
  refine wpAt_bind (wpAt_stack fun p below => wpAt_of_wpAny ?_)
  wp_walk
  refine wpAt_of_wpAny ?_
  rw [F.owner]
  repeat (first | with_reducible refine wpAny_madeHere_exc F.canon hC ?_ | with_reducible refine wpAny_loadPart_at hC ?_ | (with_reducible refine wpAny_isSubtype_exc hC ?_; first | rw [hcB] | rw [hcA] | rw [hcN]) | wp_step)
  show R _ _
  rw [Heap.size_push]
  exact hq

theorem type_call_kw (F : ExcBaseFacts B newId initId bmB) (hT : ∀ X : String, bm.contains (.type X) = bmB.contains (.type X)) {rest : List Value} {kw : List (Str × Value)} {fI : Addr} {Q : Fin → Shared → Prop}
    (hC : h.get? C = some (excClassObj nm q C N bs bm hdct sn sub ab col dd k0 k1 k2 k3 k5 newId))
    (hi : W.Looks (model prog w) h (typeLookup (.ref C) "__init__") (some (.ref fI))) (hb : ∀ self, W.Looks (model prog w) h (bindSpecial (.ref fI) self) (.ref fI, [self])) (hrest : rest.length ≤ sizeLine)
    (hq : codeAny (model prog w) A (.call (.ref fI) ⟨.ref (h.objs.size + 1) :: rest, kw⟩)
      (fun r s' => match r with | .ok (.ret v) => v = .none ∧ Q (.done (.ret (.ref (h.objs.size + 1)))) s' | .ok _ => False | .error e => E e s')
      ⟨(h.push (W.kdv_tup rest)).push (excO C h.objs.size), g, d, t, os⟩) :
    wpAny (model prog w) A (Builtin.«type.__call__» ⟨.ref C :: rest, kw⟩) Q E ⟨h, g, d, t, os⟩ := by
  repeat (first | with_reducible refine wpAny_loadPart_at hC ?_ | with_reducible refine wpAny_madeBy_exc hC ?_ | wp_step)
  refine codeAny_call_builtin_code (Code.quiet_builtin _ F.quiet) (check_new_kw F hT hC ?_)
  refine new_kw F hT hC ?_ hrest
  show wpAny _ _ _ _ _ _
  have k : ∀ b o, h.get? b = some o → ((h.push (W.kdv_tup rest)).push (excO C h.objs.size)).get? b = some o := fun b o e => Heap.get?_push_of_some _ (Heap.get?_push_of_some _ e)
  have hC₁ := k _ _ hC
  have hget : ((h.push (W.kdv_tup rest)).push (excO C h.objs.size)).get? (h.objs.size + 1) = some (excO C h.objs.size) := by heap_get
  have hcC : (Value.ref C :: bm).contains (.ref C) = true := by simp
  have i1 := hi.keeps k
  have b1 := (hb (.ref (h.objs.size + 1))).keeps k
  unfold isInstance
  repeat (first | with_reducible refine wpAny_loadPart_at hget ?_ | (with_reducible refine wpAny_isSubtype_exc hC₁ ?_; rw [hcC]) | wp_step)
  show wpAny _ _ (typeLookup (.ref C) _) _ _ _
  refine i1.at ?_
  refine wpAny_holding (wpAny_bind (b1.at ?_))
  refine wpAny_bind (wpAny_call (codeAny_mono hq fun r s' z => ?_))
  rcases r with e | (v | _ | _ | _) <;> first | exact z | exact z.elim | skip
  obtain ⟨rfl, z⟩ := z
  first
    | exact wpAny_pure (wpAny_pure z)
    | (wp_walk; exact z)

theorem call_kw (F : ExcBaseFacts B newId initId bmB) (hT : ∀ X : String, bm.contains (.type X) = bmB.contains (.type X)) {rest : List Value} {kw : List (Str × Value)} {fI : Addr}
    (hC : h.get? C = some (excClassObj nm q C N bs bm hdct sn sub ab col dd k0 k1 k2 k3 k5 newId))
    (hi : W.Looks (model prog w) h (typeLookup (.ref C) "__init__") (some (.ref fI))) (hb : ∀ self, W.Looks (model prog w) h (bindSpecial (.ref fI) self) (.ref fI, [self])) (hrest : rest.length ≤ sizeLine)
    (hq : codeAny (model prog w) (A.under (.builtin "type.__call__" ⟨.ref C :: rest, kw⟩)) (.call (.ref fI) ⟨.ref (h.objs.size + 1) :: rest, kw⟩) (W.InitBack (h.objs.size + 1) R)
      ⟨(h.push (W.kdv_tup rest)).push (excO C h.objs.size), g, d, t, os⟩) :
    codeAny (model prog w) A (.call (.ref C) ⟨rest, kw⟩) R ⟨h, g, d, t, os⟩ := by
  have f1 := tc_lookup
  have f2 := tc_bind (.ref C)
  have hTy : (⟨h, g, d, t, os⟩ : Shared).TypeIs (.ref C) "type" := ⟨_, hC, rfl⟩
  refine codeAny_of_tree ?_
  show wpAny _ _ (callAny (.ref C) _) _ _ _
  repeat (any_goals (first | assumption | with_reducible refine wpAny_loadPart_at hC ?_ | wp_step))
  refine ⟨rfl, ?_⟩
  refine codeAny_call_builtin_at (Code.quiet_builtin _ (by decide +kernel)) entry_typeCall (wpAny_check_type_call_sub hC (type_call_kw F hT hC hi hb hrest ?_))
  refine codeAny_mono hq fun r s' z => ?_
  rcases r with e | (v | _ | _ | _) <;> exact z
end
end OEXK
end PySem

set_option Elab.async false
set_option linter.all false
set_option maxRecDepth 100000
set_option maxHeartbeats 2000000
namespace GL
open PySem PySem.Spec PyProof.Rows L2
/-! promises of defs that are kept wherever nothing is being shown (so that repr of a list, a tuple, a dict may be asked in them) -/
def Quiet (A : Around) : Prop := A.guards = some []
theorem Quiet.deeper {A : Around} (h : Quiet A) (env : Env) : Quiet (A.deeper env) := h
theorem Quiet.make {A : Around} (h : Quiet A) (C : Addr) (us : List Value) (kw : List (Str × Value)) : Quiet (A.under (.builtin "type.__call__" ⟨.ref C :: us, kw⟩)) := by
  unfold Quiet at *
  first
  | exact h
  | simpa [Around.under, Code.guards, Code.isGuard, guardIds, pushGuards] using h
theorem Quiet.in1 {A : Around} (h : Quiet A) : Quiet A.in1 := h
theorem quiet_caller : Quiet callerA := rfl

structure FnG (P : Program) (w : World) (K : PySem.W.Frag) (mg : Str → Option Value) (base : Heap) (CX : CXT) (k : Nat) (f : Addr) (fd : FuncData) (ps : List Str) (sp : Sp) : Prop where
  ln : ∀ vs H Q E, sp vs H Q E → vs.length = ps.length
  go : ∀ (A : Around), Quiet A → Room k A → ∀ (outer : List Env) (s : Shared) (H : Hp), Env0 P w K mg base A outer s H → ∀ (args : Args) (us : List Value) (vs : List V), BindsTo s fd args (ps.zip us) → Vals vs us →
    ∀ (Q : VK) (E : XK), sp vs H Q E → codeAny (model P w) A (.call (.ref f) args) (CR CX outer P w H s Q E) s
theorem of_ok {P : Program} {w : World} {K : PySem.W.Frag} {mg : Str → Option Value} {base : Heap} {CX : CXT} {k : Nat} {f : Addr} {fd : FuncData} {ps : List Str} {sp : Sp} (F : FnOk P w K mg base CX k f fd ps sp) : FnG P w K mg base CX k f fd ps sp :=
  ⟨F.len, fun A _ hr outer s H e0 args us vs hb hv Q E h => F.run A outer s H args us vs Q E hr e0 hb hv h⟩
theorem FnG.up {P : Program} {w : World} {K : PySem.W.Frag} {mg : Str → Option Value} {base : Heap} {CX : CXT} {j k : Nat} {f : Addr} {fd : FuncData} {ps : List Str} {sp : Sp} (F : FnG P w K mg base CX j f fd ps sp) (h : j ≤ k) : FnG P w K mg base CX k f fd ps sp :=
  ⟨F.ln, fun A hq hr => F.go A hq (hr.mono h)⟩

/-- what comes back of a callee -/
theorem back {X : Cx} {CX : CXT} {pins : List (Addr × Obj)} {σ : L2.St} {H : Hp} {s s' : Shared} {Q : VK} {E : XK} {r : Result} (I : Inv X pins σ H s) (hx : Passes CX X E) (h : CR CX X.stack X.prog X.w H s Q E r s') :
    match r with | .ok (.ret u) => EP X pins σ Q u s' | .ok _ => False | .error e => X.xe e s' := by
  cases r with
  | error e => exact hx pins σ H s e s' I h
  | ok fl => cases fl with
    | ret u => exact I.after h
    | next | brk | cont => exact h

section
variable {X : Cx} {CX : CXT} {k : Nat} {f : Addr} {fd : FuncData} {ps : List Str} {sp : Sp} {dvs : List V} {ds : List Value} {E : XK} {x : Str} {p pos : Pos} {e : Expr} {es : List Expr} {t : TA}
theorem run_g {pins : List (Addr × Obj)} {σ : L2.St} {H : Hp} {s : Shared} {Q : VK} {us : List Value} {vs : List V} (F : FnG X.prog X.w X.K X.mg X.base CX k f fd ps sp) (hq : Quiet X.A) (hr : Room k X.A) (hb : Binds X.K fd ps ds) (hd : Vals dvs ds)
    (hx : Passes CX X E) (I : Inv X pins σ H s) (r : Vals vs us) (h : sp (vs ++ dvs) H Q E) : wpAny (model X.prog X.w) X.A (call (.ref f) us) (EP X pins σ Q) X.xe s := by
  have r2 := r.append hd
  have n : (us ++ ds).length = ps.length := r2.length.symm.trans (F.ln _ _ _ _ h)
  refine wpAny_call (codeAny_mono (F.go X.A hq hr X.stack s H I.env0 ⟨us, []⟩ _ _ (hb s us I.kIn n) r2 Q E h) fun r s' z => ?_)
  have z2 := back I hx z
  cases r with
  | error e => exact z2
  | ok fl => cases fl with
    | ret u => exact z2
    | next | brk | cont => exact z2
/-- f(e, ..) -/
theorem pe_cg (F : FnG X.prog X.w X.K X.mg X.base CX k f fd ps sp) (hq : Quiet X.A) (hr : Room k X.A) (hg : Gl X x) (hm : X.mg x = some (.ref f)) (hk : PySem.W.keepIn X.K (.ref f) = true) (hb : Binds X.K fd ps ds) (hd : Vals dvs ds) (hx : Passes CX X E)
    (ha : PA X (e :: es) t) (hdb : (x == ("__debug__" : Str)) = false := by decide) (he : starEach (e :: es) X.env = (false, eval e X.env) :: starEach es X.env := by rfl) (hpl : (backTo pos (starEach es X.env)).any (·.1) = false := by rfl) :
    PE X (.Call (.Name x p) (e :: es) [] pos) (tCall sp dvs E t) :=
  ⟨fun pins s σ H Q I h => wpAny_Call_Name_kw (ld_glob I hg hm (PySem.W.callWith_K (h₀ := X.base) I.ok.mod.kin hk (thn (ha.run pos pins s σ H _ I h) fun us s1 ⟨vs, H1, I1, r, q⟩ => ⟨I1.kIn, run_g F hq hr hb hd hx I1 r q⟩) he hpl) hdb)⟩
/-- f() -/
theorem pe_cg0 (F : FnG X.prog X.w X.K X.mg X.base CX k f fd ps sp) (hq : Quiet X.A) (hr : Room k X.A) (hg : Gl X x) (hm : X.mg x = some (.ref f)) (hk : PySem.W.keepIn X.K (.ref f) = true) (hb : Binds X.K fd ps ds) (hd : Vals dvs ds) (hx : Passes CX X E)
    (hdb : (x == ("__debug__" : Str)) = false := by decide) : PE X (.Call (.Name x p) [] [] pos) (tCall sp dvs E tNil) :=
  ⟨fun pins s σ H Q I h => wpAny_Call_Name_kw (ld_glob I hg hm (PySem.W.callWith_K0 I.kIn hk (run_g (us := []) (vs := []) F hq hr hb hd hx I .nil h)) hdb)⟩
end

/-- a def of the text by its body -/
theorem fn_g {CX : CXT} {P : Program} {w : World} {K : PySem.W.Frag} {mg : Str → Option Value} {base : Heap} {k : Nat} {f : Addr} {name qual : Str} {params : Arguments} {body : List Stmt} {scope : Scope} {dV kV doc pm cdv ct oc : Value} {an od : Option Addr}
    {osl : Array (Option Value)} {N ps : List Str} {sp : Sp} (lk : K.lookup f = some ⟨oc, od, .func (PySem.W.fnOf name qual params body scope dV kV doc pm an cdv ct), osl⟩) (hcd : PySem.W.codeIn K cdv qual = true) (S : FnScope N ps scope)
    (ln : ∀ vs H Q E, sp vs H Q E → vs.length = ps.length)
    (hb : ∀ (A : Around) (outer : List Env) (s : Shared) (H : Hp) (vs : List V) (Q : VK) (E : XK), Quiet A → Room k (A.deeper (envOfC qual scope s.heap.objs.size f cdv)) → sp vs H Q E →
      ∃ t, PSs (cxOf CX P w K mg base N qual scope f cdv A outer s H E) body t ∧ t { nx := fun _ H' => Q .non H', rt := Q } (start N vs) H) :
    FnG P w K mg base CX (k + 1) f (PySem.W.fnOf name qual params body scope dV kV doc pm an cdv ct) ps sp := by
  constructor
  · exact ln
  intro A hq hr outer s H e0 args us vs bd rv Q E h
  have hl := ln _ _ _ _ h
  have inK : K.In s.heap := e0.mod.kin.keeps fun b o z => (e0.bs b o z).1
  have nol : s.heap.NoLimit := e0.mod.nolimit.keeps fun b o z => (e0.bs b o z).1
  refine codeAny_call_function hr.depth (inK _ _ lk) rfl S.co S.gen rfl (PySem.W.codeRec_of inK hcd) (bd _ _ _ _ ?_)
  refine wpAny_newFunctionEnv_cells S.kind ?_ fun env he s1 x => ?_
  · rintro ⟨n, v⟩ hy
    rcases S.par n (List.of_mem_zip hy).1 with q | q
    · exact Or.inl q
    · exact Or.inr ⟨q, PySem.W.cellsFrom_some _ _ _ (Or.inl q)⟩
  cases he
  obtain ⟨t, ht, run⟩ := hb A outer s H vs Q E hq (hr.deeper _) h
  have J : Inv (cxOf CX P w K mg base N qual scope f cdv A outer s H E) [] (start N vs) H s1 := inv_start S hr.hd e0 hl rv x
  refine ⟨nol.keeps x.toInCall.keep, codeAny_func (wpAny_mono (ht.run [] s1 (start N vs) H _ J run) (fun fl s' z => ?_) fun e s' z => z)⟩
  cases fl with
  | ret u => obtain ⟨v, σ', H', J', r', q'⟩ := z; exact ⟨v, H', J'.os, J'.bare, J'.base, J'.hok, r', q'⟩
  | next => obtain ⟨σ', H', J', q'⟩ := z; exact ⟨V.non, H', J'.os, J'.bare, J'.base, J'.hok, rfl, q'⟩
  | brk => obtain ⟨_, _, _, q'⟩ := z; exact q'.elim
  | cont => obtain ⟨_, _, _, q'⟩ := z; exact q'.elim
/-- the same by the short word for a def; nothing is raised out of it -/
theorem okG {P : Program} {w : World} {K : PySem.W.Frag} {mg : Str → Option Value} {base : Heap} {x qual : Str} {st : Stmt} {f : Addr} {fd : FuncData} {N ps : List Str} {k : Nat} {sp : Sp} (F : Fun K x qual st f fd) (S : FnScope N ps (defScope st))
    (ln : ∀ vs H Q E, sp vs H Q E → vs.length = ps.length)
    (hb : ∀ (cdv : Value) (A : Around) (outer : List Env) (s : Shared) (H : Hp) (vs : List V) (Q : VK) (E : XK), Quiet A → Room k (A.deeper (envOfC qual (defScope st) s.heap.objs.size f cdv)) → sp vs H Q E →
      ∃ t, PSs (cxOf CX0 P w K mg base N qual (defScope st) f cdv A outer s H E).nox (defBody st) t ∧ t { nx := fun _ H' => Q .non H', rt := Q } (start N vs) H) : FnG P w K mg base CX0 (k + 1) f fd ps sp := by
  obtain ⟨oc, od, kV, doc, pm, an, cdv, ct, osl, rfl, lk, hcd⟩ := F.ex
  exact fn_g lk hcd S ln fun A outer s H vs Q E hq hr h => let ⟨t, ht, q⟩ := hb cdv A outer s H vs Q E hq hr h; ⟨t, ht.nox, q⟩

/-- the modules' own table stands in the heap, a dict -/
def SysAt (h : Heap) : Prop := ∃ m, h.Ns sysModules m
/-! the end of a law's row -/
section
variable {P : Program} {w : World} {K : PySem.W.Frag} {mg mb : Str → Option Value} {CX : CXT} {k : Nat} {fa a : Addr} {fd : FuncData} {x : Str} {sp : Sp} {s₁ : Shared} {vs : List Value} {ns : List Int}
theorem core_g (KX : K.In s₁.heap) (hns : s₁.heap.Ns mainGlobals mg) (hb : s₁.heap.Ns builtinsNs mb) (hbb : ∀ x : Str, x ≠ "__name__" → mb x = bootBuiltins x) (hlim : s₁.heap.NoLimit) (hg : s₁.gens = #[])
    (ha : s₁.heap.get? a = some { cls := .type "list", data := .seq vs.toArray }) (hr : Room k callerA)
    (hsy : SysAt s₁.heap) (F : ∀ base : Heap, K.In base → base.Ns mainGlobals mg → SysAt base → FnG P w K mg base CX k fa fd [x] sp) (bd : ∀ (s : Shared) (u : Value), BindsTo s fd ⟨[u], []⟩ [(x, u)])
    (hsp : ∀ H : Hp, Only H → SqL K H a (ns.map V.int) → sp [.ref a] H (fun v _ => v = .bl true) fun _ _ _ => False)
    (hCX : ∀ H e s', CX [] H s₁ (fun _ _ _ => False) e s' → False)
    (H : Hp) (hO : Only H) (hS : SqL K H a (ns.map V.int)) (ok : HOk P w H s₁.heap) (one : ∀ b u, H b = some u → b = a ∧ K.lookup a = none) :
    codeAny (model P w) callerA (.call (.ref fa) ⟨[.ref a], []⟩) (fun r s' => r = .ok (.ret (.bool true)) ∧ OldK s₁.heap s'.heap ∧ s'.os = s₁.os ∧ AllBare s'.gens) s₁ := by
  have free : ∀ b, (∀ u, H b ≠ some u) → H b = none := fun b h => by
    cases q : H b with
    | none => rfl
    | some u => exact absurd q (h u)
  have ns2 : ∀ {b : Addr} {m : Str → Option Value}, s₁.heap.Ns b m → (hidT s₁.heap H).Ns b m := by
    rintro b m ⟨o, es, ep, e, d, r⟩
    refine ⟨o, es, ep, hidT_get e (free b fun u q => ?_), d, r⟩
    obtain ⟨rfl, _⟩ := one b u q
    rw [ha] at e
    cases e
    simp at d
  have kin : K.In (hidT s₁.heap H) := fun b o e => hidT_get (KX b o e) (free b fun u q => by
    obtain ⟨rfl, z⟩ := one b u q
    rw [z] at e
    cases e)
  obtain ⟨mc, l1, l2⟩ := hlim
  have e0 : Env0 P w K mg (hidT s₁.heap H) callerA [] s₁ H :=
    { frames := rfl, mod := ⟨kin, ns2 hns, ⟨mb, ns2 hb, hbb⟩, ⟨mc, ns2 l1, l2⟩⟩, bs := fun b o e => of_hidT e, bsz := Nat.le_of_eq (hidT_size _ _), funs := trivial, frf := (fun b z => nomatch z), hok := ok, bare := .of_eq hg }
  have go := (F _ kin (ns2 hns) (hsy.elim fun m h => ⟨m, ns2 h⟩)).go callerA quiet_caller hr [] s₁ H e0 ⟨[.ref a], []⟩ [.ref a] [.ref a] (bd s₁ (.ref a)) (.cons rfl .nil) _ _ (hsp H hO hS)
  refine codeAny_mono go fun r s' z => ?_
  cases r with
  | error e => exact (hCX H e s' z).elim
  | ok fl => cases fl with
    | next | brk | cont => exact False.elim z
    | ret u =>
      obtain ⟨v, H', os, bare, un, ok', rv, q⟩ := z
      cases (show v = V.bl true from q)
      cases (show u = Value.bool true from rv)
      refine ⟨rfl, OldK.of_keep fun b o e => ?_, os, bare⟩
      cases q : H b with
      | none => exact un.keep b o e q (fun z => nomatch z) (fun z => nomatch z)
      | some u =>
        rcases hO b with z | ⟨ob, xs, z⟩
        · rw [z] at q; cases q
        · have e1 := (ok b _ z).1
          have e2 := (ok' b _ (un.frzs b ob _ z)).1
          rw [e] at e1
          cases e1
          exact e2
theorem law_g (KX : K.In s₁.heap) (hns : s₁.heap.Ns mainGlobals mg) (hb : s₁.heap.Ns builtinsNs mb) (hbb : ∀ x : Str, x ≠ "__name__" → mb x = bootBuiltins x) (hlim : s₁.heap.NoLimit) (hg : s₁.gens = #[])
    (ha : s₁.heap.get? a = some { cls := .type "list", data := .seq vs.toArray }) (hi : IntsAre vs ns) (hl : ns.length ≤ sizeLine) (hr : Room k callerA)
    (hsy : SysAt s₁.heap) (F : ∀ base : Heap, K.In base → base.Ns mainGlobals mg → SysAt base → FnG P w K mg base CX k fa fd [x] sp) (bd : ∀ (s : Shared) (u : Value), BindsTo s fd ⟨[u], []⟩ [(x, u)])
    (hsp : ∀ H : Hp, Only H → SqL K H a (ns.map V.int) → sp [.ref a] H (fun v _ => v = .bl true) fun _ _ _ => False)
    (hCX : ∀ H e s', CX [] H s₁ (fun _ _ _ => False) e s' → False) :
    codeAny (model P w) callerA (.call (.ref fa) ⟨[.ref a], []⟩) (fun r s' => r = .ok (.ret (.bool true)) ∧ OldK s₁.heap s'.heap ∧ s'.os = s₁.os ∧ AllBare s'.gens) s₁ := by
  have rv := vals_ints hi
  have core := core_g KX hns hb hbb hlim hg ha hr hsy F bd hsp hCX
  cases hk : K.lookup a with
  | some o =>
    have e := KX a o hk
    rw [ha] at e
    cases e
    exact core (fun _ => none) (fun _ => Or.inl rfl) (Or.inr ⟨_, vs.toArray, _, hk, rfl, rfl, rfl, by rw [List.size_toArray, hi.length]; exact hl, by simpa using rv⟩) (fun b u z => nomatch z) (fun b u z => nomatch z)
  | none =>
    have at1 : ∀ b u, (fun b => if b = a then some (HO.frz { cls := .type "list", data := .seq vs.toArray } (.lst (ns.map V.int))) else none : Hp) b = some u → b = a ∧ u = HO.frz { cls := .type "list", data := .seq vs.toArray } (.lst (ns.map V.int)) := fun b u z => by
      by_cases q : b = a
      · have z' := (if_pos q).symm.trans z
        cases z'
        exact ⟨q, rfl⟩
      · have z' := (if_neg q).symm.trans z
        cases z'
    refine core _ (fun b => ?_) (Or.inl (Or.inr ⟨{ cls := .type "list", data := .seq vs.toArray }, if_pos rfl⟩)) (fun b u z => ?_) (fun b u z => ⟨(at1 b u z).1, hk⟩)
    · by_cases q : b = a
      · exact Or.inr ⟨_, _, if_pos q⟩
      · exact Or.inl (if_neg q)
    · obtain ⟨rfl, rfl⟩ := at1 b u z
      exact ⟨ha, by rw [List.length_map]; exact hl, vs, _, rv, ha⟩
end
theorem walk_g {l : PySem.W.OpenLaw} {n k : Nat} {q : Program} {loose : List Str} {XP : (Str → Option Value) → Heap → Prop} {YP : World → Heap → Prop} {d : DefRec} {K : Params → PySem.W.Frag} {CX : World → CXT} {sp : World → Sp} {x : Str}
    (hn : l.most = some n) (hn2 : n ≤ sizeLine) (hdf : d.params.defaults = []) (hr : Room k callerA) (hY : ∀ (w : World) (h : Heap), YP w h → (K w.params).In h) (hi : importsNone q = true)
    (F : ∀ (w : World) (mg : Str → Option Value) (fa : Addr) (h : Heap), (K w.params).In h → h.Ns mainGlobals mg → mg d.name = some (.ref fa) →
      ∃ fd : FuncData, (∀ (s : Shared) (u : Value), BindsTo s fd ⟨[u], []⟩ [(x, u)]) ∧ ∀ base : Heap, (K w.params).In base → base.Ns mainGlobals mg → SysAt base → FnG l.prog w (K w.params) mg base (CX w) k fa fd [x] (sp w))
    (hsp : ∀ (w : World) (H : Hp) (a : Addr) (ns : List Int), ns.length ≤ n → Only H → SqL (K w.params) H a (ns.map V.int) → sp w [.ref a] H (fun v _ => v = .bl true) fun _ _ _ => False)
    (hCX : ∀ (w : World) (H : Hp) (s : Shared) (e : Value) (s' : Shared), CX w [] H s (fun _ _ _ => False) e s' → False) :
    PySem.W.WalkO q loose XP YP l.row.toRowW d [] (fun f vs => PySem.call f vs) := by
  refine Att.attach_call hn hdf fun w s₀ s₁ mg mb fa o pm cd doc a vs ns G Y ho hd hcd hmg hobj hints hlen hg => ?_
  have KX := hY w _ Y
  obtain ⟨fd, bd, hF⟩ := F w mg fa _ KX G.T.g hmg
  exact law_g KX G.T.g G.T.b G.T.builtins G.T.nolimit hg hobj hints (Nat.le_trans hlen hn2) hr ((G.T.seer hi).2.elim fun m h => ⟨m, h.1⟩) hF bd (fun H hO hS => hsp w H a ns hlen hO hS) fun H e s' => hCX w H s₁ e s'
end GL

set_option Elab.async false
set_option linter.all false
set_option maxRecDepth 100000
set_option maxHeartbeats 4000000
namespace L2
open PySem PySem.Spec PyProof.Rows
/-- the class at C is an own error whose own __init__ stands at fI -/
structure OMk (K : PySem.W.Frag) (C fI : Addr) : Prop where
  o : OexC K C
  i : PySem.W.findIn K (.ref C) "__init__" = some (some (.ref fI))
  t : PySem.W.typeIn K (.ref fI) = some (.type "function")
/-- C(e, .., k = v, ..), a new error as a value -/
def tOex (C : Addr) (n m : Nat) (sp : Sp) (gV : List V → List V → List V) (E : XK) (t tk : TA) : TE := fun σ H Q => t σ H fun vs H1 => tk σ H1 fun zs H2 => vs.length = n ∧ zs.length = m ∧ ∀ a, H2 a = none →
  sp (gV (.ref a :: vs) zs) (upd H2 a (exo a C none)) (fun v H3 => v = .non ∧ Q (.ref a) H3) E
section
variable {X : Cx} {CX : CXT} {k n : Nat} {fI C : Addr} {fd : FuncData} {ps ks : List Str} {sp : Sp} {E : XK} {x : Str} {p pos : Pos} {e : Expr} {es : List Expr} {kws : List Keyword} {t tk : TA} {g : List Value → List Value → List Value} {gV : List V → List V → List V}
theorem run_oex {pins : List (Addr × Obj)} {σ : St} {H : Hp} {s : Shared} {Q : VK} {us ws : List Value} {vs zs : List V} (M : OMk X.K C fI) (F1 : GL.FnG X.prog X.w X.K X.mg X.base CX k fI fd ps sp) (hq : GL.Quiet X.A) (hr : Room (k + 1) X.A) (hb : KBn X.K fd ps (n + 1) ks g gV)
    (hx : Passes CX X E) (I : Inv X pins σ H s) (r : Vals vs us) (rz : Vals zs ws) (l1 : vs.length = n) (l2 : zs.length = ks.length) (hz : n ≤ 1000)
    (h : ∀ a, H a = none → sp (gV (.ref a :: vs) zs) (upd H a (exo a C none)) (fun v H2 => v = .non ∧ Q (.ref a) H2) E) :
    wpAny (model X.prog X.w) X.A (call (.ref C) us (ks.zip ws)) (EP X pins σ Q) X.xe s := by
  obtain ⟨nm, q, N, bs, bm, sn, sub, ab, col, dd, k0, k1, k2, k3, k5, hC, hbm⟩ := M.o.cls
  obtain ⟨hp, g', dr, tk, os⟩ := s
  have hsz : hp.objs.size ≤ hp.objs.size + 1 := Nat.le_succ _
  have hn : H (hp.objs.size + 1) = none := I.hok.fresh hsz
  have hsp := h (hp.objs.size + 1) hn
  have kk : ∀ b o, hp.get? b = some o → ((hp.push (PySem.W.kdv_tup us)).push (PySem.HandSPX.excO C hp.objs.size)).get? b = some o := fun b o e => Heap.get?_push_of_some _ (Heap.get?_push_of_some _ e)
  have hget : ((hp.push (PySem.W.kdv_tup us)).push (PySem.HandSPX.excO C hp.objs.size)).get? (hp.objs.size + 1) = some (PySem.HandSPX.excO C hp.objs.size) := by heap_get
  have I2 : Inv X pins σ (upd H (hp.objs.size + 1) (exo (hp.objs.size + 1) C none)) ⟨(hp.push (PySem.W.kdv_tup us)).push (PySem.HandSPX.excO C hp.objs.size), g', dr, tk, os⟩ :=
    I.laid (t' := tk) (a := hp.objs.size + 1) (o := exo (hp.objs.size + 1) C none) (h' := (hp.push (PySem.W.kdv_tup us)).push (PySem.HandSPX.excO C hp.objs.size)) kk hsz (exo_ok hget)
  have r1 : Vals (V.ref (hp.objs.size + 1) :: vs) (Value.ref (hp.objs.size + 1) :: us) := .cons rfl r
  have r2 := hb.rel r1 rz
  have e1 : (Value.ref (hp.objs.size + 1) :: us).length = n + 1 := r1.length.symm.trans (congrArg Nat.succ l1)
  have e2 : ws.length = ks.length := rz.length.symm.trans l2
  have hus : us.length ≤ sizeLine := by
    rw [← Paired.length r, l1, sizeLine_eq]
    omega
  refine wpAny_call (PySem.OEXK.call_kw F.excBase_ValueError (fun Y => PySem.HandSPX.refsVE_contains Y bm hbm) (I.kIn _ _ hC) (PySem.W.looks_findIn I.kIn M.i) (fun self => PySem.W.bind_fn I.kIn self M.t) hus
    (codeAny_mono (F1.go _ (hq.make C us (ks.zip ws)) (hr.make C us (ks.zip ws)) X.stack _ _ (I2.env0.make C us (ks.zip ws)) ⟨Value.ref (hp.objs.size + 1) :: us, ks.zip ws⟩ (g (Value.ref (hp.objs.size + 1) :: us) ws) _ (hb.to _ (Value.ref (hp.objs.size + 1) :: us) ws I2.kIn e1 e2) r2 _ E hsp) fun r s' hq' => ?_))
  cases r with
  | error er => exact hx pins σ _ _ er s' I2 hq'
  | ok fl =>
    cases fl with
    | ret u =>
      obtain ⟨v, H', I3, rv, ev, q3⟩ := I2.after hq'
      subst ev
      exact ⟨rv, ⟨V.ref (hp.objs.size + 1), H', I3, rfl, q3⟩⟩
    | next => exact False.elim hq'
    | brk => exact False.elim hq'
    | cont => exact False.elim hq'
/-- C(k = v, ..) -/
theorem pe_oexK0 (M : OMk X.K C fI) (F1 : GL.FnG X.prog X.w X.K X.mg X.base CX k fI fd ps sp) (hq : GL.Quiet X.A) (hr : Room (k + 1) X.A) (hg : Gl X x) (hm : X.mg x = some (.ref C)) (hb : KBn X.K fd ps 1 ks g gV) (hx : Passes CX X E) (hkw : PK X kws tk)
    (hall : (backToKw pos (keywordEach kws X.env)).all (·.1.isSome) = true := by rfl) (hks : (backToKw pos (keywordEach kws X.env)).filterMap (·.1) = ks := by rfl) (hdb : (x == ("__debug__" : Str)) = false := by decide)
    (hpl : ((backTo pos (starEach [] X.env)).any (·.1) || (backToKw pos (keywordEach kws X.env)).any (·.1.isNone)) = false := by rfl) :
    PE X (.Call (.Name x p) [] kws pos) (tOex C 0 ks.length sp gV E tNil tk) := by
  refine ⟨fun pins s σ H Q I h => ?_⟩
  refine wpAny_Call_Name_kw (ld_glob I hg hm ?_ hdb)
  refine PySem.W.callWith_KW0 (h₀ := X.base) I.ok.mod.kin M.o.kC hall ?_ hpl
  refine thn (hkw.run pos pins s σ H _ I h) fun ws s2 ⟨zs, H2, I2, rz, l1, l2, q2⟩ => ⟨I2.kIn, ?_⟩
  rw [hks]
  exact run_oex (us := []) (vs := []) M F1 hq hr hb hx I2 .nil rz rfl l2 (Nat.zero_le _) q2
/-- C(e, ..) -/
theorem pe_oex (M : OMk X.K C fI) (F1 : GL.FnG X.prog X.w X.K X.mg X.base CX k fI fd ps sp) (hq : GL.Quiet X.A) (hr : Room (k + 1) X.A) (hg : Gl X x) (hm : X.mg x = some (.ref C)) (hb : KBn X.K fd ps (n + 1) [] g gV) (hx : Passes CX X E) (hz : n ≤ 1000) (ha : PA X (e :: es) t)
    (hdb : (x == ("__debug__" : Str)) = false := by decide) (he : starEach (e :: es) X.env = (false, eval e X.env) :: starEach es X.env := by rfl) (hpl : (backTo pos (starEach es X.env)).any (·.1) = false := by rfl) :
    PE X (.Call (.Name x p) (e :: es) [] pos) (tOex C n 0 sp gV E t tNil) := by
  refine ⟨fun pins s σ H Q I h => ?_⟩
  refine wpAny_Call_Name_kw (ld_glob I hg hm ?_ hdb)
  refine PySem.W.callWith_K (h₀ := X.base) I.ok.mod.kin M.o.kC (thn (ha.run pos pins s σ H _ I h) fun us s1 ⟨vs, H1, I1, r, l1, l2, q⟩ => ⟨I1.kIn, ?_⟩) he hpl
  exact run_oex (ks := []) (ws := []) (zs := []) M F1 hq hr hb hx I1 r .nil l1 l2 hz q
/-- an own error class without an own __init__, called with nothing: a new error -/
theorem pe_exc0 {bmB : List Value} {B newId initId : String} (F : ExcBaseFacts B newId initId bmB) (q : PySem.W.excIn X.K C bmB newId = true) (gC : X.mg x = some (.ref C)) (kC : PySem.W.keepIn X.K (.ref C) = true) (hg : Gl X x)
    (hdb : (x == ("__debug__" : Str)) = false := by decide) :
    PE X (.Call (.Name x p) [] [] pos) (fun σ H Q => ∀ a, H a = none → Q (.ref a) (upd H a (exo a C none))) := by
  refine ⟨fun pins s σ H Q I h => ?_⟩
  refine wpAny_Call_Name_kw (ld_glob I hg gC ?_ hdb)
  refine PySem.W.callWith_K0 I.kIn kC ?_
  show wpAny _ _ (call (.ref C) []) _ _ _
  obtain ⟨bm, N, nm, qn, bs, hdct, sn, sub, ab, col, dd, k0, k1, k2, k3, k5, mN, hC, hN, hni, T⟩ := exc_obj I.kIn q
  refine wpAny_call_exc_subT F T hC hN hni (fun h' a hm => ?_) (by show 0 ≤ sizeLine; exact Nat.zero_le _)
  have hn : H a = none := I.hok.gone hm.new
  obtain ⟨t, ht, _, _⟩ := hm.there
  exact ⟨.ref a, upd H a (exo a C none), I.laidN hm.keeps hm.new hn (exo_ok ht), rfl, h a hn⟩
end

/-! ### what is read off such an error -/
/-- what its class must say besides -/
structure OGet (K : PySem.W.Frag) (C : Addr) : Prop where
  hg : PySem.W.findIn K (.ref C) "__getattribute__" = some (some (.builtin "BaseException.__getattribute__"))
  hk : PySem.W.findIn K (.ref C) "__getattr__" = some none
  hs : PySem.W.subIn K (.ref C) (.type "BaseException") = some true
  hc : (PySem.W.clsIn K C).isSome = true
  hd : PySem.W.hasDictIn K C = true
  ha : PySem.W.findIn K (.ref C) "__class__" = some (some (.builtin "object.__class__"))
  hn : PySem.W.specialIn K (.builtin "object.__class__") "__get__" = some (some (.builtin "getset_descriptor.__get__"))
  ht : PySem.W.takesIn K (.builtin "object.__class__") = some true
  hm : PySem.W.mroIn K C (.type "object") = some true
/-- e.f, e an error of the class at C with the dict at dx -/
def tOfl (K : PySem.W.Frag) (f : Str) (te : TE) : TE := fun σ H Q => te σ H fun x H1 => ∃ (a C dx : Addr) (fs : List (Str × V)) (v : V), x = .ref a ∧ OGet K C ∧ PySem.W.findIn K (.ref C) f = some none ∧
  H1 a = some (exo a C (some dx)) ∧ H1 dx = some (exd dx fs) ∧ fs.lookup f = some v ∧ Q v H1
section
variable {X : Cx} {e : Expr} {te : TE} {f : Str} {pos : Pos}
theorem pe_ofl (he : PE X e te) (hb : attributeBase e f X.env (eval e X.env) = eval e X.env := by rfl) : PE X (.Attribute e f pos) (tOfl X.K f te) := by
  refine ⟨fun pins s σ H Q I h => ?_⟩
  refine attr_of hb (thn (he.run pins s σ H _ I h) fun u s1 hh => ?_)
  obtain ⟨x, H1, I1, rx, a, C, dx, fs, v, ex, T, hno, ea, ed, hl, q⟩ := hh
  subst ex
  obtain rfl : u = Value.ref a := rx
  obtain ⟨t1, ho⟩ := exo_at I1.hok ea
  obtain ⟨mA, hns, rel⟩ := exd_at I1.hok ed
  obtain ⟨od, hod, hlk⟩ := lookIn_ns hns
  obtain ⟨u, hu, ru⟩ := RelO.some_of (v := v) (o := mA f) (by rw [← hl]; exact rel f)
  have J : PySem.W.InstAt s1.heap a { cls := .ref C, dict := some dx, data := .fields #[.ref t1, .none, .none, .none, .bool false, .none] } C (some od) := ⟨ho, rfl, rfl, hod⟩
  exact HandSPX.exc_get I1.kIn J T.hg T.hk T.hs (PySem.W.findObj_own T.hd hno rfl (by rw [hlk, hu])) (handed_of ru) ⟨v, H1, I1.tok _, ru, q⟩
/-- isinstance(e, c) -/
def rIsO (K : PySem.W.Frag) : List V → Hp → VK → Prop := fun xs H Q => ∃ (a C : Addr) (d : Option Addr) (c : V) (u : Value) (b : Bool), xs = [.ref a, c] ∧ ClsV c u ∧ OGet K C ∧ H a = some (exo a C d) ∧ (∀ dx, d = some dx → ∃ fs, H dx = some (exd dx fs)) ∧
  PySem.W.kitOne K (.ref C) u = some b ∧ Q (.bl b) H
theorem call_isO : CallR X (.builtin "isinstance") (rIsO X.K) := by
  intro pins s σ H xs us Q I r h
  obtain ⟨a, C, d, c, u, b, rfl, kc, T, ea, ed, e, q⟩ := h
  obtain ⟨u1, u2, rfl, r1, r2⟩ := vals2 r
  have e2 := kc.eq r2
  subst e2
  obtain rfl : u1 = Value.ref a := r1
  obtain ⟨t1, ho⟩ := exo_at I.hok ea
  have J : ∃ od, PySem.W.InstAt s.heap a { cls := .ref C, dict := d, data := .fields #[.ref t1, .none, .none, .none, .bool false, .none] } C od := by
    cases d with
    | none => exact ⟨none, ho, rfl, rfl, trivial⟩
    | some dx =>
      obtain ⟨fs, hd⟩ := ed dx rfl
      obtain ⟨mA, hns, rel⟩ := exd_at I.hok hd
      obtain ⟨od, hod, hlk⟩ := lookIn_ns hns
      exact ⟨some od, ho, rfl, rfl, hod⟩
  obtain ⟨od, J⟩ := J
  exact PySem.W.kia_one (PySem.W.kitx_exc T.hc T.hg T.hk T.hs T.ha T.hn T.ht T.hm) I.kIn J e (fun z => nomatch z) fun tk => ⟨.bl b, H, I.tok tk, rfl, q⟩
end
end L2

set_option Elab.async false
set_option linter.all false
set_option maxRecDepth 100000
set_option maxHeartbeats 2000000
namespace GL
open PySem PySem.Spec PyProof.Rows L2
/-! data of any kind, dicts (keys ints and texts) among it, and repr of it -/
def kD : Key → PyData
  | .inl i => .int i
  | .inr x => .str x
mutual
inductive Dq (K : PySem.W.Frag) (H : Hp) : V → PyData → Prop
  | non : Dq K H .non .none
  | bl (b : Bool) : Dq K H (.bl b) (.bool b)
  | int (i : Int) : Dq K H (.int i) (.int i)
  | str (x : Str) : Dq K H (.str x) (.str x)
  | lst {a : Addr} {xs : List V} {ds : List PyData} : SqL K H a xs → DqAll K H xs ds → Dq K H (.ref a) (.list ds)
  | tup {a : Addr} {xs : List V} {ds : List PyData} : SqT K H a xs → DqAll K H xs ds → Dq K H (.ref a) (.tuple ds)
  | dct {a : Addr} {kvs : List (Key × V)} {ds : List (PyData × PyData)} : Rd H a (.dK kvs) → DqKv K H kvs ds → Dq K H (.ref a) (.dict ds)
inductive DqAll (K : PySem.W.Frag) (H : Hp) : List V → List PyData → Prop
  | nil : DqAll K H [] []
  | cons {v : V} {vs : List V} {d : PyData} {ds : List PyData} : Dq K H v d → DqAll K H vs ds → DqAll K H (v :: vs) (d :: ds)
inductive DqKv (K : PySem.W.Frag) (H : Hp) : List (Key × V) → List (PyData × PyData) → Prop
  | nil : DqKv K H [] []
  | cons {k : Key} {v : V} {vs : List (Key × V)} {d : PyData} {ds : List (PyData × PyData)} : Dq K H v d → DqKv K H vs ds → DqKv K H ((k, v) :: vs) ((kD k, d) :: ds)
end
section
variable {X : Cx} {pins : List (Addr × Obj)} {σ : L2.St} {H : Hp} {s : Shared}
theorem lst_ne (hs : SysAt X.base) (I : Inv X pins σ H s) {a : Addr} {xs : List V} (h : SqL X.K H a xs) : a ≠ sysModules := by
  rintro rfl
  obtain ⟨its, rv, ⟨o, n, ho, hc, _, hd⟩, _⟩ := I.list h
  obtain ⟨m, o', es, ep, e, d, _⟩ := hs
  have z := (I.bs _ _ e).1
  rw [ho] at z
  cases z
  rw [hd] at d
  cases d
theorem same_r {H H' : Hp} (e : Same H H') {a : Addr} {u : HO} (h : Rd H a u) : Rd H' a u := h.elim (fun h => .inl (e _ _ h)) fun ⟨o, h⟩ => .inr ⟨o, e _ _ h⟩
theorem same_t {K : PySem.W.Frag} {H H' : Hp} (e : Same H H') {a : Addr} {xs : List V} (h : SqT K H a xs) : SqT K H' a xs := h.elim (fun h => .inl (same_r e h)) .inr
mutual
theorem Dq.reads (hs : SysAt X.base) (I : Inv X pins σ H s) : ∀ (d : PyData) (v : V) (u : Value), Dq X.K H v d → RelV v u → ∃ as, Reads s.heap u d as ∧ sysModules ∉ as
  | .none, _, _, h, r => by cases h; cases r; exact ⟨_, Reads.none, List.not_mem_nil⟩
  | .bool b, _, _, h, r => by cases h; cases r; exact ⟨_, Reads.bool b, List.not_mem_nil⟩
  | .int i, _, _, h, r => by cases h; obtain ⟨t, rfl⟩ := r; exact ⟨_, Reads.int i t, List.not_mem_nil⟩
  | .str x, _, _, h, r => by cases h; obtain ⟨t, rfl⟩ := r; exact ⟨_, Reads.str x t, List.not_mem_nil⟩
  | .list ds, _, _, h, r => by
    cases h with
    | lst hx ha =>
      cases r
      have ne := lst_ne hs I hx
      obtain ⟨its, rv, ⟨o, n, ho, hc, _, hd⟩, _⟩ := I.list hx
      obtain ⟨as, hr, hn⟩ := Dq.readsAll hs I ds _ its ha rv
      exact ⟨_, Reads.list ho hc hd hr, fun z => (List.mem_cons.mp z).elim (fun q => ne q.symm) hn⟩
  | .tuple ds, _, _, h, r => by
    cases h with
    | tup hx ha =>
      cases r
      obtain ⟨its, rv, ⟨o, ho, hc, n, hd⟩, _⟩ := I.tuple hx
      obtain ⟨as, hr, hn⟩ := Dq.readsAll hs I ds _ its ha rv
      exact ⟨_, Reads.tuple ho hc hd hr, hn⟩
  | .dict ds, _, _, h, r => by
    cases h with
    | @dct a kvs _ hx ha =>
      cases r
      obtain ⟨_, ne, vs, kv, o, es, ep, ho, hc, hd, _, hp, _⟩ := dk_rd I.hok hx
      obtain ⟨as, bs, h1, h2, n1, n2⟩ := Dq.readsKv hs I ds kvs es.toList vs ha kv hp
      refine ⟨_, Reads.dict ho hc.1 hd h1 h2, fun z => ?_⟩
      rcases List.mem_append.mp z with z | z
      · rcases List.mem_cons.mp z with z | z
        · exact absurd z.symm (beq_eq_false_iff_ne.mp ne)
        · exact n1 z
      · exact n2 z
theorem Dq.readsAll (hs : SysAt X.base) (I : Inv X pins σ H s) : ∀ (ds : List PyData) (vs : List V) (us : List Value), DqAll X.K H vs ds → Vals vs us → ∃ as, ReadsAll s.heap us ds as ∧ sysModules ∉ as
  | [], _, _, h, r => by cases h; cases r; exact ⟨_, ReadsAll.nil, List.not_mem_nil⟩
  | d :: ds, _, _, h, r => by
    cases h with
    | cons h1 h2 =>
      cases r with
      | cons r1 r2 =>
        obtain ⟨as, q1, n1⟩ := Dq.reads hs I d _ _ h1 r1
        obtain ⟨bs, q2, n2⟩ := Dq.readsAll hs I ds _ _ h2 r2
        exact ⟨_, ReadsAll.cons q1 q2, fun z => (List.mem_append.mp z).elim n1 n2⟩
theorem Dq.readsKv (hs : SysAt X.base) (I : Inv X pins σ H s) : ∀ (ds : List (PyData × PyData)) (kvs : List (Key × V)) (es : List DictEntry) (vs : List (Key × Value)), DqKv X.K H kvs ds → KV kvs vs → Pairs (mixKind X.prog X.w) es vs →
    ∃ as bs, ReadsAll s.heap (es.map (·.key)) (ds.map (·.1)) as ∧ ReadsAll s.heap (es.map (·.val)) (ds.map (·.2)) bs ∧ sysModules ∉ as ∧ sysModules ∉ bs
  | [], _, es, _, h, r, p => by
    cases h
    cases r
    cases p
    exact ⟨_, _, ReadsAll.nil, ReadsAll.nil, List.not_mem_nil, List.not_mem_nil⟩
  | d :: ds, _, es, _, h, r, p => by
    cases h with
    | @cons k v vs dd _ h1 h2 =>
      cases r with
      | cons r1 r2 =>
        cases p with
        | cons p1 p2 p3 =>
          obtain ⟨as, q1, n1⟩ := Dq.reads hs I dd _ _ h1 r1.2
          obtain ⟨bs1, bs2, q2, q3, n2, n3⟩ := Dq.readsKv hs I ds _ _ _ h2 r2 p3
          have kk : ∃ cs, Reads s.heap ‹DictEntry›.key (kD k) cs ∧ sysModules ∉ cs := by
            rw [← r1.1] at p1
            rcases keyIs_shape p1 with ⟨i, t, e1, e2⟩ | ⟨x, t, e1, e2⟩
            · cases (show k = _ from e1); rw [e2]; exact ⟨_, Reads.int i t, List.not_mem_nil⟩
            · cases (show k = _ from e1); rw [e2]; exact ⟨_, Reads.str x t, List.not_mem_nil⟩
          obtain ⟨cs, q4, n4⟩ := kk
          refine ⟨_, _, ReadsAll.cons q4 q2, ReadsAll.cons (by show Reads s.heap (DictEntry.val _) dd as; rw [p2]; exact q1) q3, fun z => (List.mem_append.mp z).elim n4 n2, fun z => (List.mem_append.mp z).elim n1 n3⟩
end
theorem Dq.ref_reads (hs : SysAt X.base) (I : Inv X pins σ H s) {d : PyData} {v : V} (h : Dq X.K H v d) {u : Value} (r : RelV v u) : ∃ as, Reads s.heap u d as ∧ sysModules ∉ as := Dq.reads hs I d v u h r
end
/-- repr(x) -/
def rRepr (K : PySem.W.Frag) : List V → Hp → VK → Prop := fun xs H Q => ∃ (x : V) (d : PyData), xs = [x] ∧ Dq K H x d ∧ d.showable = true ∧ d.shown.length ≤ sizeLine ∧ d.depth ≤ 60 ∧ Q (.str d.shown) H
theorem call_repr {X : Cx} (hs : SysAt X.base) (hq : Quiet X.A) (hu : X.A.units + 64 < cLine) : CallR X (.builtin "repr") (rRepr X.K) := by
  intro pins s σ H xs us Q I r h
  obtain ⟨x, d, rfl, hd, sh, sz, dp, q⟩ := h
  cases r with
  | cons r1 r2 =>
    cases r2
    rename_i u
    obtain ⟨as, rd, n⟩ := Dq.reads hs I d x u hd r1
    have fin : ∀ (tk : Nat) (t : Tok), EP X pins σ Q (.str d.shown t) { s with toks := tk } := fun tk t => ⟨.str d.shown, H, I.tok tk, ⟨t, rfl⟩, q⟩
    cases rd with
    | none => exact PySem.P.repr_of_none (fin _ _)
    | bool b => exact PySem.P.repr_of_bool (by simpa [PyData.shown] using fin _ _)
    | int i t => exact PySem.P.repr_of_int (by simpa [PyData.showable] using sh) (by simpa [PyData.shown] using fin _ _)
    | str y t => exact PySem.P.repr_of_str (by simpa [PyData.shown] using fin _ _) (by simpa [PyData.shown] using sz)
    | list h1 h2 h3 h4 => exact repr_of_reads' (.list h1 h2 h3 h4) sh (fun _ => n) hq (by omega) (fun _ _ e => e) (fun h' u tk k => ⟨.str _, H, I.kept k, ⟨u, rfl⟩, q⟩) sz
    | tuple h1 h2 h3 h4 => exact repr_of_reads' (.tuple h1 h2 h3 h4) sh (fun _ => n) hq (by omega) (fun _ _ e => e) (fun h' u tk k => ⟨.str _, H, I.kept k, ⟨u, rfl⟩, q⟩) sz
    | dict h1 h2 h3 h4 h5 => exact repr_of_reads' (.dict h1 h2 h3 h4 h5) sh (fun _ => n) hq (by omega) (fun _ _ e => e) (fun h' u tk k => ⟨.str _, H, I.kept k, ⟨u, rfl⟩, q⟩) sz
/-! what stands stays -/
mutual
theorem Dq.same {K : PySem.W.Frag} {H H' : Hp} (e : Same H H') : ∀ (d : PyData) {v : V}, Dq K H v d → Dq K H' v d
  | .none, _, h => by cases h; exact .non
  | .bool b, _, h => by cases h; exact .bl b
  | .int i, _, h => by cases h; exact .int i
  | .str x, _, h => by cases h; exact .str x
  | .list ds, _, h => by cases h with | lst h1 h2 => exact .lst (e.seq h1) (Dq.sameAll e ds h2)
  | .tuple ds, _, h => by cases h with | tup h1 h2 => exact .tup (same_t e h1) (Dq.sameAll e ds h2)
  | .dict ds, _, h => by cases h with | dct h1 h2 => exact .dct (same_r e h1) (Dq.sameKv e ds h2)
theorem Dq.sameAll {K : PySem.W.Frag} {H H' : Hp} (e : Same H H') : ∀ (ds : List PyData) {vs : List V}, DqAll K H vs ds → DqAll K H' vs ds
  | [], _, h => by cases h; exact .nil
  | d :: ds, _, h => by cases h with | cons h1 h2 => exact .cons (Dq.same e d h1) (Dq.sameAll e ds h2)
theorem Dq.sameKv {K : PySem.W.Frag} {H H' : Hp} (e : Same H H') : ∀ (ds : List (PyData × PyData)) {vs : List (Key × V)}, DqKv K H vs ds → DqKv K H' vs ds
  | [], _, h => by cases h; exact .nil
  | d :: ds, _, h => by cases h with | cons h1 h2 => exact .cons (Dq.same e _ h1) (Dq.sameKv e ds h2)
end
end GL

set_option Elab.async false
set_option linter.all false
set_option maxRecDepth 100000
set_option maxHeartbeats 2000000
namespace GL
open PySem PySem.Spec PyProof.Rows L2
/-! values as data: what never changes once it is made -/
inductive Da where
  | non | bl (b : Bool) | int (i : Int) | str (x : Str) | ty (n : String) | obj (a : Addr)
  | lst (xs : List Da) | tup (xs : List Da) | dct (ks : List Key) (ds : List Da)
  | ins (C : Addr) (ns : List Str) (ds : List Da) | exc (C : Addr) (ns : List Str) (ds : List Da)
mutual
inductive DR (K : PySem.W.Frag) (H : Hp) : V → Da → Prop
  | non : DR K H .non .non
  | bl (b : Bool) : DR K H (.bl b) (.bl b)
  | int (i : Int) : DR K H (.int i) (.int i)
  | str (x : Str) : DR K H (.str x) (.str x)
  | ty (n : String) : DR K H (.ty n) (.ty n)
  | obj (a : Addr) : DR K H (.ref a) (.obj a)
  | lst {a : Addr} {xs : List V} {ds : List Da} : H a = some (.lst xs) → DRs K H xs ds → DR K H (.ref a) (.lst ds)
  | tup {a : Addr} {xs : List V} {ds : List Da} : H a = some (.tup xs) → DRs K H xs ds → DR K H (.ref a) (.tup ds)
  | dct {a : Addr} {ks : List Key} {vs : List V} {ds : List Da} : H a = some (.dK (ks.zip vs)) → ks.length = vs.length → DRs K H vs ds → DR K H (.ref a) (.dct ks ds)
  | ins {a C dx : Addr} {ns : List Str} {vs : List V} {ds : List Da} : H a = some (.ins C dx (ns.zip vs)) → ns.length = vs.length → DRs K H vs ds → DR K H (.ref a) (.ins C ns ds)
  | exc {a C dx : Addr} {ns : List Str} {vs : List V} {ds : List Da} : H a = some (exo a C (some dx)) → H dx = some (exd dx (ns.zip vs)) → ns.length = vs.length → DRs K H vs ds → DR K H (.ref a) (.exc C ns ds)
  | exc0 {a C : Addr} : H a = some (exo a C none) → DR K H (.ref a) (.exc C [] [])
inductive DRs (K : PySem.W.Frag) (H : Hp) : List V → List Da → Prop
  | nil : DRs K H [] []
  | cons {v : V} {vs : List V} {d : Da} {ds : List Da} : DR K H v d → DRs K H vs ds → DRs K H (v :: vs) (d :: ds)
end
section
variable {K : PySem.W.Frag} {H H' : Hp}
mutual
theorem DR.same (e : Same H H') : ∀ (d : Da) {v : V}, DR K H v d → DR K H' v d
  | .non, _, h => by cases h; exact .non
  | .bl b, _, h => by cases h; exact .bl b
  | .int i, _, h => by cases h; exact .int i
  | .str x, _, h => by cases h; exact .str x
  | .ty n, _, h => by cases h; exact .ty n
  | .obj a, _, h => by cases h; exact .obj a
  | .lst ds, _, h => by cases h with | lst h1 h2 => exact .lst (e _ _ h1) (DRs.same e ds h2)
  | .tup ds, _, h => by cases h with | tup h1 h2 => exact .tup (e _ _ h1) (DRs.same e ds h2)
  | .dct ks ds, _, h => by cases h with | dct h1 h2 h3 => exact .dct (e _ _ h1) h2 (DRs.same e ds h3)
  | .ins C ns ds, _, h => by cases h with | ins h1 h2 h3 => exact .ins (e _ _ h1) h2 (DRs.same e ds h3)
  | .exc C ns ds, _, h => by
    cases h with
    | exc h1 h2 h3 h4 => exact .exc (e _ _ h1) (e _ _ h2) h3 (DRs.same e ds h4)
    | exc0 h1 => exact .exc0 (e _ _ h1)
theorem DRs.same (e : Same H H') : ∀ (ds : List Da) {vs : List V}, DRs K H vs ds → DRs K H' vs ds
  | [], _, h => by cases h; exact .nil
  | d :: ds, _, h => by cases h with | cons h1 h2 => exact .cons (DR.same e d h1) (DRs.same e ds h2)
end
theorem DR.up {v : V} {d : Da} (h : DR K H v d) (e : Same H H') : DR K H' v d := DR.same e d h
theorem DRs.up {vs : List V} {ds : List Da} (h : DRs K H vs ds) (e : Same H H') : DRs K H' vs ds := DRs.same e ds h
theorem DRs.len : ∀ {vs : List V} {ds : List Da}, DRs K H vs ds → vs.length = ds.length
  | _, [], h => by cases h; rfl
  | _, d :: ds, h => by cases h with | cons h1 h2 => simp [DRs.len h2]
theorem DRs.get : ∀ {vs : List V} {ds : List Da} {i : Nat} {v : V}, DRs K H vs ds → vs[i]? = some v → ∃ d, ds[i]? = some d ∧ DR K H v d
  | _, [], i, v, h, e => by cases h; simp at e
  | _, d :: ds, 0, v, h, e => by cases h with | cons h1 h2 => simp at e; subst e; exact ⟨d, rfl, h1⟩
  | _, d :: ds, i + 1, v, h, e => by
    cases h with
    | cons h1 h2 => exact DRs.get (i := i) h2 (by simpa using e)
theorem DRs.getD : ∀ {vs : List V} {ds : List Da} {i : Nat} {d : Da}, DRs K H vs ds → ds[i]? = some d → ∃ v, vs[i]? = some v ∧ DR K H v d
  | _, [], i, v, h, e => by simp at e
  | _, d :: ds, 0, v, h, e => by cases h with | cons h1 h2 => simp at e; subst e; exact ⟨_, rfl, h1⟩
  | _, d :: ds, i + 1, v, h, e => by
    cases h with
    | cons h1 h2 => exact DRs.getD (i := i) h2 (by simpa using e)
theorem DRs.app : ∀ {vs ws : List V} {ds es : List Da}, DRs K H vs ds → DRs K H ws es → DRs K H (vs ++ ws) (ds ++ es)
  | _, _, [], _, h, k => by cases h; exact k
  | _, _, d :: ds, _, h, k => by cases h with | cons h1 h2 => exact .cons h1 (DRs.app h2 k)
end
/-! the same without objects -/
mutual
def Da.toP : Da → Option PyData
  | .non => some .none
  | .bl b => some (.bool b)
  | .int i => some (.int i)
  | .str x => some (.str x)
  | .lst xs => (Da.toPs xs).map .list
  | .tup xs => (Da.toPs xs).map .tuple
  | .dct ks ds => (Da.toPs ds).map fun ps => .dict ((ks.map kD).zip ps)
  | .ty _ | .obj _ | .ins _ _ _ | .exc _ _ _ => none
def Da.toPs : List Da → Option (List PyData)
  | [] => some []
  | d :: ds => (Da.toP d).bind fun p => (Da.toPs ds).map (p :: ·)
end
section
variable {K : PySem.W.Frag} {H : Hp}
theorem kv_of : ∀ (ks : List Key) {vs : List V} {ps : List PyData}, ks.length = vs.length → DqAll K H vs ps → DqKv K H (ks.zip vs) ((ks.map kD).zip ps)
  | [], _, _, e, h => by cases h <;> simp_all <;> exact .nil
  | k :: ks, vs, ps, e, h => by
    cases h with
    | nil => simp at e
    | cons h1 h2 => exact .cons h1 (kv_of ks (by simpa using e) h2)
mutual
theorem DR.dq : ∀ (d : Da) {v : V} {p : PyData}, DR K H v d → d.toP = some p → Dq K H v p
  | .non, _, _, h, e => by cases h; simp only [Da.toP] at e; cases e; exact .non
  | .bl b, _, _, h, e => by cases h; simp only [Da.toP] at e; cases e; exact .bl b
  | .int i, _, _, h, e => by cases h; simp only [Da.toP] at e; cases e; exact .int i
  | .str x, _, _, h, e => by cases h; simp only [Da.toP] at e; cases e; exact .str x
  | .ty n, _, _, h, e => by simp only [Da.toP] at e; cases e
  | .obj a, _, _, h, e => by simp only [Da.toP] at e; cases e
  | .ins C ns ds, _, _, h, e => by simp only [Da.toP] at e; cases e
  | .exc C ns ds, _, _, h, e => by simp only [Da.toP] at e; cases e
  | .lst ds, _, _, h, e => by
    simp only [Da.toP] at e
    obtain ⟨ps, e1, rfl⟩ := Option.map_eq_some_iff.mp e
    cases h with | lst h1 h2 => exact .lst (SqL.of h1) (DRs.dq ds h2 e1)
  | .tup ds, _, _, h, e => by
    simp only [Da.toP] at e
    obtain ⟨ps, e1, rfl⟩ := Option.map_eq_some_iff.mp e
    cases h with | tup h1 h2 => exact .tup (SqT.of h1) (DRs.dq ds h2 e1)
  | .dct ks ds, _, _, h, e => by
    simp only [Da.toP] at e
    obtain ⟨ps, e1, rfl⟩ := Option.map_eq_some_iff.mp e
    cases h with | dct h1 h2 h3 => exact .dct (.inl h1) (kv_of ks h2 (DRs.dq ds h3 e1))
theorem DRs.dq : ∀ (ds : List Da) {vs : List V} {ps : List PyData}, DRs K H vs ds → Da.toPs ds = some ps → DqAll K H vs ps
  | [], _, _, h, e => by cases h; simp only [Da.toPs] at e; cases e; exact .nil
  | d :: ds, _, _, h, e => by
    simp only [Da.toPs] at e
    obtain ⟨p, e1, e2⟩ := Option.bind_eq_some_iff.mp e
    obtain ⟨ps, e3, rfl⟩ := Option.map_eq_some_iff.mp e2
    cases h with | cons h1 h2 => exact .cons (DR.dq d h1 e1) (DRs.dq ds h2 e3)
end
-- data without dicts
mutual
theorem dp_of : ∀ (p : PyData) {v : V}, Dq K H v p → p.hasDict = false → Dp K H v p
  | .none, _, h, _ => by cases h; exact .non
  | .bool b, _, h, _ => by cases h; exact .bl b
  | .int i, _, h, _ => by cases h; exact .int i
  | .str x, _, h, _ => by cases h; exact .str x
  | .list ds, _, h, e => by cases h with | lst h1 h2 => exact .lst h1 (dps_of ds h2 (by simpa [PyData.hasDict] using e))
  | .tuple ds, _, h, e => by cases h with | tup h1 h2 => exact .tup h1 (dps_of ds h2 (by simpa [PyData.hasDict] using e))
  | .dict ds, _, h, e => by simp [PyData.hasDict] at e
theorem dps_of : ∀ (ps : List PyData) {vs : List V}, DqAll K H vs ps → PyData.hasDictAll ps = false → DpAll K H vs ps
  | [], _, h, _ => by cases h; exact .nil
  | d :: ds, _, h, e => by
    simp only [PyData.hasDictAll, Bool.or_eq_false_iff] at e
    cases h with | cons h1 h2 => exact .cons (dp_of d h1 e.1) (dps_of ds h2 e.2)
end
end
end GL

set_option Elab.async false
set_option linter.all false
set_option maxRecDepth 100000
set_option maxHeartbeats 2000000
namespace GL
open PySem PySem.Spec PyProof.Rows L2
/-! A heap in two parts: G holds the data that is spoken of, H (all of it) may hold more, which may change behind the data's back.
Nw G H G' H': from (G, H) to (G', H'); all stays, new data may have come, and it leans on nothing that H held beyond G -/
structure Nw (G H G' H' : Hp) : Prop where
  s : Same H H'
  a : Same G G'
  b : Same G' H'
  n : ∀ p o, H p = some o → G p = none → G' p = none
theorem Nw.refl {G H : Hp} (h : Same G H) : Nw G H G H := ⟨Same.refl H, Same.refl G, h, fun _ _ _ z => z⟩
theorem Nw.trans {G H G' H' G2 H2 : Hp} (x : Nw G H G' H') (y : Nw G' H' G2 H2) : Nw G H G2 H2 := ⟨x.s.trans y.s, x.a.trans y.a, y.b, fun p o e z => y.n p o (x.s p o e) (x.n p o e z)⟩
theorem same_upd {H H' : Hp} {p : Addr} {o : HO} (e : Same H H') (h : H p = none) : Same H (upd H' p o) := fun a u z => by
  rw [upd_ne (ne_of_none z h)]
  exact e a u z
theorem Nw.new {G H : Hp} {p : Addr} {o : HO} (h : Same G H) (hp : H p = none) : Nw G H (upd G p o) (upd H p o) := by
  have hg : G p = none := h.free hp
  refine ⟨same_upd (Same.refl H) hp, same_upd (Same.refl G) hg, fun b u e => ?_, fun b u e z => ?_⟩
  · by_cases q : b = p
    · subst q; rw [upd_same] at e ⊢; exact e
    · rw [upd_ne q] at e ⊢; exact h b u e
  · rw [upd_ne (ne_of_none e hp)]; exact z
/-! what an expression gives, as data -/
def Evd (K : PySem.W.Frag) (te : TE) (σ : L2.St) (G : Hp) (d : Da) : Prop := ∀ H, Same G H → ∀ Q : VK, (∀ v G' H', Nw G H G' H' → DR K G' v d → Q v H') → te σ H Q
def Evs (K : PySem.W.Frag) (ta : TA) (σ : L2.St) (G : Hp) (ds : List Da) : Prop := ∀ H, Same G H → ∀ Q : List V → Hp → Prop, (∀ vs G' H', Nw G H G' H' → DRs K G' vs ds → Q vs H') → ta σ H Q
def Evt (tt : TT) (σ : L2.St) (G : Hp) (b : Bool) : Prop := ∀ H, Same G H → ∀ Q : Bool → Hp → Prop, (∀ G' H', Nw G H G' H' → Q b H') → tt σ H Q
section
variable {K : PySem.W.Frag} {σ : L2.St} {G H : Hp} {te ta tb : TE} {tA tB' : TA} {t u : TT} {d d1 d2 : Da} {ds es : List Da} {b : Bool}
theorem ed_var {i : Nat} {v : V} (h : σ[i]? = some (some v)) (r : DR K G v d) : Evd K (tVar i) σ G d := fun H e Q q => ⟨v, h, q v G H (Nw.refl e) r⟩
theorem ed_c {v : V} (r : ∀ H', DR K H' v d) : Evd K (tC v) σ G d := fun H e Q q => q v G H (Nw.refl e) (r G)
theorem es_nil : Evs K tNil σ G [] := fun H e Q q => q [] G H (Nw.refl e) .nil
theorem es_cons (h : Evd K te σ G d) (hr : ∀ G', Same G G' → Evs K tA σ G' ds) : Evs K (tCons te tA) σ G (d :: ds) := fun H e Q q =>
  h H e _ fun v G1 H1 n1 dv => hr G1 n1.a H1 n1.b _ fun vs G2 H2 n2 dvs => q (v :: vs) G2 H2 (n1.trans n2) (.cons (dv.up n2.a) dvs)
theorem sizeK {n : Nat} (h : n ≤ 1000) : n ≤ sizeLine := Nat.le_trans h (by decide)
theorem ed_tup (h : Evs K tA σ G ds) (hl : ds.length ≤ 1000 := by decide) : Evd K (tTup tA) σ G (.tup ds) := fun H e Q q => h H e _ fun vs G1 H1 n1 dvs =>
  ⟨by rw [dvs.len]; exact sizeK hl, fun p hp => let n2 := Nw.new (o := .tup vs) n1.b hp; q (.ref p) _ _ (n1.trans n2) (.tup upd_same (dvs.up n2.a))⟩
theorem ed_lst (h : Evs K tA σ G ds) (hl : ds.length ≤ 1000 := by decide) : Evd K (tLst tA) σ G (.lst ds) := fun H e Q q => h H e _ fun vs G1 H1 n1 dvs =>
  ⟨by rw [dvs.len]; exact sizeK hl, fun p hp => let n2 := Nw.new (o := .lst vs) n1.b hp; q (.ref p) _ _ (n1.trans n2) (.lst upd_same (dvs.up n2.a))⟩
/-- two operands, one behind the other -/
theorem ed_two {r : R2} (ha : Evd K ta σ G d1) (hb : ∀ G', Same G G' → Evd K tb σ G' d2)
    (hr : ∀ x y G' H', Same G G' → Same G' H' → DR K G' x d1 → DR K G' y d2 → ∀ Q : VK, (∀ v G2 H2, Nw G' H' G2 H2 → DR K G2 v d → Q v H2) → r x y H' Q) : Evd K (tOp r ta tb) σ G d := fun H e Q q =>
  ha H e _ fun v G1 H1 n1 dv => hb G1 n1.a H1 n1.b _ fun w G2 H2 n2 dw => hr v w G2 H2 (n1.a.trans n2.a) n2.b (dv.up n2.a) dw Q fun z G3 H3 n3 dz => q z G3 H3 ((n1.trans n2).trans n3) dz
/-- list + list -/
theorem ed_cat (ha : Evd K ta σ G (.lst ds)) (hb : ∀ G', Same G G' → Evd K tb σ G' (.lst es)) (hl : ds.length + es.length ≤ 1000 := by decide) : Evd K (tOp rCat ta tb) σ G (.lst (ds ++ es)) :=
  ed_two ha hb fun x y G' H' _ e dx dy Q q => by
    cases dx with
    | @lst _ xs _ h1 h2 =>
      cases dy with
      | @lst _ zs _ k1 k2 =>
        refine ⟨_, _, _, _, rfl, rfl, e _ _ h1, e _ _ k1, by rw [h2.len, k2.len]; exact sizeK hl, fun p hp => ?_⟩
        have n := Nw.new (o := .lst (xs ++ zs)) e hp
        exact q (.ref p) _ _ n (.lst upd_same (DRs.app (h2.up n.a) (k2.up n.a)))
/-- a def whose value is a function of its arguments' data -/
def Pd (K : PySem.W.Frag) (n : Nat) (g : List Da → Option Da) : Sp := fun vs H Q _ => ∃ G ds d, Same G H ∧ ds.length = n ∧ DRs K G vs ds ∧ g ds = some d ∧ ∀ v G' H', Nw G H G' H' → DR K G' v d → Q v H'
theorem Pd.len {n : Nat} {g : List Da → Option Da} (vs : List V) (H : Hp) (Q : VK) (E : XK) (h : Pd K n g vs H Q E) : vs.length = n := by
  obtain ⟨_, ds, d, _, hl, r, _⟩ := h
  rw [r.len, hl]
theorem ed_call {n : Nat} {g : List Da → Option Da} {E : XK} (h : Evs K tA σ G ds) (hl : ds.length = n) (hg : g ds = some d) : Evd K (tCall (Pd K n g) [] E tA) σ G d := fun H e Q q =>
  h H e _ fun vs G1 H1 n1 dvs => ⟨G1, ds, d, n1.b, hl, by rw [List.append_nil]; exact dvs, hg, fun v G2 H2 n2 dv => q v G2 H2 (n1.trans n2) dv⟩
/-- e.f of an error -/
theorem ed_ofl {C : Addr} {ns : List Str} {f : Str} (h : Evd K te σ G (.exc C ns ds)) (T : OGet K C) (no : PySem.W.findIn K (.ref C) f = some none) (hl : ∀ vs : List V, ns.length = vs.length → ∃ i : Nat, ds[i]? = some d ∧ List.lookup f (ns.zip vs) = vs[i]?) :
    Evd K (tOfl K f te) σ G d := fun H e Q q => h H e _ fun v G1 H1 n1 dv => by
  cases dv with
  | @exc a _ dx _ vs _ h1 h2 h3 h4 =>
    obtain ⟨i, e1, e3⟩ := hl vs h3
    obtain ⟨w, e4, e5⟩ := h4.getD e1
    exact ⟨a, C, dx, _, w, rfl, T, no, n1.b _ _ h1, n1.b _ _ h2, e3.trans e4, q w G1 H1 n1 e5⟩
  | exc0 h1 =>
    obtain ⟨i, e1, _⟩ := hl [] rfl
    simp at e1
/-- isinstance(e, c) of an error -/
theorem ed_isO {C : Addr} {ns : List Str} {c : Da} {cv : Value} (h : Evd K te σ G (.exc C ns ds)) (hc : ∀ G', Same G G' → Evd K ta σ G' c) (T : OGet K C) (kc : ∀ H' v, DR K H' v c → ClsV v cv) (hk : PySem.W.kitOne K (.ref C) cv = some b) :
    Evd K (tCB (rIsO K) (tCons te (tCons ta tNil))) σ G (.bl b) := fun H e Q q => h H e _ fun v G1 H1 n1 dv => hc G1 n1.a H1 n1.b _ fun w G2 H2 n2 dw => by
  have dv := dv.up n2.a
  have go : ∀ a dd, v = .ref a → H2 a = some (exo a C dd) → (∀ dx, dd = some dx → ∃ fs, H2 dx = some (exd dx fs)) → rIsO K [v, w] H2 Q := fun a dd ev h1 h2 => by
    subst ev
    exact ⟨a, C, dd, w, cv, b, rfl, kc G2 w dw, T, h1, h2, hk, q _ G2 H2 (n1.trans n2) (.bl b)⟩
  cases dv with
  | exc h1 h2 h3 h4 => exact go _ _ rfl (n2.b _ _ h1) fun dx z => by cases z; exact ⟨_, n2.b _ _ h2⟩
  | exc0 h1 => exact go _ _ rfl (n2.b _ _ h1) fun dx z => by cases z
theorem cls_obj {D : Addr} : ∀ (H' : Hp) v, DR K H' v (.obj D) → ClsV v (.ref D) := fun _ _ h => by cases h; exact .own D
theorem cls_ty {n : String} : ∀ (H' : Hp) v, DR K H' v (.ty n) → ClsV v (.type n) := fun _ _ h => by cases h; exact .ty n
/-- repr(e) -/
theorem ed_repr {p : PyData} (h : Evd K te σ G d) (hp : d.toP = some p) (hs : p.showable = true) (hl : p.shown.length ≤ sizeLine) (hd : p.depth ≤ 60) : Evd K (tCB (rRepr K) (tCons te tNil)) σ G (.str p.shown) := fun H e Q q =>
  h H e _ fun v G1 H1 n1 dv => ⟨v, p, rfl, DR.dq d (dv.up n1.b) hp, hs, hl, hd, q _ G1 H1 n1 (.str _)⟩
/-- a if t else b -/
theorem ed_if (h : Evt t σ G b) (h1 : b = true → ∀ G', Same G G' → Evd K ta σ G' d) (h2 : b = false → ∀ G', Same G G' → Evd K tb σ G' d) : Evd K (tIf t ta tb) σ G d := fun H e Q q => h H e _ fun G1 H1 n1 => by
  cases b with
  | true => exact h1 rfl G1 n1.a H1 n1.b Q fun v G2 H2 n2 dv => q v G2 H2 (n1.trans n2) dv
  | false => exact h2 rfl G1 n1.a H1 n1.b Q fun v G2 H2 n2 dv => q v G2 H2 (n1.trans n2) dv
/-- == and != of data without dicts -/
theorem ed_eq {p q : PyData} (ha : Evd K ta σ G d1) (hb : ∀ G', Same G G' → Evd K tb σ G' d2) (h1 : d1.toP = some p) (h2 : d2.toP = some q) (n1 : p.hasDict = false) (n2 : q.hasDict = false) (s1 : SeqAt.shaped p = true) (s2 : SeqAt.shaped q = true) (hz : PyData.eqv p q = b) :
    Evd K (tOp (rEqD K) ta tb) σ G (.bl b) := ed_two ha hb fun x y G' H' _ e dx dy Q k =>
  ⟨p, q, dp_of p (DR.dq d1 (dx.up e) h1) n1, dp_of q (DR.dq d2 (dy.up e) h2) n2, s1, s2, by rw [hz]; exact k _ G' H' (Nw.refl e) (.bl b)⟩
theorem ed_ne {p q : PyData} (ha : Evd K ta σ G d1) (hb : ∀ G', Same G G' → Evd K tb σ G' d2) (h1 : d1.toP = some p) (h2 : d2.toP = some q) (n1 : p.hasDict = false) (n2 : q.hasDict = false) (s1 : SeqAt.shaped p = true) (s2 : SeqAt.shaped q = true) (hz : (!PyData.eqv p q) = b) :
    Evd K (tOp (rNeD K) ta tb) σ G (.bl b) := ed_two ha hb fun x y G' H' _ e dx dy Q k =>
  ⟨p, q, dp_of p (DR.dq d1 (dx.up e) h1) n1, dp_of q (DR.dq d2 (dy.up e) h2) n2, s1, s2, by rw [hz]; exact k _ G' H' (Nw.refl e) (.bl b)⟩
/-- texts -/
theorem ed_eqs {x y : Str} (ha : Evd K ta σ G (.str x)) (hb : ∀ G', Same G G' → Evd K tb σ G' (.str y)) (hz : decide (x = y) = b) : Evd K (tOp rEq ta tb) σ G (.bl b) := ed_two ha hb fun v w G' H' _ e dv dw Q k => by
  cases dv; cases dw
  have z : decide (V.str x = V.str y) = b := by rw [← hz]; simp
  exact ⟨rfl, by rw [z]; exact k _ G' H' (Nw.refl e) (.bl b)⟩
theorem ed_nes {x y : Str} (ha : Evd K ta σ G (.str x)) (hb : ∀ G', Same G G' → Evd K tb σ G' (.str y)) (hz : (!decide (x = y)) = b) : Evd K (tOp rNe ta tb) σ G (.bl b) := ed_two ha hb fun v w G' H' _ e dv dw Q k => by
  cases dv; cases dw
  have z : (!decide (V.str x = V.str y)) = b := by rw [← hz]; simp
  exact ⟨rfl, by rw [z]; exact k _ G' H' (Nw.refl e) (.bl b)⟩
/-! tests -/
theorem et_of (h : Evd K te σ G (.bl b)) : Evt (tTest te) σ G b := fun H e Q q => h H e _ fun v G1 H1 n1 dv => by
  cases dv
  exact ⟨b, rfl, q G1 H1 n1⟩
theorem et_B (h : Evd K te σ G (.bl b)) : Evt (L2.tB te) σ G b := fun H e Q q => h H e _ fun v G1 H1 n1 dv => by
  cases dv
  exact ⟨b, rfl, q G1 H1 n1⟩
theorem et_not (h : Evt t σ G b) : Evt (tNot t) σ G (!b) := fun H e Q q => h H e _ fun G1 H1 n1 => q G1 H1 n1
theorem et_or {c : Bool} (h : Evt t σ G b) (h2 : b = false → ∀ G', Same G G' → Evt u σ G' c) : Evt (tOr t u) σ G (b || c) := fun H e Q q => h H e _ fun G1 H1 n1 => by
  cases b with
  | true => exact q G1 H1 n1
  | false => exact h2 rfl G1 n1.a H1 n1.b Q fun G2 H2 n2 => q G2 H2 (n1.trans n2)
theorem et_and {c : Bool} (h : Evt t σ G b) (h2 : b = true → ∀ G', Same G G' → Evt u σ G' c) : Evt (tAnd t u) σ G (b && c) := fun H e Q q => h H e _ fun G1 H1 n1 => by
  cases b with
  | false => exact q G1 H1 n1
  | true => exact h2 rfl G1 n1.a H1 n1.b Q fun G2 H2 n2 => q G2 H2 (n1.trans n2)
theorem et_is {c : Bool} (h : Evt t σ G b) (e : b = c) : Evt t σ G c := e ▸ h
theorem ed_is (h : Evd K te σ G d) (e : d = d1) : Evd K te σ G d1 := e ▸ h
/-! truth values by and -/
theorem ed_andV {c : Bool} (h : Evd K ta σ G (.bl b)) (h2 : b = true → ∀ G', Same G G' → Evd K tb σ G' (.bl c)) : Evd K (tAndV ta tb) σ G (.bl (b && c)) := fun H e Q q => h H e _ fun v G1 H1 n1 dv => by
  cases dv
  refine ⟨b, rfl, ?_⟩
  cases b with
  | false => exact q _ G1 H1 n1 (.bl false)
  | true => exact h2 rfl G1 n1.a H1 n1.b Q fun w G2 H2 n2 dw => q w G2 H2 (n1.trans n2) dw
/-! statements -/
variable {D : Ends} {ts tz : TS}
theorem sd_asg {i : Nat} (s : Same G H) (h : Evd K te σ G d) (k : ∀ v G1 H1, Nw G H G1 H1 → DR K G1 v d → D.nx (σ.set i (some v)) H1) : tAsg te (gName i) D σ H := h H s _ fun v G1 H1 e dv => k v G1 H1 e dv
theorem qd_asg {i : Nat} (s : Same G H) (h : Evd K te σ G d) (k : ∀ v G1 H1, Nw G H G1 H1 → DR K G1 v d → tz D (σ.set i (some v)) H1) : tSeq (tAsg te (gName i)) tz D σ H := h H s _ fun v G1 H1 e dv => k v G1 H1 e dv
theorem sd_ret (s : Same G H) (h : Evd K te σ G d) (k : ∀ v G1 H1, Nw G H G1 H1 → DR K G1 v d → D.rt v H1) : tRet te D σ H := h H s _ k
theorem qd_if {tu tw : TS} (s : Same G H) (h : Evt t σ G b) (h1 : b = true → ∀ G1 H1, Nw G H G1 H1 → tu { D with nx := tz D } σ H1) (h2 : b = false → ∀ G1 H1, Nw G H G1 H1 → tw { D with nx := tz D } σ H1) : tSeq (tIfS t tu tw) tz D σ H := h H s _ fun G1 H1 e => by
  cases b with
  | true => exact h1 rfl G1 H1 e
  | false => exact h2 rfl G1 H1 e
theorem sd_if {tu tw : TS} (s : Same G H) (h : Evt t σ G b) (h1 : b = true → ∀ G1 H1, Nw G H G1 H1 → tu D σ H1) (h2 : b = false → ∀ G1 H1, Nw G H G1 H1 → tw D σ H1) : tIfS t tu tw D σ H := h H s _ fun G1 H1 e => by
  cases b with
  | true => exact h1 rfl G1 H1 e
  | false => exact h2 rfl G1 H1 e
end
/-! a new error -/
/-- the promise of an own error's __init__: it keeps its arguments' data in the fields ns (the newest first), by g -/
def Pi (K : PySem.W.Frag) (C : Addr) (n : Nat) (ns : List Str) (g : List Da → Option (List Da)) : Sp := fun vs H Q _ => ∃ G a ws ds es, vs = .ref a :: ws ∧ ds.length = n ∧ Same G H ∧ G a = none ∧ H a = some (exo a C none) ∧ DRs K G ws ds ∧ g ds = some es ∧
  ∀ G' H', (∀ b o, b ≠ a → H b = some o → H' b = some o) → Same G G' → Same G' H' → (∀ b o, b ≠ a → H b = some o → G b = none → G' b = none) → DR K G' (.ref a) (.exc C ns es) → Q .non H'
section
variable {K : PySem.W.Frag} {σ : L2.St} {G : Hp} {tA tk : TA} {C : Addr} {n : Nat} {ns : List Str} {g : List Da → Option (List Da)} {ds zs es : List Da} {E : XK}
theorem Pi.len (vs : List V) (H : Hp) (Q : VK) (E : XK) (h : Pi K C n ns g vs H Q E) : vs.length = n + 1 := by
  obtain ⟨_, a, ws, ds, es, rfl, hl, _, _, _, r, _⟩ := h
  rw [List.length_cons, r.len, hl]
theorem ed_oex {m k : Nat} {gV : List V → List V → List V} (h : Evs K tA σ G ds) (hk : ∀ G', Same G G' → Evs K tk σ G' zs) (hm : ds.length = m) (hz : zs.length = k) (order : List Da) (ho : order.length = n)
    (hg : ∀ (a : Addr) (H' : Hp) (vs ws : List V), DRs K H' vs ds → DRs K H' ws zs → ∃ us, gV (.ref a :: vs) ws = .ref a :: us ∧ DRs K H' us order) (hq : g order = some es) :
    Evd K (tOex C m k (Pi K C n ns g) gV E tA tk) σ G (.exc C ns es) := fun H e Q q => h H e _ fun vs G1 H1 n1 dvs => hk G1 n1.a H1 n1.b _ fun ws G2 H2 n2 dws =>
  ⟨by rw [dvs.len]; exact hm, by rw [dws.len]; exact hz, fun a ha => by
    obtain ⟨us, e4, r⟩ := hg a G2 vs ws (dvs.up n2.a) dws
    rw [e4]
    have hga : G2 a = none := n2.b.free ha
    refine ⟨G2, a, us, order, es, rfl, ho, same_upd n2.b hga, hga, upd_same, r, hq, fun G' H' k1 k2 k3 k4 dd => ⟨rfl, q _ G' H' ((n1.trans n2).trans ⟨fun b o z => k1 b o (ne_of_none z ha) ?_, k2, k3, fun b o z w => k4 b o (ne_of_none z ha) ?_ w⟩) dd⟩⟩
    all_goals (rw [upd_ne (ne_of_none z ha)]; exact z)⟩
theorem ed_exc0 : Evd K (fun _ H Q => ∀ a, H a = none → Q (.ref a) (upd H a (exo a C none))) σ G (.exc C [] []) := fun H e Q q a ha => q _ _ _ (Nw.new e ha) (.exc0 upd_same)
end
end GL

set_option Elab.async false
set_option linter.all false
set_option maxRecDepth 100000
set_option maxHeartbeats 2000000
namespace GL
open PySem PySem.Spec PyProof.Rows L2
section
variable {K : PySem.W.Frag} {σ : L2.St} {G : Hp} {te ta tl : TE} {tt : TT} {d : Da} {ds : List Da} {g : TG} {vs : List Nat}
/-- a comprehension over a list of data -/
theorem ed_lc (p : Da → Bool) (f : Da → Da) (h : Evd K tl σ G (.lst ds)) (hz : ds.length ≤ 1000)
    (hs : ∀ x d G' H', Same G G' → Same G' H' → d ∈ ds → DR K G' x d → ∃ σ2, (∀ k : L2.St → Hp → Prop, k σ2 H' → g x (wipe σ vs) H' k) ∧ wipe σ2 vs = wipe σ vs ∧ Evt tt σ2 G' (p d) ∧ (p d = true → ∀ G2, Same G' G2 → Evd K te σ2 G2 (f d))) :
    Evd K (tLc (iList K tl) g tt te vs) σ G (.lst ((ds.filter p).map f)) := fun H e Q q => h H e _ fun v G1 H1 n1 dv => by
  cases dv with
  | @lst a xs _ h1 h2 =>
    refine ⟨a, rfl, ⟨xs, SqL.of (n1.b _ _ h1)⟩, fun D hD => ?_⟩
    have gD : G1 D = none := n1.b.free hD
    have lx := h2.len
    refine lc_list (K := K) (a := a) (xs := xs) (fun i H' => ∃ G' acc, Same H1 H' ∧ Same G1 G' ∧ Same G' H' ∧ G' D = none ∧ (∀ b o, H1 b = some o → G1 b = none → G' b = none) ∧ H' D = some (.lst acc) ∧ DRs K G' acc (((ds.take i).filter p).map f))
      ⟨G1, [], same_upd (Same.refl _) hD, Same.refl _, same_upd n1.b gD, gD, fun _ _ _ z => z, upd_same, by simpa using DRs.nil⟩ (fun i H' _ ⟨G', acc, s1, s2, s3, _⟩ => SqL.of (s3 _ _ (s2 _ _ h1))) ?_ ?_
    · rintro i x H' hi ⟨G', acc, s1, s2, s3, gd, nn, hd, dr⟩
      obtain ⟨d, hdi, dx⟩ := h2.get hi
      have hmem : d ∈ ds := List.mem_of_getElem? hdi
      have lacc : acc.length ≤ 1000 := by
        rw [dr.len, List.length_map]
        exact Nat.le_trans (Nat.le_trans (List.length_filter_le _ _) (by rw [List.length_take]; omega)) hz
      have step : (ds.take (i + 1)).filter p = (ds.take i).filter p ++ (if p d = true then [d] else []) := by
        rw [List.take_succ, hdi, List.filter_append]
        by_cases hp : p d = true
        · simp [hp]
        · simp [hp]
      obtain ⟨σ2, k1, k2, k3, k4⟩ := hs x d G' H' (n1.a.trans s2) s3 hmem (dx.up s2)
      refine k1 _ ⟨k2, k3 H' s3 _ fun G2 H2 n2 => ?_⟩
      have gd2 : G2 D = none := n2.n _ _ hd gd
      cases hp : p d with
      | true =>
        show te σ2 H2 _
        refine k4 hp G2 n2.a H2 n2.b _ fun y G3 H3 n3 dy => ⟨acc, n3.s _ _ (n2.s _ _ hd), small1000 lacc, G3, acc ++ [y], same_upd ((s1.trans n2.s).trans n3.s) hD, (s2.trans n2.a).trans n3.a, same_upd n3.b (n3.n _ _ (n2.s _ _ hd) gd2), n3.n _ _ (n2.s _ _ hd) gd2, fun b o z w => ?_, upd_same, ?_⟩
        · exact n3.n _ _ (n2.s _ _ (s1 _ _ z)) (n2.n _ _ (s1 _ _ z) (nn _ _ z w))
        · rw [step, if_pos hp, List.map_append]
          exact DRs.app ((dr.up n2.a).up n3.a) (.cons dy .nil)
      | false =>
        show ∃ G' acc, _
        refine ⟨G2, acc, s1.trans n2.s, s2.trans n2.a, n2.b, gd2, fun b o z w => n2.n _ _ (s1 _ _ z) (nn _ _ z w), n2.s _ _ hd, ?_⟩
        rw [step, if_neg (by rw [hp]; exact Bool.false_ne_true), List.append_nil]
        exact dr.up n2.a
    · rintro H' ⟨G', acc, s1, s2, s3, gd, nn, hd, dr⟩
      rw [lx, List.take_length] at dr
      have up1 : Same G' (upd G' D (.lst acc)) := same_upd (Same.refl _) gd
      refine q (.ref D) (upd G' D (.lst acc)) H' (n1.trans ⟨s1, s2.trans up1, fun b o z => ?_, fun b o z w => ?_⟩) (.lst upd_same (dr.up up1))
      · by_cases hb : b = D
        · subst hb; rw [upd_same] at z; cases z; exact hd
        · rw [upd_ne hb] at z; exact s3 _ _ z
      · rw [upd_ne (ne_of_none z hD)]
        exact nn _ _ z w
/-- the same over a tuple -/
theorem ed_lcT (p : Da → Bool) (f : Da → Da) (h : Evd K tl σ G (.tup ds)) (hz : ds.length ≤ 1000)
    (hs : ∀ x d G' H', Same G G' → Same G' H' → d ∈ ds → DR K G' x d → ∃ σ2, (∀ k : L2.St → Hp → Prop, k σ2 H' → g x (wipe σ vs) H' k) ∧ wipe σ2 vs = wipe σ vs ∧ Evt tt σ2 G' (p d) ∧ (p d = true → ∀ G2, Same G' G2 → Evd K te σ2 G2 (f d))) :
    Evd K (tLc (iTup K tl) g tt te vs) σ G (.lst ((ds.filter p).map f)) := fun H e Q q => h H e _ fun v G1 H1 n1 dv => by
  cases dv with
  | @tup a xs _ h1 h2 =>
    refine ⟨a, rfl, ⟨xs, SqT.of (n1.b _ _ h1)⟩, fun D hD => ?_⟩
    have gD : G1 D = none := n1.b.free hD
    have lx := h2.len
    refine lc_tup (K := K) (a := a) (xs := xs) (fun i H' => ∃ G' acc, Same H1 H' ∧ Same G1 G' ∧ Same G' H' ∧ G' D = none ∧ (∀ b o, H1 b = some o → G1 b = none → G' b = none) ∧ H' D = some (.lst acc) ∧ DRs K G' acc (((ds.take i).filter p).map f))
      ⟨G1, [], same_upd (Same.refl _) hD, Same.refl _, same_upd n1.b gD, gD, fun _ _ _ z => z, upd_same, by simpa using DRs.nil⟩ (fun i H' _ ⟨G', acc, s1, s2, s3, _⟩ => SqT.of (s3 _ _ (s2 _ _ h1))) ?_ ?_
    · rintro i x H' hi ⟨G', acc, s1, s2, s3, gd, nn, hd, dr⟩
      obtain ⟨d, hdi, dx⟩ := h2.get hi
      have hmem : d ∈ ds := List.mem_of_getElem? hdi
      have lacc : acc.length ≤ 1000 := by
        rw [dr.len, List.length_map]
        exact Nat.le_trans (Nat.le_trans (List.length_filter_le _ _) (by rw [List.length_take]; omega)) hz
      have step : (ds.take (i + 1)).filter p = (ds.take i).filter p ++ (if p d = true then [d] else []) := by
        rw [List.take_succ, hdi, List.filter_append]
        by_cases hp : p d = true
        · simp [hp]
        · simp [hp]
      obtain ⟨σ2, k1, k2, k3, k4⟩ := hs x d G' H' (n1.a.trans s2) s3 hmem (dx.up s2)
      refine k1 _ ⟨k2, k3 H' s3 _ fun G2 H2 n2 => ?_⟩
      have gd2 : G2 D = none := n2.n _ _ hd gd
      cases hp : p d with
      | true =>
        show te σ2 H2 _
        refine k4 hp G2 n2.a H2 n2.b _ fun y G3 H3 n3 dy => ⟨acc, n3.s _ _ (n2.s _ _ hd), small1000 lacc, G3, acc ++ [y], same_upd ((s1.trans n2.s).trans n3.s) hD, (s2.trans n2.a).trans n3.a, same_upd n3.b (n3.n _ _ (n2.s _ _ hd) gd2), n3.n _ _ (n2.s _ _ hd) gd2, fun b o z w => ?_, upd_same, ?_⟩
        · exact n3.n _ _ (n2.s _ _ (s1 _ _ z)) (n2.n _ _ (s1 _ _ z) (nn _ _ z w))
        · rw [step, if_pos hp, List.map_append]
          exact DRs.app ((dr.up n2.a).up n3.a) (.cons dy .nil)
      | false =>
        show ∃ G' acc, _
        refine ⟨G2, acc, s1.trans n2.s, s2.trans n2.a, n2.b, gd2, fun b o z w => n2.n _ _ (s1 _ _ z) (nn _ _ z w), n2.s _ _ hd, ?_⟩
        rw [step, if_neg (by rw [hp]; exact Bool.false_ne_true), List.append_nil]
        exact dr.up n2.a
    · rintro H' ⟨G', acc, s1, s2, s3, gd, nn, hd, dr⟩
      rw [lx, List.take_length] at dr
      have up1 : Same G' (upd G' D (.lst acc)) := same_upd (Same.refl _) gd
      refine q (.ref D) (upd G' D (.lst acc)) H' (n1.trans ⟨s1, s2.trans up1, fun b o z => ?_, fun b o z w => ?_⟩) (.lst upd_same (dr.up up1))
      · by_cases hb : b = D
        · subst hb; rw [upd_same] at z; cases z; exact hd
        · rw [upd_ne hb] at z; exact s3 _ _ z
      · rw [upd_ne (ne_of_none z hD)]
        exact nn _ _ z w
/-- what the target a name does -/
theorem go_name {j : Nat} {x : V} {H' : Hp} : ∀ k : L2.St → Hp → Prop, k ((wipe σ vs).set j (some x)) H' → gName j x (wipe σ vs) H' k := fun k h => h
theorem go_tup2 {i j : Nat} {a : Addr} {x y : V} {τ : L2.St} {H' : Hp} (h : H' a = some (.tup [x, y])) : ∀ k : L2.St → Hp → Prop, k ((τ.set i (some x)).set j (some y)) H' → gTup K 2 (gCons (gName i) (gCons (gName j) gNil)) (.ref a) τ H' k :=
  fun k q => ⟨a, [x, y], rfl, SqT.of h, rfl, x, [y], rfl, y, [], rfl, rfl, q⟩
theorem go_tup3 {i j l : Nat} {a : Addr} {x y z : V} {τ : L2.St} {H' : Hp} (h : H' a = some (.tup [x, y, z])) : ∀ k : L2.St → Hp → Prop, k (((τ.set i (some x)).set j (some y)).set l (some z)) H' → gTup K 3 (gCons (gName i) (gCons (gName j) (gCons (gName l) gNil))) (.ref a) τ H' k :=
  fun k q => ⟨a, [x, y, z], rfl, SqT.of h, rfl, x, [y, z], rfl, y, [z], rfl, z, [], rfl, rfl, q⟩
theorem yes_go {H : Hp} {Q : Bool → Hp → Prop} (h : Q true H) : tYes σ H Q := h
/-- no test -/
theorem et_yes : Evt tYes σ G true := fun H e Q q => q G H (Nw.refl e)
/-- an item of a list of data -/
theorem ed_ixL {i : Nat} {ti : TE} (h : Evd K ta σ G (.lst ds)) (hi : ∀ G', Same G G' → Evd K ti σ G' (.int (i : Int))) (hd : ds[i]? = some d) : Evd K (tOp (rIxL K) ta ti) σ G d := ed_two h hi fun x y G' H' _ e dx dy Q q => by
  cases dx with
  | lst h1 h2 =>
    cases dy
    obtain ⟨v, e1, e2⟩ := h2.getD hd
    exact ⟨_, _, _, v, rfl, rfl, SqL.of (e _ _ h1), atI_nat e1, q v G' H' (Nw.refl e) e2⟩
/-- isinstance of data against a built-in class -/
def tyD : Da → Option String
  | .non => some "NoneType" | .bl _ => some "bool" | .int _ => some "int" | .str _ => some "str"
  | .lst _ => some "list" | .tup _ => some "tuple" | .dct _ _ => some "dict"
  | _ => none
theorem ty_of {H : Hp} {v : V} {t : String} (e : DR K H v d) (h : tyD d = some t) : TyX K H v (.type t) := by
  cases e with
  | non => cases h; exact .base .non
  | bl b => cases h; exact .base (.bl b)
  | int i => cases h; exact .base (.int i)
  | str x => cases h; exact .base (.str x)
  | lst h1 h2 => cases h; exact .base (.lst h1)
  | tup h1 h2 => cases h; exact .base (.tup h1)
  | dct h1 h2 h3 => cases h; exact .base (.dK h1)
  | ty | obj | ins | exc | exc0 => cases h
theorem ed_isi {t T : String} {b : Bool} (h : Evd K ta σ G d) (ht : tyD d = some t) (hk : kitB t T = some b) : Evd K (tCB (rIsi K) (tCons ta (tCons (tC (.ty T)) tNil))) σ G (.bl b) := fun H e Q q => h H e _ fun v G1 H1 n1 dv =>
  ⟨v, .ty T, .type t, .type T, b, rfl, .ty T, ty_of (dv.up n1.b) ht, kit_ty hk, q _ G1 H1 n1 (.bl b)⟩
/-- tuple(list) -/
def rTup (K : PySem.W.Frag) : List V → Hp → VK → Prop := fun xs H Q => ∃ p ys, xs = [.ref p] ∧ ((SqL K H p ys ∧ ∀ l, H l = none → Q (.ref l) (upd H l (.tup ys))) ∨ (SqT K H p ys ∧ Q (.ref p) H))
theorem ed_tupL (h : Evd K ta σ G (.lst ds)) : Evd K (tCB (rTup K) (tCons ta tNil)) σ G (.tup ds) := fun H e Q q => h H e _ fun v G1 H1 n1 dv => by
  cases dv with
  | @lst a xs _ h1 h2 => exact ⟨a, xs, rfl, .inl ⟨SqL.of (n1.b _ _ h1), fun l hl => let n2 := Nw.new (o := .tup xs) n1.b hl; q (.ref l) _ _ (n1.trans n2) (.tup upd_same (h2.up n2.a))⟩⟩
/-- data that leans on no object -/
def flatD : Da → Bool
  | .non | .bl _ | .int _ | .str _ => true
  | _ => false
theorem flat_any {H H' : Hp} {v : V} {d : Da} (h : DR K H v d) (f : flatD d = true) : DR K H' v d := by
  cases h with
  | non => exact .non
  | bl b => exact .bl b
  | int i => exact .int i
  | str x => exact .str x
  | _ => cases f
theorem valV_zip {ks : List Key} {vs : List V} {i : Nat} {k : Key} {v : V} (nd : ks.Nodup) (h1 : ks[i]? = some k) (h2 : vs[i]? = some v) : valV (ks.zip vs) k = some v := by
  induction ks generalizing vs i with
  | nil => simp at h1
  | cons k0 ks ih =>
    cases vs with
    | nil => simp at h2
    | cons v0 vs =>
      rw [List.nodup_cons] at nd
      cases i with
      | zero =>
        simp at h1 h2
        subst h1 h2
        simp [valV]
      | succ i =>
        simp at h1 h2
        have ne : k0 ≠ k := fun z => nd.1 (by rw [z]; exact List.mem_of_getElem? h1)
        have := ih nd.2 h1 h2
        simpa [valV, ne] using this
/-- {key: f(value[key]) for key in value}, f a def that gives what it takes back, the values flat -/
theorem ed_dcopy {i j : Nat} {v : V} {ks : List Key} {g : List Da → Option Da} {E : XK} (hv : σ[i]? = some (some v)) (dv : DR K G v (.dct ks ds)) (nd : ks.Nodup) (hfl : ∀ d ∈ ds, flatD d = true ∧ g [d] = some d) (hz : ks.length ≤ 1000)
    (hw : ∀ x, wipe ((wipe σ [j]).set j (some x)) [j] = wipe σ [j]) (hi : ∀ x, ((wipe σ [j]).set j (some x))[i]? = some (some v)) (hj : ∀ x, ((wipe σ [j]).set j (some x))[j]? = some (some x)) :
    Evd K (tLockE (tDc (iKeys (tVar i)) (gName j) tYes (tVar j) (tCall (Pd K 1 g) [] E (tCons (tDGet (tVar i) (tVar j)) tNil)) [j])) σ G (.dct ks ds) := fun H e Q q => by
  cases dv with
  | @dct a _ vs _ h1 h2 h3 =>
    have ha := e _ _ h1
    have l3 := h3.len
    refine ⟨a, .dK (ks.zip vs), ha, trivial, fun od => ⟨_, hv, a, od, rfl, .inl ⟨ks.zip vs, upd_same, fun D hD => ?_⟩⟩⟩
    have Da : D ≠ a := fun z => by rw [z, upd_same] at hD; cases hD
    have hD' : H D = none := by rw [upd_ne Da] at hD; exact hD
    have klen : (ks.zip vs).length = ks.length := by rw [List.length_zip]; omega
    let Gl : Hp := fun b => if b = a then none else G b
    have gla : Gl a = none := if_pos rfl
    have glo : ∀ {b}, b ≠ a → Gl b = G b := fun hb => if_neg hb
    have sl : Same Gl (upd H a (.frz od (.dK (ks.zip vs)))) := fun b o z => by
      by_cases hb : b = a
      · rw [hb, gla] at z; cases z
      · rw [glo hb] at z; rw [upd_ne hb]; exact e _ _ z
    refine ⟨fun n m H' => m = ks.length - n ∧ n ≤ ks.length ∧ ∃ G' acc, Same (upd H a (.frz od (.dK (ks.zip vs)))) H' ∧ Same Gl G' ∧ Same G' H' ∧ G' D = none ∧ (∀ b o, upd H a (.frz od (.dK (ks.zip vs))) b = some o → Gl b = none → G' b = none) ∧
      H' D = some (.dK ((ks.take n).zip acc)) ∧ DRs K G' acc (ds.take n), ⟨ks.length, rfl, Nat.zero_le _, Gl, [], same_upd (Same.refl _) hD, Same.refl _, same_upd sl (sl.free hD), sl.free hD, fun _ _ _ z => z, by simpa using upd_same, by simpa using DRs.nil⟩, ?_⟩
    rintro n m H' ⟨rfl, hn, G', acc, s1, s2, s3, gd, nn, hd, dr⟩
    have fa := s1 _ _ (upd_same (H := H) (a := a) (o := .frz od (.dK (ks.zip vs))))
    by_cases hlt : n < ks.length
    · refine .inr ⟨⟨fa, by rw [klen]; exact hlt⟩, fun H2 => ∃ G' acc, Same (upd H a (.frz od (.dK (ks.zip vs)))) H2 ∧ Same Gl G' ∧ Same G' H2 ∧ G' D = none ∧ (∀ b o, upd H a (.frz od (.dK (ks.zip vs))) b = some o → Gl b = none → G' b = none) ∧
        H2 D = some (.dK ((ks.take (n + 1)).zip acc)) ∧ DRs K G' acc (ds.take (n + 1)), fun H2 p => ⟨ks.length - (n + 1), by omega, rfl, hlt, p⟩, ?_⟩
      rintro x H2 ⟨rfl, k, w, hk, rfl⟩
      obtain ⟨hk1, hk2⟩ : ks[n]? = some k ∧ vs[n]? = some w := by
        rw [List.getElem?_zip_eq_some] at hk
        exact hk
      obtain ⟨d, hdn, dw⟩ := h3.get hk2
      obtain ⟨fd, gd1⟩ := hfl d (List.mem_of_getElem? hdn)
      refine ⟨hw _, ?_⟩
      refine yes_go (iteT ?_)
      refine ⟨_, hj _, _, hi _, _, hj _, a, w, rfl, .inl ⟨ks.zip vs, k, .inr ⟨od, fa⟩, rfl, (valV_zip nd hk1 hk2).symm⟩, G', [d], d, s3, rfl, .cons (flat_any dw fd) .nil, gd1, fun y G2 H3 n2 dy => ?_⟩
      have la : acc.length = n := by rw [dr.len, List.length_take]; omega
      have lz : ((ks.take n).zip acc).length = n := by rw [List.length_zip, List.length_take, la]; omega
      refine ⟨(ks.take n).zip acc, k, rfl, n2.s _ _ hd, small1000 (by rw [lz]; omega), G2, acc ++ [y], same_upd (s1.trans n2.s) hD, s2.trans n2.a, same_upd n2.b (n2.n _ _ hd gd), n2.n _ _ hd gd, fun b o z w => n2.n _ _ (s1 _ _ z) (nn _ _ z w), ?_, ?_⟩
      · rw [upd_same]
        have no : ((ks.take n).zip acc).any (fun kv => decide (kv.1 = k)) = false := by
          rw [List.any_eq_false]
          rintro ⟨k', z⟩ hm
          have hk' := (List.of_mem_zip hm).1
          have ne : k' ≠ k := by
            rintro rfl
            obtain ⟨m, hm1, hm2⟩ := List.getElem_of_mem hk'
            rw [List.length_take] at hm1
            rw [List.getElem_take] at hm2
            have e1 : ks[m]? = some k' := by rw [List.getElem?_eq_getElem (by omega), hm2]
            have : m = n := (List.getElem?_inj (by omega) nd).mp (e1.trans hk1.symm)
            omega
          simpa using ne
        unfold putK
        rw [no, if_neg Bool.false_ne_true, List.take_succ, hk1]
        show _ = some (HO.dK ((List.take n ks ++ [k]).zip (acc ++ [y])))
        rw [List.zip_append (by rw [List.length_take, la]; omega)]
        rfl
      · rw [List.take_succ, hdn]
        exact DRs.app (dr.up n2.a) (.cons dy .nil)
    · have en : n = ks.length := by omega
      subst en
      refine .inl ⟨⟨fa, by rw [klen]; exact Nat.le_refl _⟩, fa, ?_⟩
      rw [List.take_length] at hd
      have dr : DRs K G' acc ds := by
        have : ds.take ks.length = ds := List.take_of_length_le (by omega)
        rw [this] at dr; exact dr
      have ga' : G' a = none := nn _ _ upd_same gla
      let G2 : Hp := upd (upd G' D (.dK (ks.zip acc))) a (.dK (ks.zip vs))
      have up1 : Same G' G2 := same_upd (same_upd (Same.refl _) gd) ga'
      refine q (.ref D) G2 _ ⟨fun b o z => ?_, fun b o z => ?_, fun b o z => ?_, fun b o z w => ?_⟩ (.dct (by show upd _ _ _ _ = _; rw [upd_ne Da, upd_same]) (by rw [dr.len]; omega) (dr.up up1))
      · by_cases hb : b = a
        · subst hb; rw [ha] at z; cases z; exact upd_same
        · rw [upd_ne hb]; exact s1 _ _ (by rw [upd_ne hb]; exact z)
      · by_cases hb : b = a
        · subst hb; rw [h1] at z; cases z; exact upd_same
        · exact up1 _ _ (s2 _ _ (by rw [glo hb]; exact z))
      · by_cases hb : b = a
        · subst hb
          rw [upd_same]
          have z' : upd _ b _ b = some o := z
          rw [upd_same] at z'
          exact z'
        · rw [upd_ne hb]
          have z' : upd (upd G' D _) a _ b = some o := z
          rw [upd_ne hb] at z'
          by_cases hb2 : b = D
          · subst hb2; rw [upd_same] at z'; cases z'; exact hd
          · rw [upd_ne hb2] at z'; exact s3 _ _ z'
      · have hb : b ≠ a := fun z2 => by rw [z2, h1] at w; cases w
        have hb2 : b ≠ D := ne_of_none z hD'
        show upd (upd G' D _) a _ b = none
        rw [upd_ne hb, upd_ne hb2]
        exact nn b o (by rw [upd_ne hb]; exact z) (by rw [glo hb]; exact w)
end
end GL

set_option Elab.async false
set_option linter.all false
set_option maxRecDepth 100000
set_option maxHeartbeats 2000000
namespace GL
open PySem PySem.Spec PyProof.Rows L2
open Classical in
/-- both heaps' objects -/
noncomputable def both (G' G1 : Hp) : Hp := fun b => if (G' b).isSome = true then G' b else G1 b
theorem both_l {G' G1 : Hp} {b : Addr} {o : HO} (h : G' b = some o) : both G' G1 b = some o := by
  unfold both
  rw [if_pos (by rw [h]; rfl)]
  exact h
theorem both_r {G' G1 : Hp} {b : Addr} (h : G' b = none) : both G' G1 b = G1 b := by
  unfold both
  rw [if_neg (by rw [h]; simp)]
theorem Nw.wide {G G' H G1 H1 : Hp} (n : Nw G H G1 H1) (s : Same G G') (sh : Same G' H) : Nw G' H (both G' G1) H1 ∧ Same G1 (both G' G1) := by
  have in1 : Same G' H1 := sh.trans n.s
  refine ⟨⟨n.s, fun b o e => both_l e, fun b o e => ?_, fun b o e z => ?_⟩, fun b o e => ?_⟩
  · cases q : G' b with
    | some u => rw [both_l q] at e; cases e; exact in1 _ _ q
    | none => rw [both_r q] at e; exact n.b _ _ e
  · rw [both_r z]; exact n.n b o e (s.free z)
  · cases q : G' b with
    | some u =>
      have z := in1 _ _ q
      rw [n.b _ _ e] at z
      rw [both_l q, z]
    | none => rw [both_r q]; exact e
section
variable {K : PySem.W.Frag} {σ : L2.St} {G G' : Hp} {te ta tb : TE} {tA : TA} {t u : TT} {d d1 d2 : Da} {ds es : List Da} {b : Bool}
theorem Evd.up (h : Evd K te σ G d) (s : Same G G') : Evd K te σ G' d := fun H e Q q => h H (s.trans e) Q fun v G1 H1 n dv => let w := n.wide s e; q v _ H1 w.1 (dv.up w.2)
theorem Evs.up (h : Evs K tA σ G ds) (s : Same G G') : Evs K tA σ G' ds := fun H e Q q => h H (s.trans e) Q fun v G1 H1 n dv => let w := n.wide s e; q v _ H1 w.1 (dv.up w.2)
theorem Evt.up (h : Evt t σ G b) (s : Same G G') : Evt t σ G' b := fun H e Q q => h H (s.trans e) Q fun G1 H1 n => q _ H1 (n.wide s e).1
theorem xs_cons (h : Evd K te σ G d) (hr : Evs K tA σ G ds) : Evs K (tCons te tA) σ G (d :: ds) := es_cons h fun _ s => hr.up s
theorem x_cat (ha : Evd K ta σ G (.lst ds)) (hb : Evd K tb σ G (.lst es)) (hl : ds.length + es.length ≤ 1000 := by decide) : Evd K (tOp rCat ta tb) σ G (.lst (ds ++ es)) := ed_cat ha (fun _ s => hb.up s) hl
theorem x_isO {C D : Addr} {ns : List Str} (h : Evd K te σ G (.exc C ns ds)) (T : OGet K C) (hk : PySem.W.kitOne K (.ref C) (.ref D) = some b) : Evd K (tCB (rIsO K) (tCons te (tCons (tC (.ref D)) tNil))) σ G (.bl b) :=
  ed_isO h (fun _ _ => ed_c fun _ => .obj D) T cls_obj hk
theorem x_isT {C : Addr} {ns : List Str} {n : String} (h : Evd K te σ G (.exc C ns ds)) (T : OGet K C) (hk : PySem.W.kitOne K (.ref C) (.type n) = some b) : Evd K (tCB (rIsO K) (tCons te (tCons (tC (.ty n)) tNil))) σ G (.bl b) :=
  ed_isO h (fun _ _ => ed_c fun _ => .ty n) T cls_ty hk
theorem x_eq {p q : PyData} (ha : Evd K ta σ G d1) (hb : Evd K tb σ G d2) (h1 : d1.toP = some p) (h2 : d2.toP = some q) (n1 : p.hasDict = false) (n2 : q.hasDict = false) (s1 : SeqAt.shaped p = true) (s2 : SeqAt.shaped q = true) (hz : PyData.eqv p q = b) : Evd K (tOp (rEqD K) ta tb) σ G (.bl b) :=
  ed_eq ha (fun _ s => hb.up s) h1 h2 n1 n2 s1 s2 hz
theorem x_ne {p q : PyData} (ha : Evd K ta σ G d1) (hb : Evd K tb σ G d2) (h1 : d1.toP = some p) (h2 : d2.toP = some q) (n1 : p.hasDict = false) (n2 : q.hasDict = false) (s1 : SeqAt.shaped p = true) (s2 : SeqAt.shaped q = true) (hz : (!PyData.eqv p q) = b) : Evd K (tOp (rNeD K) ta tb) σ G (.bl b) :=
  ed_ne ha (fun _ s => hb.up s) h1 h2 n1 n2 s1 s2 hz
theorem x_nes {x y : Str} (ha : Evd K ta σ G (.str x)) (hb : Evd K tb σ G (.str y)) (hz : (!decide (x = y)) = b) : Evd K (tOp rNe ta tb) σ G (.bl b) := ed_nes ha (fun _ s => hb.up s) hz
theorem x_eqs {x y : Str} (ha : Evd K ta σ G (.str x)) (hb : Evd K tb σ G (.str y)) (hz : decide (x = y) = b) : Evd K (tOp rEq ta tb) σ G (.bl b) := ed_eqs ha (fun _ s => hb.up s) hz
theorem x_if (h : Evt t σ G b) (h1 : b = true → Evd K ta σ G d) (h2 : b = false → Evd K tb σ G d) : Evd K (tIf t ta tb) σ G d := ed_if h (fun e _ s => (h1 e).up s) fun e _ s => (h2 e).up s
theorem x_or {c : Bool} (h : Evt t σ G b) (h2 : Evt u σ G c) : Evt (tOr t u) σ G (b || c) := et_or h fun _ _ s => h2.up s
theorem x_and {c : Bool} (h : Evt t σ G b) (h2 : Evt u σ G c) : Evt (tAnd t u) σ G (b && c) := et_and h fun _ _ s => h2.up s
theorem x_andV {c : Bool} (h : Evd K ta σ G (.bl b)) (h2 : Evd K tb σ G (.bl c)) : Evd K (tAndV ta tb) σ G (.bl (b && c)) := ed_andV h fun _ _ s => h2.up s
theorem x_oex {C : Addr} {n m k : Nat} {ns : List Str} {g : List Da → Option (List Da)} {tk : TA} {zs : List Da} {E : XK} {gV : List V → List V → List V} (h : Evs K tA σ G ds) (hk : Evs K tk σ G zs) (hm : ds.length = m) (hz : zs.length = k) (order : List Da) (ho : order.length = n)
    (hg : ∀ (a : Addr) (H' : Hp) (vs ws : List V), DRs K H' vs ds → DRs K H' ws zs → ∃ us, gV (.ref a :: vs) ws = .ref a :: us ∧ DRs K H' us order) (hq : g order = some es) :
    Evd K (tOex C m k (Pi K C n ns g) gV E tA tk) σ G (.exc C ns es) := ed_oex h (fun _ s => hk.up s) hm hz order ho hg hq
/-- the fields of an error with one, with two -/
theorem x_f1 {C : Addr} {f : Str} (h : Evd K te σ G (.exc C [f] [d])) (T : OGet K C) (no : PySem.W.findIn K (.ref C) f = some none) : Evd K (tOfl K f te) σ G d := ed_ofl h T no fun vs e => by
  match vs, e with
  | [v], _ => exact ⟨0, rfl, by simp [List.lookup]⟩
theorem x_f2a {C : Addr} {f g : Str} (h : Evd K te σ G (.exc C [f, g] [d, d1])) (T : OGet K C) (no : PySem.W.findIn K (.ref C) f = some none) : Evd K (tOfl K f te) σ G d := ed_ofl h T no fun vs e => by
  match vs, e with
  | [v, w], _ => exact ⟨0, rfl, by simp [List.lookup]⟩
theorem x_f2b {C : Addr} {f g : Str} (h : Evd K te σ G (.exc C [f, g] [d1, d])) (T : OGet K C) (no : PySem.W.findIn K (.ref C) g = some none) (ne : (g == f) = false) : Evd K (tOfl K g te) σ G d := ed_ofl h T no fun vs e => by
  match vs, e with
  | [v, w], _ => exact ⟨1, rfl, by simp [List.lookup, ne]⟩
/-! several names at once -/
variable {D : Ends} {tz : TS} {H : Hp}
theorem qd_par2 {i j : Nat} (s : Same G H) (h : Evs K tA σ G [d1, d2]) (k : ∀ v w G1 H1, Nw G H G1 H1 → DR K G1 v d1 → DR K G1 w d2 → tz D ((σ.set i (some v)).set j (some w)) H1) : tSeq (tPar i j tA) tz D σ H := h H s _ fun vs G1 H1 n r => by
  cases r with
  | cons r1 r => cases r with
    | cons r2 r => cases r; exact ⟨_, _, rfl, k _ _ G1 H1 n r1 r2⟩
theorem qd_par3 {i j l : Nat} {d3 : Da} (s : Same G H) (h : Evs K tA σ G [d1, d2, d3]) (k : ∀ v w x G1 H1, Nw G H G1 H1 → DR K G1 v d1 → DR K G1 w d2 → DR K G1 x d3 → tz D (((σ.set i (some v)).set j (some w)).set l (some x)) H1) : tSeq (tPar3 i j l tA) tz D σ H := h H s _ fun vs G1 H1 n r => by
  cases r with
  | cons r1 r => cases r with
    | cons r2 r => cases r with
      | cons r3 r => cases r; exact ⟨_, _, _, rfl, k _ _ _ G1 H1 n r1 r2 r3⟩
/-- what a body of data gives back -/
theorem ret_d {Q : VK} (k : ∀ v G' H', Nw G H G' H' → DR K G' v d → Q v H') {G1 H1 : Hp} (n : Nw G H G1 H1) (h : Evd K te σ G1 d) {D : Ends} (hD : D.rt = Q) : tRet te D σ H1 := by
  refine sd_ret n.b h fun v G2 H2 n2 dv => ?_
  rw [hD]
  exact k v G2 H2 (n.trans n2) dv
end
/-! an __init__ of an own error that copies what it is given -/
section
variable {K : PySem.W.Frag} {C : Addr} {f f2 : Str} {gC : List Da → Option Da} {E : XK} {Q : VK} {a : Addr} {w w2 : V} {d d2 : Da} {G H : Hp} {D : Ends}
theorem rd_init1 (s : Same G H) (ga : G a = none) (ha : H a = some (exo a C none)) (dw : DR K G w d) (T : OexC K C) (no : PySem.W.findIn K (.ref C) f = some none) (hg : gC [d] = some d)
    (k : ∀ G' H', (∀ b o, b ≠ a → H b = some o → H' b = some o) → Same G G' → Same G' H' → (∀ b o, b ≠ a → H b = some o → G b = none → G' b = none) → DR K G' (.ref a) (.exc C [f] [d]) → Q .non H') (hD : D.nx = fun _ H' => Q .non H') :
    tOst K f (tVar 0) (tCall (Pd K 1 gC) [] E (tCons (tVar 1) tNil)) D [some (.ref a), some w] H := by
  have ev : Evd K (tCall (Pd K 1 gC) [] E (tCons (tVar 1) tNil)) [some (.ref a), some w] G d := ed_call (xs_cons (ed_var rfl dw) es_nil) rfl hg
  refine ev H s _ fun y G1 H1 n1 dy => ⟨.ref a, rfl, a, C, rfl, T, no, .inl ⟨n1.s _ _ ha, fun dx nd ne => ?_⟩⟩
  rw [hD]
  have gd : G1 dx = none := n1.b.free nd
  have g1 : G1 a = none := n1.n _ _ ha ga
  have up : Same G1 (upd (upd G1 dx (exd dx [(f, y)])) a (exo a C (some dx))) := same_upd (same_upd (Same.refl _) gd) g1
  refine k (upd (upd G1 dx (exd dx [(f, y)])) a (exo a C (some dx))) _ (fun b o hb z => ?_) (n1.a.trans up) (fun b o z => ?_) (fun b o hb z w => ?_) (.exc upd_same (by rw [upd_ne ne, upd_same]; rfl) rfl (.cons (dy.up up) .nil))
  · rw [upd_ne hb, upd_ne (ne_of_none (n1.s _ _ z) nd)]; exact n1.s _ _ z
  · by_cases hb : b = a
    · subst hb; rw [upd_same] at z ⊢; exact z
    · rw [upd_ne hb] at z ⊢
      by_cases hb2 : b = dx
      · subst hb2; rw [upd_same] at z ⊢; exact z
      · rw [upd_ne hb2] at z ⊢; exact n1.b _ _ z
  · rw [upd_ne hb, upd_ne (ne_of_none (n1.s _ _ z) nd)]; exact n1.n _ _ z w
theorem rd_init2 (s : Same G H) (ga : G a = none) (ha : H a = some (exo a C none)) (dw : DR K G w d) (dw2 : DR K G w2 d2) (T : OexC K C) (no : PySem.W.findIn K (.ref C) f = some none) (no2 : PySem.W.findIn K (.ref C) f2 = some none) (hg : gC [d] = some d) (hg2 : gC [d2] = some d2)
    (k : ∀ G' H', (∀ b o, b ≠ a → H b = some o → H' b = some o) → Same G G' → Same G' H' → (∀ b o, b ≠ a → H b = some o → G b = none → G' b = none) → DR K G' (.ref a) (.exc C [f2, f] [d2, d]) → Q .non H') (hD : D.nx = fun _ H' => Q .non H') :
    tSeq (tOst K f (tVar 0) (tCall (Pd K 1 gC) [] E (tCons (tVar 1) tNil))) (tOst K f2 (tVar 0) (tCall (Pd K 1 gC) [] E (tCons (tVar 2) tNil))) D [some (.ref a), some w, some w2] H := by
  have ev : Evd K (tCall (Pd K 1 gC) [] E (tCons (tVar 1) tNil)) [some (.ref a), some w, some w2] G d := ed_call (xs_cons (ed_var rfl dw) es_nil) rfl hg
  refine ev H s _ fun y G1 H1 n1 dy => ⟨.ref a, rfl, a, C, rfl, T, no, .inl ⟨n1.s _ _ ha, fun dx nd ne => ?_⟩⟩
  have gd : G1 dx = none := n1.b.free nd
  have g1 : G1 a = none := n1.n _ _ ha ga
  have s2 : Same G1 (upd (upd H1 dx (exd dx [(f, y)])) a (exo a C (some dx))) := same_upd (same_upd n1.b gd) g1
  have ev2 : Evd K (tCall (Pd K 1 gC) [] E (tCons (tVar 2) tNil)) [some (.ref a), some w, some w2] G1 d2 := ed_call (xs_cons (ed_var rfl (dw2.up n1.a)) es_nil) rfl hg2
  refine ev2 _ s2 _ fun y2 G2 H2 n2 dy2 => ?_
  have ha2 : H2 a = some (exo a C (some dx)) := n2.s _ _ upd_same
  have hd2 : H2 dx = some (exd dx [(f, y)]) := n2.s _ _ (by rw [upd_ne ne, upd_same])
  have g2 : G2 a = none := n2.n _ _ upd_same g1
  have gd2 : G2 dx = none := n2.n dx _ (by rw [upd_ne ne, upd_same]) gd
  refine ⟨.ref a, rfl, a, C, rfl, T, no2, .inr ⟨dx, _, ha2, hd2, (by show 1 ≤ 900; decide), ?_⟩⟩
  rw [hD]
  have up : Same G2 (upd (upd G2 dx (exd dx [(f2, y2), (f, y)])) a (exo a C (some dx))) := same_upd (same_upd (Same.refl _) gd2) g2
  refine k (upd (upd G2 dx (exd dx [(f2, y2), (f, y)])) a (exo a C (some dx))) _ (fun b o hb z => ?_) ((n1.a.trans n2.a).trans up) (fun b o z => ?_) (fun b o hb z w => ?_)
    (.exc upd_same (by rw [upd_ne ne, upd_same]; rfl) rfl (.cons (dy2.up up) (.cons ((dy.up n2.a).up up) .nil)))
  · have q1 : b ≠ dx := ne_of_none (n1.s _ _ z) nd
    rw [upd_ne q1]; exact n2.s _ _ (by rw [upd_ne hb, upd_ne q1]; exact n1.s _ _ z)
  · by_cases hb : b = a
    · subst hb; rw [upd_same] at z; cases z; rw [upd_ne ne.symm]; exact ha2
    · rw [upd_ne hb] at z
      by_cases hb2 : b = dx
      · subst hb2; rw [upd_same] at z ⊢; exact z
      · rw [upd_ne hb2] at z ⊢; exact n2.b _ _ z
  · have q1 : b ≠ dx := ne_of_none (n1.s _ _ z) nd
    rw [upd_ne hb, upd_ne q1]
    exact n2.n b o (by rw [upd_ne hb, upd_ne q1]; exact n1.s _ _ z) (n1.n _ _ z w)
end
end GL

set_option Elab.async false
set_option linter.all false
set_option maxRecDepth 100000
set_option maxHeartbeats 2000000
namespace GL
open PySem PySem.Spec PyProof.Rows L2
/-- a def that may be called by its name -/
structure CalG (P : Program) (w : World) (K : PySem.W.Frag) (mg : Str → Option Value) (base : Heap) (k : Nat) (x : Str) (ps : List Str) (sp : Sp) : Prop where
  ex : ∃ f fd, FnG P w K mg base CX0 k f fd ps sp ∧ mg x = some (.ref f) ∧ PySem.W.keepIn K (.ref f) = true ∧ L2.Binds K fd ps []
section
variable {X : Cx} {k : Nat} {x : Str} {ps : List Str} {sp : Sp} {p pos : Pos} {e : Expr} {es : List Expr} {t : TA}
theorem pe_cal (c : CalG X.prog X.w X.K X.mg X.base k x ps sp) (hq : Quiet X.A) (hr : Room k X.A) (hg : Gl X x) (ha : PA X (e :: es) t) (hdb : (x == ("__debug__" : Str)) = false := by decide)
    (he : starEach (e :: es) X.env = (false, eval e X.env) :: starEach es X.env := by rfl) (hpl : (backTo pos (starEach es X.env)).any (·.1) = false := by rfl) : PE X (.Call (.Name x p) (e :: es) [] pos) (tCall sp [] E0 t) := by
  obtain ⟨f, fd, F, hm, hk, hb⟩ := c.ex
  exact pe_cg F hq hr hg hm hk hb .nil pass0 ha hdb he hpl
end
/-! rules that name the written part, so that a block's own context may stand in them -/
section
variable {X : Cx} {K : PySem.W.Frag} {x f : Str} {C : Addr} {p pos : Pos} {e a b : Expr} {es : List Expr} {te ta tb : TE} {t : TA}
theorem pe_own (hm : X.mg x = some (.ref C)) (hg : Gl X x) (hd : (x == ("__debug__" : Str)) = false := by decide) : PE X (.Name x pos) (tC (.ref C)) := pe_glob hg hm rfl hd
theorem pe_oflK (hK : X.K = K) (he : PE X e te) (hb : attributeBase e f X.env (eval e X.env) = eval e X.env := by rfl) : PE X (.Attribute e f pos) (tOfl K f te) := by subst hK; exact pe_ofl he hb
theorem pe_repr (hK : X.K = K) (hs : SysAt X.base) (hq : Quiet X.A) (hu : X.A.units + 64 < cLine) (hm : X.mg "repr" = none) (hg : Gl X "repr") (ha : PE X e te) (hst : starEach [e] X.env = (false, eval e X.env) :: starEach [] X.env := by rfl) (hpl : (backTo pos (starEach [] X.env)).any (·.1) = false := by rfl) :
    PE X (.Call (.Name "repr" p) [e] [] pos) (tCB (rRepr K) (tCons te tNil)) := by
  subst hK
  exact pe_callB (call_repr hs hq hu) hg hm (by decide +kernel) (pa_cons ha pa_nil hst) (by decide) (by decide) hst hpl
theorem pe_isO (hK : X.K = K) (hm : X.mg "isinstance" = none) (hg : Gl X "isinstance") (ha : PA X (e :: es) t) (he : starEach (e :: es) X.env = (false, eval e X.env) :: starEach es X.env := by rfl) (hpl : (backTo pos (starEach es X.env)).any (·.1) = false := by rfl) :
    PE X (.Call (.Name "isinstance" p) (e :: es) [] pos) (tCB (rIsO K) t) := by
  subst hK
  exact pe_callB call_isO hg hm PyProof.Rows.boot_isinstance ha (by decide) (by decide) he hpl
theorem pe_eqD (hK : X.K = K) (hu : X.A.units + 64 < cLine) (ha : PE X a ta) (hb : PE X b tb) : PE X (.Compare a [.Eq] [b] pos) (tOp (rEqD K) ta tb) := by subst hK; exact pe_cmpR (op_eqD hu) ha hb (nomark _)
theorem pe_neD (hK : X.K = K) (hu : X.A.units + 64 < cLine) (ha : PE X a ta) (hb : PE X b tb) : PE X (.Compare a [.NotEq] [b] pos) (tOp (rNeD K) ta tb) := by subst hK; exact pe_cmpR (op_neD hu) ha hb (nomark _)
theorem pt_eqD (hK : X.K = K) (hu : X.A.units + 64 < cLine) (ha : PE X a ta) (hb : PE X b tb) : PT X (.Compare a [.Eq] [b] pos) (tTest (tOp (rEqD K) ta tb)) := by subst hK; exact pt_cmpR (op_eqD hu) ha hb (nomark _)
theorem pt_neD (hK : X.K = K) (hu : X.A.units + 64 < cLine) (ha : PE X a ta) (hb : PE X b tb) : PT X (.Compare a [.NotEq] [b] pos) (tTest (tOp (rNeD K) ta tb)) := by subst hK; exact pt_cmpR (op_neD hu) ha hb (nomark _)
end
/-- a def whose value has to do with its arguments' data -/
def Pr (K : PySem.W.Frag) (n : Nat) (R : List Da → Da → Prop) : Sp := fun vs H Q _ => ∃ G ds d, Same G H ∧ ds.length = n ∧ DRs K G vs ds ∧ R ds d ∧ ∀ v G' H', Nw G H G' H' → DR K G' v d → Q v H'
theorem Pr.len {K : PySem.W.Frag} {n : Nat} {R : List Da → Da → Prop} (vs : List V) (H : Hp) (Q : VK) (E : XK) (h : Pr K n R vs H Q E) : vs.length = n := by
  obtain ⟨_, ds, d, _, hl, r, _⟩ := h
  rw [r.len, hl]
section
variable {K : PySem.W.Frag} {σ : L2.St} {G : Hp} {te ta tb : TE} {tA : TA} {t u : TT} {d d1 d2 : Da} {ds es : List Da} {b : Bool} {E : XK}
theorem x_callR {n : Nat} {R : List Da → Da → Prop} (h : Evs K tA σ G ds) (hl : ds.length = n) (hR : R ds d) : Evd K (tCall (Pr K n R) [] E tA) σ G d := fun H e Q q =>
  h H e _ fun vs G1 H1 n1 dvs => ⟨G1, ds, d, n1.b, hl, by rw [List.append_nil]; exact dvs, hR, fun v G2 H2 n2 dv => q v G2 H2 (n1.trans n2) dv⟩
theorem xc_str {x : Str} : Evd K (tC (.str x)) σ G (.str x) := ed_c fun _ => .str x
theorem xc_int {i : Int} : Evd K (tC (.int i)) σ G (.int i) := ed_c fun _ => .int i
theorem xc_bl {b : Bool} : Evd K (tC (.bl b)) σ G (.bl b) := ed_c fun _ => .bl b
theorem xc_non : Evd K (tC .non) σ G .non := ed_c fun _ => .non
theorem x_tup (h : Evs K tA σ G ds) (hl : Nat.ble ds.length 1000 = true := by rfl) : Evd K (tTup tA) σ G (.tup ds) := ed_tup h (Nat.le_of_ble_eq_true hl)
theorem x_lst (h : Evs K tA σ G ds) (hl : Nat.ble ds.length 1000 = true := by rfl) : Evd K (tLst tA) σ G (.lst ds) := ed_lst h (Nat.le_of_ble_eq_true hl)
theorem x_catb (ha : Evd K ta σ G (.lst ds)) (hb : Evd K tb σ G (.lst es)) (hl : Nat.ble (ds.length + es.length) 1000 = true := by rfl) : Evd K (tOp rCat ta tb) σ G (.lst (ds ++ es)) := x_cat ha hb (Nat.le_of_ble_eq_true hl)
end
theorem two_of {K : PySem.W.Frag} {H : Hp} {vs : List V} {a b : Da} (h : DRs K H vs [a, b]) : ∃ v w, vs = [v, w] ∧ DR K H v a ∧ DR K H w b := by
  cases h with | cons h1 h => cases h with | cons h2 h => cases h; exact ⟨_, _, rfl, h1, h2⟩
theorem three_of {K : PySem.W.Frag} {H : Hp} {vs : List V} {a b c : Da} (h : DRs K H vs [a, b, c]) : ∃ v u x, vs = [v, u, x] ∧ DR K H v a ∧ DR K H u b ∧ DR K H x c := by
  cases h with | cons h1 h => cases h with | cons h2 h => cases h with | cons h3 h => cases h; exact ⟨_, _, _, rfl, h1, h2, h3⟩
theorem one_of {K : PySem.W.Frag} {H : Hp} {vs : List V} {a : Da} (h : DRs K H vs [a]) : ∃ v, vs = [v] ∧ DR K H v a := by
  cases h with | cons h1 h => cases h; exact ⟨_, rfl, h1⟩
theorem none_of {K : PySem.W.Frag} {H : Hp} {vs : List V} (h : DRs K H vs []) : vs = [] := by
  cases h; rfl
end GL

set_option Elab.async false
set_option linter.all false
set_option maxRecDepth 100000
set_option maxHeartbeats 2000000
namespace GL
open PySem PySem.Spec PyProof.Rows L2
/-! an error that was caught and is kept behind the clause: tracked from then on by its class and its dict -/
def exk (e C : Addr) (d : Option Addr) : HO := .ext fun g => ∃ (ob : Obj) (vs : Array Value), g.get? e = some ob ∧ ob.cls = .ref C ∧ ob.dict = d ∧ ob.data = .fields vs
theorem exk_ok {P : Program} {w : World} {H : Hp} {g : Heap} {e C : Addr} {d : Option Addr} {ob : Obj} {vs : Array Value} (h : g.get? e = some ob) (h1 : ob.cls = .ref C) (h2 : ob.dict = d) (h3 : ob.data = .fields vs) : ObjOk P w H g e (exk e C d) :=
  ⟨⟨ob, vs, h, h1, h2, h3⟩, ⟨ob, h⟩, fun g1 g2 ⟨u, us, k, k1, k2, k3⟩ st => ⟨u, us, st u k, k1, k2, k3⟩⟩
theorem exk_at {P : Program} {w : World} {H : Hp} {g : Heap} {e C : Addr} {d : Option Addr} (ok : HOk P w H g) (h : H e = some (exk e C d)) : ∃ (ob : Obj) (vs : Array Value), g.get? e = some ob ∧ ob.cls = .ref C ∧ ob.dict = d ∧ ob.data = .fields vs :=
  (show (∃ (ob : Obj) (vs : Array Value), g.get? e = some ob ∧ ob.cls = .ref C ∧ ob.dict = d ∧ ob.data = .fields vs) ∧ _ from ok e _ h).1
section
variable {X : Cx} {pins : List (Addr × Obj)} {σ : L2.St} {H : Hp} {s : Shared} {a : Addr} {o : HO}
/-- an object that came since the def's entry, untracked so far, is tracked -/
theorem track (I : Inv X pins σ H s) (na : H a = none) (ns : X.s_0.heap.get? a = none) (new : ObjOk X.prog X.w (upd H a o) s.heap a o) (nL : a ≠ X.env.locals) (nC : ∀ x c, X.env.cells.lookup x = some c → c ≠ a) (nP : ∀ p ∈ X.pn ++ pins, p.1 ≠ a) : Inv X pins σ (upd H a o) s := by
  have up : ∀ {b : Addr} {u : HO}, H b = some u → upd H a o b = some u := fun {b u} z => by rw [upd_ne (ne_of_none z na)]; exact z
  refine ⟨I.ok, I.os, I.bare, ⟨I.base.keep, I.base.slot, fun b u z n hx => ?_, I.base.there, fun b xs z => up (I.base.tups b xs z), fun b u v z => up (I.base.frzs b u v z), fun b ps z => ?_⟩, I.loc, I.cell, ?_, fun x c z => ?_, fun p hp => ?_, fun b u z => ?_, I.len⟩
  · have hb : b ≠ a := fun e => by rw [e, ns] at z; cases z
    rw [upd_ne hb]
    exact I.base.free b u z n hx
  · obtain ⟨more, hm⟩ := I.base.tbls b ps z
    exact ⟨more, up hm⟩
  · rw [upd_ne (Ne.symm nL)]; exact I.free
  · rw [upd_ne (nC x c z)]; exact I.freeC x c z
  · obtain ⟨p1, p2, p3⟩ := I.pin p hp
    exact ⟨p1, by rw [upd_ne (nP p hp)]; exact p2, p3⟩
  · by_cases hb : b = a
    · subst hb; rw [upd_same] at z; cases z; exact new
    · rw [upd_ne hb] at z
      exact (I.hok b u z).stay (fun _ _ _ q => q) (fun c q => up q) fun c xs q => up q
end
/-- what the clause 'except x as n' wishes, the error kept: slot i is n's -/
def wKp (K : PySem.W.Frag) (c : Value) (i : Nat) (ts : Addr → Value → Option Addr → TS) (Wout : WX) (D : Ends) : WX := fun cls d σ H =>
  ∃ b, PySem.W.exmOne K cls c = some b ∧ (b = true → ∃ C : Addr, cls = .ref C ∧ ∀ a, H a = none → ts a cls d { nx := fun σ' H' => H' a = none → D.nx (σ'.set i none) (upd H' a (exk a C d)), rt := fun _ _ => False, bk := fun _ _ => False, ct := fun _ _ => False } (σ.set i (some (.ref a))) H) ∧
    (b = false → Wout cls d σ H)
section
variable {X : Cx} {x n : Str} {c : Value} {i : Nat} {body suite : List Stmt} {b₀ : Stmt} {np pos pos' : Pos} {tb : WX → TS} {ts : Addr → Value → Option Addr → TS} {Wout : WX}
theorem ps_try_kept (sk : X.stack = X.env :: X.outer) (fr : X.env.frame = some X.env.locals) (xx0 : X.ex = []) (nd : X.N.Nodup) (iN : X.N[i]? = some n) (lc : X.env.kindOf n = some .local) (nm : Names X x c) (tk : Takes X Wout)
    (bd : ∀ (W : WX) (pn : List (Addr × Obj)) (xe : Value → Shared → Prop), Takes (X.tr pn xe) W → PassesOwn (model X.prog X.w) X.A X.env xe → PSs (X.tr pn xe) body (tb W))
    (su : ∀ (a : Addr) (oe : Obj) (cls : Value) (d : Option Addr) (pn : List (Addr × Obj)), Zc cls d oe → (∃ vs, oe.data = .fields vs) → PSs (X.suite a ((a, oe) :: pn)) (b₀ :: suite) (ts a cls d)) :
    PS X (.Try body [.ExceptHandler (some (.Name x np)) (some n) (b₀ :: suite) pos'] [] [] pos) (fun D σ H => tb (wKp X.K c i ts Wout D) D σ H) := by
  refine ⟨fun pins s σ H D I start => ?_⟩
  have okX := I.ok
  have frs2 : X.A.frames = some (X.env :: X.outer) := by rw [okX.frames, sk]
  have lc2 : Loc X.env.scope n := Or.inl lc
  refine wpAny_Try_except (wpAny_mono ((bd (wKp X.K c i ts Wout D) (X.pn ++ pins) (fun e t1 => wpAny (model X.prog X.w) X.A (noteFrame e X.env) (fun _ t2 => wpAny (model X.prog X.w) X.A (setFlight e none) (fun _ t3 =>
    wpAny (model X.prog X.w) X.A (handleBy e X.env [.ExceptHandler (some (.Name x np)) (some n) (b₀ :: suite) pos']) (SP X pins D) X.xe t3) X.xe t2) X.xe t1) (fun u t' xe => ?_) PassesOwn.looking).run [] s σ H D (I.toTry _) start) (fun f t1 z => ?_) fun e t1 z => z)
  · obtain ⟨a, B, sI, pins0, σ0, H0, cls, d, rfl, J0, grd, up0, sky0, na, os0, ag0, b, mt, yes, no⟩ := xe
    have J : Inv X pins σ0 H0 sI := J0.ofTry okX
    have sky1 : Sky B (X.env :: X.outer) a (Zc cls d) X.env.locals t'.heap := by rw [← sk]; exact sky0
    show wpAny (model X.prog X.w) X.A (noteFrame (.ref a) X.env) _ _ _
    refine Sky.land Zc.steady frs2 fr sky1 fun g3 fly up3 => ?_
    have J3 : Inv X pins σ0 H0 { t' with heap := g3 } := J.landed grd fly.1 (up0.trans up3) os0 ag0
    obtain ⟨oe, vs, he, hz, hd⟩ := fly.there
    have nfr : a ∉ frs (X.env :: X.outer) := fun hm => by
      obtain ⟨_, o', e', hnf⟩ := fly.2.2.1.mem hm
      rw [he] at e'; cases e'
      exact hnf _ hd
    have nL : a ≠ X.env.locals := fun z => nfr (List.mem_filterMap.mpr ⟨X.env, List.mem_cons_self, by rw [fr, z]⟩)
    have nF : a ∉ X.fs := fun hm => by
      obtain ⟨e, h1, h2⟩ := List.mem_filterMap.mp hm
      exact nfr (List.mem_filterMap.mpr ⟨e, List.mem_cons_of_mem _ h1, h2⟩)
    have nI : sI.heap.get? a = none := by
      cases q : sI.heap.get? a with
      | none => rfl
      | some o =>
        have z := grd a o q (by rw [sk]; exact nfr)
        rw [fly.2.1] at z
        cases z
    have n0 : X.s_0.heap.get? a = none := by
      cases q : X.s_0.heap.get? a with
      | none => rfl
      | some o =>
        obtain ⟨o', z⟩ := J.base.there a o q (by rw [xx0]; exact List.not_mem_nil)
        rw [nI] at z
        cases z
    have nC : ∀ y c, X.env.cells.lookup y = some c → c ≠ a := fun y c hc e => by
      obtain ⟨v, o, z, _⟩ := J.cell y c hc
      rw [e, nI] at z
      cases z
    have nP : ∀ p ∈ X.pn ++ pins, p.1 ≠ a := fun p hp e => by
      have z := (J.pin p hp).1
      rw [e, nI] at z
      cases z
    have S3 := J3.suite he hd na nL nF
    refine wpAny_handleBy_cons (codeAny_handlers_test ?_) (by intro q; cases q)
    have LM := PySem.W.exm_one (M := model X.prog X.w) J3.kIn (fun A Q E s k q => wpAny_typeOf_ref (k _ _ he) (by rw [hz.1]; exact q)) mt
    have look : ∀ {Q E : Value → Shared → Prop}, Q c { t' with heap := g3 } → wpAny (model X.prog X.w) (X.A.mark (some (.ref a))) (eval (.Name x np) X.env) Q E { t' with heap := g3 } := fun {Q E} q => by
      obtain ⟨hg, hdb, hm | ⟨hm, hv, hn⟩⟩ := nm
      · exact ld_glob (X := X.suite a ((a, oe) :: (X.pn ++ pins))) S3 hg hm q hdb
      · exact ld_blt (X := X.suite a ((a, oe) :: (X.pn ++ pins))) S3 hg hm hv q hn hdb
    refine look (LM.here ?_)
    cases b with
    | true =>
      obtain ⟨C, ec, yes⟩ := yes rfl
      refine codeAny_handlers_suite_as (HandSPX.lands_againZ fly fun g4 fly4 up4 => ?_)
      have J4 : Inv X pins σ0 H0 { t' with heap := g4 } := J.landed grd fly4.1 ((up0.trans up3).trans up4) os0 ag0
      obtain ⟨ou, us, hu, zu, du⟩ := fly4.there
      have S4 := J4.suite hu du na nL nF
      refine store_ok (X := X.suite a ((a, ou) :: (X.pn ++ pins))) (v := .ref a) S4 nd iN lc2 rfl (fun t5 S5 => ?_) (.inr lc)
      refine wpAny_mono ((su a ou cls d (X.pn ++ pins) zu ⟨_, du⟩).run [] t5 _ H0 _ S5 (yes a na)) (fun f t6 z => ?_) (fun _ _ z => False.elim z)
      cases f with
      | next =>
        obtain ⟨σ6, H6, S6, q6⟩ := z
        obtain ⟨p1, p2, _⟩ := S6.pin (a, ou) (by simp)
        have I6 : Inv X pins σ6 (upd H6 a (exk a C d)) t6 := track (S6.unsuite okX) p2 n0 (exk_ok p1 (zu.1.trans ec) zu.2 du) nL nC nP
        exact gone_ok I6 nd iN lc fun t7 J7 => ⟨_, _, J7, q6 p2⟩
      | brk => obtain ⟨_, _, _, q6⟩ := z; exact q6.elim
      | cont => obtain ⟨_, _, _, q6⟩ := z; exact q6.elim
      | ret u => obtain ⟨_, _, _, _, _, q6⟩ := z; exact q6.elim
    | false =>
      show wpAny _ X.A (handleBy (.ref a) X.env []) _ _ _
      refine wpAny_handleBy_nil ?_
      obtain ⟨_, _, _, ov, ws, T, oT, ts', hv, _, hw, h1, _⟩ := id fly
      unfold PySem.passOn
      refine wpAny_bind (wpAny_field hv hw h1 ?_)
      rw [if_neg (show ¬ ((Value.ref T == Value.none) = true) by simp)]
      have fin : wpAny (model X.prog X.w) X.A (setFlight (.ref a) X.env.frame) (fun _ t4 => wpAny (model X.prog X.w) X.A (throw (.ref a) : Sem Flow) (SP X pins D) X.xe t4) X.xe { t' with heap := g3 } := by
        rw [fr]
        refine HandSPX.setFlight_upZ fly fun g4 hh4 up4 => wpAny_throw (tk _ _ ?_)
        exact ⟨a, B, sI, pins, σ0, H0, cls, d, rfl, J, grd, (up0.trans up3).trans up4, .inr (.inr (by rw [sk]; exact hh4)), na, os0, ag0, no rfl⟩
      first
        | exact wpAny_bind (wpAny_pure (wpAny_bind fin))
        | exact wpAny_bind fin
  · cases f with
    | next => obtain ⟨σ1, H1, J1, q⟩ := z; exact wpAny_execs_nil ⟨σ1, H1, J1.ofTry okX, q⟩
    | brk => obtain ⟨σ1, H1, J1, q⟩ := z; exact ⟨σ1, H1, J1.ofTry okX, q⟩
    | cont => obtain ⟨σ1, H1, J1, q⟩ := z; exact ⟨σ1, H1, J1.ofTry okX, q⟩
    | ret u => obtain ⟨v, σ1, H1, J1, r, q⟩ := z; exact ⟨v, σ1, H1, J1.ofTry okX, r, q⟩
end
end GL

set_option Elab.async false
set_option linter.all false
set_option maxRecDepth 100000
set_option maxHeartbeats 2000000
namespace GL
open PySem PySem.Spec PyProof.Rows L2
/-! an own error that is raised: its __init__ copies its arguments into the fields ns (the newest first) -/
def Pk (K : PySem.W.Frag) (C : Addr) (n : Nat) (ns : List Str) (g : List Da → Option (List Da)) : Sp := fun vs H Q _ => ∃ G a ws ds es, vs = .ref a :: ws ∧ ds.length = n ∧ Same G H ∧ G a = none ∧ H a = some (exo a C none) ∧ DRs K G ws ds ∧ g ds = some es ∧
  ∀ G' H' dx us, (∀ b o, b ≠ a → H b = some o → H' b = some o) → Same G G' → Same G' H' → (∀ b o, H b = some o → G b = none → G' b = none) → H' a = some (exo a C (some dx)) → H' dx = some (exd dx (ns.zip us)) → H dx = none → dx ≠ a → G' dx = none → ns.length = us.length → DRs K G' us es → Q .non H'
theorem Pk.len {K : PySem.W.Frag} {C : Addr} {n : Nat} {ns : List Str} {g : List Da → Option (List Da)} (vs : List V) (H : Hp) (Q : VK) (E : XK) (h : Pk K C n ns g vs H Q E) : vs.length = n + 1 := by
  obtain ⟨_, a, ws, ds, es, rfl, hl, _, _, _, r, _⟩ := h
  rw [List.length_cons, r.len, hl]
section
variable {K : PySem.W.Frag} {C : Addr} {f f2 : Str} {gC : List Da → Option Da} {E : XK} {Q : VK} {a : Addr} {w w2 : V} {d d2 : Da} {G H : Hp} {D : Ends}
theorem rk_init1 (s : Same G H) (ga : G a = none) (ha : H a = some (exo a C none)) (dw : DR K G w d) (T : OexC K C) (no : PySem.W.findIn K (.ref C) f = some none) (hg : gC [d] = some d)
    (k : ∀ G' H' dx us, (∀ b o, b ≠ a → H b = some o → H' b = some o) → Same G G' → Same G' H' → (∀ b o, H b = some o → G b = none → G' b = none) → H' a = some (exo a C (some dx)) → H' dx = some (exd dx ([f].zip us)) → H dx = none → dx ≠ a → G' dx = none → [f].length = us.length → DRs K G' us [d] → Q .non H') (hD : D.nx = fun _ H' => Q .non H') :
    tOst K f (tVar 0) (tCall (Pd K 1 gC) [] E (tCons (tVar 1) tNil)) D [some (.ref a), some w] H := by
  have ev : Evd K (tCall (Pd K 1 gC) [] E (tCons (tVar 1) tNil)) [some (.ref a), some w] G d := ed_call (xs_cons (ed_var rfl dw) es_nil) rfl hg
  refine ev H s _ fun y G1 H1 n1 dy => ⟨.ref a, rfl, a, C, rfl, T, no, .inl ⟨n1.s _ _ ha, fun dx nd ne => ?_⟩⟩
  rw [hD]
  have gd : G1 dx = none := n1.b.free nd
  have g1 : G1 a = none := n1.n _ _ ha ga
  refine k G1 _ dx [y] (fun b o hb z => ?_) n1.a (fun b o z => ?_) n1.n upd_same (by rw [upd_ne ne, upd_same]; rfl) (n1.s.free nd) ne gd rfl (.cons dy .nil)
  · rw [upd_ne hb, upd_ne (ne_of_none (n1.s _ _ z) nd)]; exact n1.s _ _ z
  · rw [upd_ne (ne_of_none z g1), upd_ne (ne_of_none z gd)]; exact n1.b _ _ z
theorem rk_init2 (s : Same G H) (ga : G a = none) (ha : H a = some (exo a C none)) (dw : DR K G w d) (dw2 : DR K G w2 d2) (T : OexC K C) (no : PySem.W.findIn K (.ref C) f = some none) (no2 : PySem.W.findIn K (.ref C) f2 = some none) (hg : gC [d] = some d) (hg2 : gC [d2] = some d2)
    (k : ∀ G' H' dx us, (∀ b o, b ≠ a → H b = some o → H' b = some o) → Same G G' → Same G' H' → (∀ b o, H b = some o → G b = none → G' b = none) → H' a = some (exo a C (some dx)) → H' dx = some (exd dx ([f2, f].zip us)) → H dx = none → dx ≠ a → G' dx = none → [f2, f].length = us.length → DRs K G' us [d2, d] → Q .non H') (hD : D.nx = fun _ H' => Q .non H') :
    tSeq (tOst K f (tVar 0) (tCall (Pd K 1 gC) [] E (tCons (tVar 1) tNil))) (tOst K f2 (tVar 0) (tCall (Pd K 1 gC) [] E (tCons (tVar 2) tNil))) D [some (.ref a), some w, some w2] H := by
  have ev : Evd K (tCall (Pd K 1 gC) [] E (tCons (tVar 1) tNil)) [some (.ref a), some w, some w2] G d := ed_call (xs_cons (ed_var rfl dw) es_nil) rfl hg
  refine ev H s _ fun y G1 H1 n1 dy => ⟨.ref a, rfl, a, C, rfl, T, no, .inl ⟨n1.s _ _ ha, fun dx nd ne => ?_⟩⟩
  have gd : G1 dx = none := n1.b.free nd
  have g1 : G1 a = none := n1.n _ _ ha ga
  have s2 : Same G1 (upd (upd H1 dx (exd dx [(f, y)])) a (exo a C (some dx))) := same_upd (same_upd n1.b gd) g1
  have ev2 : Evd K (tCall (Pd K 1 gC) [] E (tCons (tVar 2) tNil)) [some (.ref a), some w, some w2] G1 d2 := ed_call (xs_cons (ed_var rfl (dw2.up n1.a)) es_nil) rfl hg2
  refine ev2 _ s2 _ fun y2 G2 H2 n2 dy2 => ?_
  have ha2 : H2 a = some (exo a C (some dx)) := n2.s _ _ upd_same
  have hd2 : H2 dx = some (exd dx [(f, y)]) := n2.s _ _ (by rw [upd_ne ne, upd_same])
  have g2 : G2 a = none := n2.n _ _ upd_same g1
  have gd2 : G2 dx = none := n2.n dx _ (by rw [upd_ne ne, upd_same]) gd
  refine ⟨.ref a, rfl, a, C, rfl, T, no2, .inr ⟨dx, _, ha2, hd2, (by show 1 ≤ 900; decide), ?_⟩⟩
  rw [hD]
  refine k G2 _ dx [y2, y] (fun b o hb z => ?_) (n1.a.trans n2.a) (fun b o z => ?_) (fun b o z w => ?_) (by rw [upd_ne (Ne.symm ne)]; exact ha2) upd_same (n1.s.free nd) ne gd2 rfl (.cons dy2 (.cons (dy.up n2.a) .nil))
  · have q1 : b ≠ dx := ne_of_none (n1.s _ _ z) nd
    rw [upd_ne q1]; exact n2.s _ _ (by rw [upd_ne hb, upd_ne q1]; exact n1.s _ _ z)
  · rw [upd_ne (ne_of_none z gd2)]; exact n2.b _ _ z
  · have q1 : b ≠ dx := ne_of_none (n1.s _ _ z) nd
    by_cases hb : b = a
    · subst hb; exact g2
    · exact n2.n b o (by rw [upd_ne hb, upd_ne q1]; exact n1.s _ _ z) (n1.n _ _ z w)
end
/-- an error with the fields ns, their data es, flies to E -/
def ErrTo (K : PySem.W.Frag) (G H : Hp) (E : XK) (C : Addr) (ns : List Str) (es : List Da) : Prop := ∀ G' H' dx us, Nw G H G' H' → H' dx = some (.xd (ns.zip us)) → ns.length = us.length → DRs K G' us es → E (.ref C) (some dx) H'
theorem ErrTo.of {K : PySem.W.Frag} {G H G1 H1 : Hp} {E : XK} {C : Addr} {ns : List Str} {es : List Da} (h : ErrTo K G H E C ns es) (n : Nw G H G1 H1) : ErrTo K G1 H1 E C ns es := fun G' H' dx us m a b c => h G' H' dx us (n.trans m) a b c
/-- raise C(e, ..) -/
theorem rz_mk {K : PySem.W.Frag} {σ : L2.St} {G H : Hp} {C : Addr} {n : Nat} {ns : List Str} {g : List Da → Option (List Da)} {ta : TA} {ds es : List Da} {Q : XK} (s : Same G H) (h : Evs K ta σ G ds) (hn : ds.length = n) (h1 : n ≤ 1000) (hg : g ds = some es) (k : ErrTo K G H Q C ns es) :
    tMkO C (Pk K C n ns g) [] ta σ H Q := h H s _ fun vs G1 H1 n1 dvs => ⟨by rw [dvs.len, hn]; exact h1, fun a ha => by
  have g1 : G1 a = none := n1.b.free ha
  rw [List.append_nil]
  refine ⟨G1, a, vs, ds, es, rfl, hn, same_upd n1.b g1, g1, upd_same, dvs, hg, fun G' H' dx us k1 k2 k3 k4 e1 e2 e3 ne e4 e5 dd => ⟨rfl, dx, ns.zip us, e1, e2, ?_, ?_⟩⟩
  · rw [upd_ne ne] at e3; exact e3
  · have h1d : H1 dx = none := by rw [upd_ne ne] at e3; exact e3
    have ga : G' a = none := k4 a _ upd_same g1
    refine k G' _ dx us (n1.trans ⟨fun b o z => ?_, k2, fun b o z => ?_, fun b o z w => k4 b o (by rw [upd_ne (ne_of_none z ha)]; exact z) w⟩) upd_same e5 dd
    · rw [upd_ne (ne_of_none z h1d), del_ne (ne_of_none z ha)]
      exact k1 b o (ne_of_none z ha) (by rw [upd_ne (ne_of_none z ha)]; exact z)
    · rw [upd_ne (ne_of_none z e4), del_ne (ne_of_none z ga)]
      exact k3 _ _ z⟩
/-! a kept error: its fields, its class -/
def tOfk (K : PySem.W.Frag) (f : Str) (te : TE) : TE := fun σ H Q => te σ H fun x H1 => ∃ (a C dx : Addr) (fs : List (Str × V)) (v : V), x = .ref a ∧ OGet K C ∧ PySem.W.findIn K (.ref C) f = some none ∧ H1 a = some (exk a C (some dx)) ∧ H1 dx = some (.xd fs) ∧ fs.lookup f = some v ∧ Q v H1
def rIsK (K : PySem.W.Frag) : List V → Hp → VK → Prop := fun xs H Q => ∃ (a C dx : Addr) (fs : List (Str × V)) (c : V) (u : Value) (b : Bool), xs = [.ref a, c] ∧ ClsV c u ∧ OGet K C ∧ H a = some (exk a C (some dx)) ∧ H dx = some (.xd fs) ∧ PySem.W.kitOne K (.ref C) u = some b ∧ Q (.bl b) H
section
variable {X : Cx} {K : PySem.W.Frag} {e : Expr} {es : List Expr} {te : TE} {t : TA} {f : Str} {p pos : Pos}
theorem xd_at {P : Program} {w : World} {H : Hp} {h : Heap} {dx : Addr} {fs : List (Str × V)} (ok : HOk P w H h) (e : H dx = some (.xd fs)) : ∃ mA, h.Ns1 dx mA ∧ ∀ f, RelO (fs.lookup f) (mA f) := ok dx _ e
theorem pe_ofk (hK : X.K = K) (he : PE X e te) (hb : attributeBase e f X.env (eval e X.env) = eval e X.env := by rfl) : PE X (.Attribute e f pos) (tOfk K f te) := by
  subst hK
  refine ⟨fun pins s σ H Q I h => attr_of hb (thn (he.run pins s σ H _ I h) fun u s1 ⟨x, H1, I1, rx, a, C, dx, fs, v, ex, T, hno, ea, ed, hl, q⟩ => ?_)⟩
  subst ex
  obtain rfl : u = Value.ref a := rx
  obtain ⟨ob, vs, ho, hc, hd, hf⟩ := exk_at I1.hok ea
  obtain ⟨mA, hns, rel⟩ := xd_at I1.hok ed
  obtain ⟨od, hod, hlk⟩ := lookIn_ns hns
  obtain ⟨u, hu, ru⟩ := RelO.some_of (v := v) (o := mA f) (by rw [← hl]; exact rel f)
  have J : PySem.W.InstAt s1.heap a ob C (some od) := ⟨ho, hc, by unfold PySem.W.notCls; rw [hf], by rw [hd]; exact hod⟩
  exact HandSPX.exc_get I1.kIn J T.hg T.hk T.hs (PySem.W.findObj_own T.hd hno rfl (by rw [hlk, hu])) (handed_of ru) ⟨v, H1, I1.tok _, ru, q⟩
theorem pe_isK (hK : X.K = K) (hm : X.mg "isinstance" = none) (hg : Gl X "isinstance") (ha : PA X (e :: es) t) (he : starEach (e :: es) X.env = (false, eval e X.env) :: starEach es X.env := by rfl) (hpl : (backTo pos (starEach es X.env)).any (·.1) = false := by rfl) :
    PE X (.Call (.Name "isinstance" p) (e :: es) [] pos) (tCB (rIsK K) t) := by
  subst hK
  refine pe_callB (fun pins s σ H xs us Q I r h => ?_) hg hm PyProof.Rows.boot_isinstance ha (by decide) (by decide) he hpl
  obtain ⟨a, C, dx, fs, c, u, b, rfl, kc, T, ea, ed, e, q⟩ := h
  obtain ⟨u1, u2, rfl, r1, r2⟩ := vals2 r
  have e2 := kc.eq r2
  subst e2
  obtain rfl : u1 = Value.ref a := r1
  obtain ⟨ob, vs, ho, hc, hd, hf⟩ := exk_at I.hok ea
  obtain ⟨mA, hns, rel⟩ := xd_at I.hok ed
  obtain ⟨od, hod, hlk⟩ := lookIn_ns hns
  have J : PySem.W.InstAt s.heap a ob C (some od) := ⟨ho, hc, by unfold PySem.W.notCls; rw [hf], by rw [hd]; exact hod⟩
  exact PySem.W.kia_one (PySem.W.kitx_exc T.hc T.hg T.hk T.hs T.ha T.hn T.ht T.hm) I.kIn J e (fun z => nomatch z) fun tk => ⟨.bl b, H, I.tok tk, rfl, q⟩
end
end GL

set_option Elab.async false
set_option linter.all false
set_option autoImplicit false
set_option maxRecDepth 100000
set_option maxHeartbeats 2000000
namespace GL
open PySem PySem.Spec PyProof.Rows L2
/-! texts as data: walks over their signs, over a range, len, in, split, all -/
section
variable {K : PySem.W.Frag} {σ : L2.St} {G : Hp} {te ta tb tc : TE} {tt : TT} {d : Da} {ds : List Da} {g : TG} {vs : List Nat} {z y : Str} {i j : Int} {b : Bool}
/-- a comprehension over anything whose items are fixed: flat values xs, as data ds -/
theorem ed_lcJ {wi : TI} (J : It) (xs : List V) (p : Da → Bool) (f : Da → Da) (hwi : ∀ H, Same G H → ∀ R : It → Hp → Prop, (∀ G1 H1, Nw G H G1 H1 → R J H1) → wi σ H R)
    (j1 : ∀ i H, xs.length ≤ i → J.stop i H) (j2 : ∀ i H, i < xs.length → J.go i H) (j3 : ∀ i H v H', i < xs.length → J.yld i H v H' → H' = H ∧ xs[i]? = some v) (hx : ∀ G', DRs K G' xs ds) (hz : ds.length ≤ 1000)
    (hs : ∀ x d G' H', Same G G' → Same G' H' → d ∈ ds → DR K G' x d → ∃ σ2, (∀ k : L2.St → Hp → Prop, k σ2 H' → g x (wipe σ vs) H' k) ∧ wipe σ2 vs = wipe σ vs ∧ Evt tt σ2 G' (p d) ∧ (p d = true → ∀ G2, Same G' G2 → Evd K te σ2 G2 (f d))) :
    Evd K (tLc wi g tt te vs) σ G (.lst ((ds.filter p).map f)) := fun H e Q q => hwi H e _ fun G1 H1 n1 D hD => by
  have gD : G1 D = none := n1.b.free hD
  have lx : xs.length = ds.length := (hx G).len
  let Pv : Nat → Hp → Prop := fun i H' => ∃ G' acc, Same H1 H' ∧ Same G1 G' ∧ Same G' H' ∧ G' D = none ∧ (∀ b o, H1 b = some o → G1 b = none → G' b = none) ∧ H' D = some (.lst acc) ∧ DRs K G' acc (((ds.take i).filter p).map f)
  refine ⟨fun i m H' => m = xs.length - i ∧ i ≤ xs.length ∧ Pv i H', ⟨xs.length, by simp, Nat.zero_le _, G1, [], same_upd (Same.refl _) hD, Same.refl _, same_upd n1.b gD, gD, fun _ _ _ z => z, upd_same, by simpa using DRs.nil⟩, ?_⟩
  rintro i m H' ⟨rfl, hi, G', acc, s1, s2, s3, gd, nn, hd, dr⟩
  by_cases hlt : i < xs.length
  · refine .inr ⟨j2 i H' hlt, Pv (i + 1), fun H2 p2 => ⟨xs.length - (i + 1), by omega, rfl, hlt, p2⟩, fun x H2 hy => ?_⟩
    obtain ⟨rfl, hxi⟩ := j3 i H' x H2 hlt hy
    obtain ⟨d, hdi, dx⟩ := (hx G').get hxi
    have hmem : d ∈ ds := List.mem_of_getElem? hdi
    have lacc : acc.length ≤ 1000 := by
      rw [dr.len, List.length_map]
      exact Nat.le_trans (Nat.le_trans (List.length_filter_le _ _) (by rw [List.length_take]; omega)) hz
    have step : (ds.take (i + 1)).filter p = (ds.take i).filter p ++ (if p d = true then [d] else []) := by
      rw [List.take_succ, hdi, List.filter_append]
      by_cases hp : p d = true
      · simp [hp]
      · simp [hp]
    obtain ⟨σ2, k1, k2, k3, k4⟩ := hs x d G' H2 (n1.a.trans s2) s3 hmem dx
    refine k1 _ ⟨k2, k3 H2 s3 _ fun G2 H3 n2 => ?_⟩
    have gd2 : G2 D = none := n2.n _ _ hd gd
    cases hp : p d with
    | true =>
      show te σ2 H3 _
      refine k4 hp G2 n2.a H3 n2.b _ fun y G3 H4 n3 dy => ⟨acc, n3.s _ _ (n2.s _ _ hd), small1000 lacc, G3, acc ++ [y], same_upd ((s1.trans n2.s).trans n3.s) hD, (s2.trans n2.a).trans n3.a, same_upd n3.b (n3.n _ _ (n2.s _ _ hd) gd2), n3.n _ _ (n2.s _ _ hd) gd2, fun b o z w => ?_, upd_same, ?_⟩
      · exact n3.n _ _ (n2.s _ _ (s1 _ _ z)) (n2.n _ _ (s1 _ _ z) (nn _ _ z w))
      · rw [step, if_pos hp, List.map_append]
        exact DRs.app ((dr.up n2.a).up n3.a) (.cons dy .nil)
    | false =>
      show Pv (i + 1) H3
      refine ⟨G2, acc, s1.trans n2.s, s2.trans n2.a, n2.b, gd2, fun b o z w => n2.n _ _ (s1 _ _ z) (nn _ _ z w), n2.s _ _ hd, ?_⟩
      rw [step, if_neg (by rw [hp]; exact Bool.false_ne_true), List.append_nil]
      exact dr.up n2.a
  · have ei : i = xs.length := by omega
    subst ei
    refine .inl ⟨j1 _ _ (Nat.le_refl _), ?_⟩
    rw [lx, List.take_length] at dr
    have up1 : Same G' (upd G' D (.lst acc)) := same_upd (Same.refl _) gd
    refine q (.ref D) (upd G' D (.lst acc)) H' (n1.trans ⟨s1, s2.trans up1, fun b o z => ?_, fun b o z w => ?_⟩) (.lst upd_same (dr.up up1))
    · by_cases hb : b = D
      · subst hb; rw [upd_same] at z; cases z; exact hd
      · rw [upd_ne hb] at z; exact s3 _ _ z
    · rw [upd_ne (ne_of_none z hD)]
      exact nn _ _ z w
theorem drs_map {α : Type} {K : PySem.W.Frag} {G : Hp} {f : α → V} {g : α → Da} (h : ∀ a, DR K G (f a) (g a)) : ∀ xs : List α, DRs K G (xs.map f) (xs.map g)
  | [] => .nil
  | a :: r => .cons (h a) (drs_map h r)
def sgn (c : Nat) : Str := ⟨#[c]⟩
/-- over the signs of a text -/
theorem ed_lcS (p : Da → Bool) (f : Da → Da) (h : Evd K tb σ G (.str z)) (hz : z.length ≤ 1000)
    (hs : ∀ x d G' H', Same G G' → Same G' H' → d ∈ z.cps.toList.map (fun c => Da.str (sgn c)) → DR K G' x d → ∃ σ2, (∀ k : L2.St → Hp → Prop, k σ2 H' → g x (wipe σ vs) H' k) ∧ wipe σ2 vs = wipe σ vs ∧ Evt tt σ2 G' (p d) ∧ (p d = true → ∀ G2, Same G' G2 → Evd K te σ2 G2 (f d))) :
    Evd K (tLc (iStr tb) g tt te vs) σ G (.lst (((z.cps.toList.map fun c => Da.str (sgn c)).filter p).map f)) :=
  ed_lcJ (Its z) (z.cps.toList.map fun c => V.str (sgn c)) p f (fun H e R k => h H e _ fun v G1 H1 n1 dv => by cases dv; exact ⟨z, rfl, k G1 H1 n1⟩)
    (fun i H hi => by rw [List.length_map, Array.length_toList] at hi; exact hi) (fun i H hi => by rw [List.length_map, Array.length_toList] at hi; exact hi)
    (fun i H v H' hi ⟨e, c, hc, hv⟩ => ⟨e, by rw [List.getElem?_map, Array.getElem?_toList, hc, hv]; rfl⟩) (fun G' => drs_map (fun c => .str _) _) (by rw [List.length_map, Array.length_toList]; exact hz) hs
/-- over range(n) -/
theorem ed_lcR {n : Nat} (p : Da → Bool) (f : Da → Da) (h : Evd K tb σ G (.int (n : Int))) (hz : n ≤ 1000)
    (hs : ∀ x d G' H', Same G G' → Same G' H' → d ∈ (List.range n).map (fun k : Nat => Da.int (k : Int)) → DR K G' x d → ∃ σ2, (∀ k : L2.St → Hp → Prop, k σ2 H' → g x (wipe σ vs) H' k) ∧ wipe σ2 vs = wipe σ vs ∧ Evt tt σ2 G' (p d) ∧ (p d = true → ∀ G2, Same G' G2 → Evd K te σ2 G2 (f d))) :
    Evd K (tLc (iRng1 (tCons tb tNil)) g tt te vs) σ G (.lst (((List.range n).map fun k : Nat => Da.int (k : Int)).filter p |>.map f)) :=
  ed_lcJ (Itr 0 n) ((List.range n).map fun k : Nat => V.int (k : Int)) p f (fun H e R k => h H e _ fun v G1 H1 n1 dv => by cases dv; exact ⟨(n : Int), rfl, by omega, by omega, k G1 H1 n1⟩)
    (fun i H hi => by rw [List.length_map, List.length_range] at hi; exact hi) (fun i H hi => by rw [List.length_map, List.length_range] at hi; exact hi)
    (fun i H v H' hi ⟨e, hv⟩ => ⟨e, by rw [List.length_map, List.length_range] at hi; rw [List.getElem?_map, List.getElem?_range hi, hv]; simp⟩) (fun G' => drs_map (fun c => .int _) _) (by rw [List.length_map, List.length_range]; exact hz) hs
/-! len, order, in -/
def rLenS1 : List V → Hp → VK → Prop := fun xs H Q => ∃ z, xs = [.str z] ∧ z.length ≤ sizeLine ∧ Q (.int z.length) H
theorem ed_lenS (h : Evd K te σ G (.str z)) (hz : z.length ≤ 1000) : Evd K (tCB rLenS1 (tCons te tNil)) σ G (.int z.length) := fun H e Q q => h H e _ fun v G1 H1 n1 dv => by
  cases dv
  exact ⟨z, rfl, sizeK hz, q _ G1 H1 n1 (.int _)⟩
/-- a <= x <= b -/
theorem ed_le2 {a x c : Int} (ha : Evd K ta σ G (.int a)) (hb : Evd K tb σ G (.int x)) (hc : Evd K tc σ G (.int c)) :
    Evd K (tChain (rI0 fun i j => .bl (decide (i ≤ j))) (rI0 fun i j => .bl (decide (i ≤ j))) ta tb tc) σ G (.bl (decide (a ≤ x) && decide (x ≤ c))) := fun H e Q q => ha H e _ fun v G1 H1 n1 dv => hb.up n1.a H1 n1.b _ fun w G2 H2 n2 dw => by
  cases dv; cases dw
  refine ⟨a, x, rfl, rfl, _, rfl, ?_⟩
  cases h1 : decide (a ≤ x) with
  | true =>
    show tc σ H2 _
    refine hc.up (n1.a.trans n2.a) H2 n2.b _ fun u G3 H3 n3 du => ?_
    cases du
    exact ⟨x, c, rfl, rfl, q _ G3 H3 ((n1.trans n2).trans n3) (by rw [h1]; exact .bl _)⟩
  | false =>
    show Q (.bl false) H2
    exact q _ G2 H2 (n1.trans n2) (by rw [h1]; exact .bl _)
theorem ed_inS {c : Nat} (ha : Evd K ta σ G (.str (sgn c))) (hb : Evd K tb σ G (.str y)) : Evd K (tOp rInS ta tb) σ G (.bl (decide (c ∈ y.cps.toList))) :=
  ed_two ha (fun _ s => hb.up s) fun v w G' H' _ e dv dw Q q => by
    cases dv; cases dw
    unfold rInS
    exact ⟨c, y, rfl, rfl, q _ G' H' (Nw.refl e) (.bl _)⟩
theorem ed_notInS {c : Nat} (ha : Evd K ta σ G (.str (sgn c))) (hb : Evd K tb σ G (.str y)) : Evd K (tOp rNotInS ta tb) σ G (.bl (!decide (c ∈ y.cps.toList))) :=
  ed_two ha (fun _ s => hb.up s) fun v w G' H' _ e dv dw Q q => by
    cases dv; cases dw
    unfold rNotInS
    exact ⟨c, y, rfl, rfl, q _ G' H' (Nw.refl e) (.bl _)⟩
theorem bls_of : ∀ {G : Hp} {xs : List V} (bs : List Bool), DRs K G xs (bs.map Da.bl) → xs = bs.map V.bl
  | _, _, [], h => by cases h; rfl
  | _, _, b :: bs, h => by cases h with | cons h1 h2 => cases h1; rw [bls_of bs h2]; rfl
theorem strs_of : ∀ {G : Hp} {xs : List V} (zs : List Str), DRs K G xs (zs.map Da.str) → xs = zs.map V.str
  | _, _, [], h => by cases h; rfl
  | _, _, b :: bs, h => by cases h with | cons h1 h2 => cases h1; rw [strs_of bs h2]; rfl
/-- all(list of truth values) -/
theorem ed_all {bs : List Bool} (h : Evd K te σ G (.lst (bs.map Da.bl))) : Evd K (tCB (rAll K) (tCons te tNil)) σ G (.bl (bs.all id)) := fun H e Q q => h H e _ fun v G1 H1 n1 dv => by
  cases dv with
  | lst h1 h2 => exact ⟨_, bs, rfl, by rw [← bls_of bs h2]; exact SqL.of (n1.b _ _ h1), q _ G1 H1 n1 (.bl _)⟩
/-- a text in a list of texts -/
theorem inV_strs (w : Str) : ∀ zs : List Str, inV (.str w) (zs.map V.str) = zs.contains w
  | [] => rfl
  | z :: zs => by
    have ih := inV_strs w zs
    unfold inV at ih ⊢
    rw [List.map_cons, List.any_cons, ih, List.contains_cons]
    congr 1
    show (z == w) = (w == z)
    exact Bool.beq_comm
theorem flat_strs' (zs : List Str) : (zs.map V.str).all flatV = true := by
  rw [List.all_map]
  exact List.all_eq_true.mpr fun _ _ => rfl
theorem ed_inL {w : Str} {zs : List Str} (ha : Evd K ta σ G (.str w)) (hb : Evd K tb σ G (.lst (zs.map Da.str))) : Evd K (tOp (rIn K false) ta tb) σ G (.bl (zs.contains w)) :=
  ed_two ha (fun _ s => hb.up s) fun v u G' H' _ e dv du Q q => by
    cases dv
    cases du with
    | lst h1 h2 =>
      have e1 := strs_of zs h2
      subst e1
      exact ⟨_, _, rfl, .inl (SqL.of (e _ _ h1)), rfl, flat_strs' zs, by rw [if_neg Bool.false_ne_true, inV_strs]; exact q _ G' H' (Nw.refl e) (.bl _)⟩
theorem ed_notInL {w : Str} {zs : List Str} (ha : Evd K ta σ G (.str w)) (hb : Evd K tb σ G (.lst (zs.map Da.str))) : Evd K (tOp (rIn K true) ta tb) σ G (.bl (!zs.contains w)) :=
  ed_two ha (fun _ s => hb.up s) fun v u G' H' _ e dv du Q q => by
    cases dv
    cases du with
    | lst h1 h2 =>
      have e1 := strs_of zs h2
      subst e1
      exact ⟨_, _, rfl, .inl (SqL.of (e _ _ h1)), rfl, flat_strs' zs, by rw [if_pos rfl, inV_strs]; exact q _ G' H' (Nw.refl e) (.bl _)⟩
/-- a.split(b) -/
theorem ed_split (ha : Evd K ta σ G (.str z)) (hb : Evd K tb σ G (.str y)) (hy : (y.length == 0) = false) (hz : z.length ≤ 900) :
    Evd K (tM1 (fun x xs H Q => ∃ a b, x = .str a ∧ xs = [.str b] ∧ (b.length == 0) = false ∧ a.length + 2 ≤ sizeLine ∧ rNewStrs (Txt.split a b) H Q) ta tb) σ G (.lst ((Txt.split z y).map Da.str)) := fun H e Q q => ha H e _ fun v G1 H1 n1 dv => by
  cases dv
  refine ⟨⟨z, rfl⟩, hb.up n1.a H1 n1.b _ fun u G2 H2 n2 du => ?_⟩
  cases du
  refine ⟨z, y, rfl, rfl, hy, Nat.le_trans (show z.length + 2 ≤ 1000 by omega) (by decide), fun p hp => ?_⟩
  have n3 := Nw.new (o := .lst ((Txt.split z y).map V.str)) n2.b hp
  exact q (.ref p) _ _ ((n1.trans n2).trans n3) (.lst upd_same (drs_map (fun c => .str c) _))
/-- str(int) -/
def rStrI : List V → Hp → VK → Prop := fun xs H Q => ∃ i, xs = [.int i] ∧ i.natAbs.log2 < 1920 ∧ Q (.str (toString i)) H
theorem ed_strI (h : Evd K te σ G (.int i)) (hi : i.natAbs.log2 < 1920) : Evd K (tCB rStrI (tCons te tNil)) σ G (.str (toString i)) := fun H e Q q => h H e _ fun v G1 H1 n1 dv => by
  cases dv
  exact ⟨i, rfl, hi, q _ G1 H1 n1 (.str _)⟩
/-- text + text -/
def rCatS1 : R2 := fun x y H Q => ∃ i j, x = .str i ∧ y = .str j ∧ i.length + j.length ≤ sizeLine ∧ Q (.str (i ++ j)) H
theorem ed_catS (ha : Evd K ta σ G (.str z)) (hb : Evd K tb σ G (.str y)) (hz : z.length + y.length ≤ 1000) : Evd K (tOp rCatS1 ta tb) σ G (.str (z ++ y)) :=
  ed_two ha (fun _ s => hb.up s) fun v w G' H' _ e dv dw Q q => by
    cases dv; cases dw
    exact ⟨z, y, rfl, rfl, sizeK hz, q _ G' H' (Nw.refl e) (.str _)⟩
/-- text[a:b] -/
theorem ed_slS {tl th : TO} {lo hi : Option Int} (h : Evd K te σ G (.str z)) (hz : z.length ≤ 1000) (hl : ∀ H Q, Q lo H → tl σ H Q) (hh : ∀ H Q, Q hi H → th σ H Q) : Evd K (tSl C8.rSlX te tl th) σ G (.str (Txt.slice z lo hi)) := fun H e Q q => h H e _ fun v G1 H1 n1 dv => by
  cases dv
  refine hl _ _ (hh _ _ ?_)
  unfold C8.rSlX
  exact ⟨z, rfl, sizeK hz, q _ G1 H1 n1 (.str _)⟩
end
end GL

set_option Elab.async false
set_option linter.all false
set_option autoImplicit false
set_option maxRecDepth 100000
set_option maxHeartbeats 2000000
namespace GL
open PySem PySem.Spec PyProof.Rows L2
/-- a def that may be called by its name, wherever there is room -/
structure CalO (P : Program) (w : World) (K : PySem.W.Frag) (mg : Str → Option Value) (base : Heap) (k : Nat) (x : Str) (ps : List Str) (sp : Sp) : Prop where
  ex : ∃ f fd, FnOk P w K mg base CX0 k f fd ps sp ∧ mg x = some (.ref f) ∧ PySem.W.keepIn K (.ref f) = true ∧ L2.Binds K fd ps []
section
variable {X : Cx} {k : Nat} {x : Str} {ps : List Str} {sp : Sp} {p pos : Pos} {e : Expr} {es : List Expr} {t : TA} {te ta tb : TE} {z : Str} {i : Int}
theorem pe_calO (c : CalO X.prog X.w X.K X.mg X.base k x ps sp) (hr : Room k X.A) (hg : Gl X x) (ha : PA X (e :: es) t) (hdb : (x == ("__debug__" : Str)) = false := by decide)
    (he : starEach (e :: es) X.env = (false, eval e X.env) :: starEach es X.env := by rfl) (hpl : (backTo pos (starEach es X.env)).any (·.1) = false := by rfl) : PE X (.Call (.Name x p) (e :: es) [] pos) (tCall sp [] E0 t) := by
  obtain ⟨f, fd, F, hm, hk, hb⟩ := c.ex
  exact pe_call F hr hg hm hk hb .nil pass0 ha hdb he hpl
/-- a constant of the program's top -/
theorem pe_kS (h : ∃ t, X.mg x = some (.str z t)) (hg : Gl X x) (hd : (x == ("__debug__" : Str)) = false := by decide) : PE X (.Name x pos) (tC (.str z)) := by
  obtain ⟨t, h⟩ := h
  exact pe_glob hg h ⟨t, rfl⟩ hd
theorem pe_kI (h : ∃ t, X.mg x = some (.int i t)) (hg : Gl X x) (hd : (x == ("__debug__" : Str)) = false := by decide) : PE X (.Name x pos) (tC (.int i)) := by
  obtain ⟨t, h⟩ := h
  exact pe_glob hg h ⟨t, rfl⟩ hd
end
section
variable {K : PySem.W.Frag} {σ : L2.St} {G : Hp} {te ta tb : TE} {d : Da} {ds : List Da} {i j : Int} {b : Bool} {C : Addr} {f : Str}
/-- len of a list of data -/
theorem ed_lenL (h : Evd K te σ G (.lst ds)) : Evd K (tCB (fun xs H Q => ∃ p ys, xs = [.ref p] ∧ (SqL K H p ys ∨ SqT K H p ys) ∧ Q (.int ys.length) H) (tCons te tNil)) σ G (.int ds.length) := fun H e Q q => h H e _ fun v G1 H1 n1 dv => by
  cases dv with
  | lst h1 h2 => exact ⟨_, _, rfl, .inl (SqL.of (n1.b _ _ h1)), q _ G1 H1 n1 (by rw [h2.len]; exact .int _)⟩
theorem ed_neI (ha : Evd K ta σ G (.int i)) (hb : Evd K tb σ G (.int j)) (hz : (!decide (i = j)) = b) : Evd K (tOp rNe ta tb) σ G (.bl b) := ed_two ha (fun _ s => hb.up s) fun v w G' H' _ e dv dw Q k => by
  cases dv; cases dw
  have z : (!decide (V.int i = V.int j)) = b := by rw [← hz]; simp
  exact ⟨rfl, by rw [z]; exact k _ G' H' (Nw.refl e) (.bl b)⟩
theorem ed_eqI (ha : Evd K ta σ G (.int i)) (hb : Evd K tb σ G (.int j)) (hz : decide (i = j) = b) : Evd K (tOp rEq ta tb) σ G (.bl b) := ed_two ha (fun _ s => hb.up s) fun v w G' H' _ e dv dw Q k => by
  cases dv; cases dw
  have z : decide (V.int i = V.int j) = b := by rw [← hz]; simp
  exact ⟨rfl, by rw [z]; exact k _ G' H' (Nw.refl e) (.bl b)⟩
theorem ed_gtI (ha : Evd K ta σ G (.int i)) (hb : Evd K tb σ G (.int j)) (hz : decide (j < i) = b) : Evd K (tOp (rI0 fun i j => .bl (decide (j < i))) ta tb) σ G (.bl b) := ed_two ha (fun _ s => hb.up s) fun v w G' H' _ e dv dw Q k => by
  cases dv; cases dw
  subst hz
  exact ⟨i, j, rfl, rfl, k _ G' H' (Nw.refl e) (.bl _)⟩
theorem ed_addI (ha : Evd K ta σ G (.int i)) (hb : Evd K tb σ G (.int j)) : Evd K (tOp (rI0 fun i j => .int (i + j)) ta tb) σ G (.int (i + j)) := ed_two ha (fun _ s => hb.up s) fun v w G' H' _ e dv dw Q k => by
  cases dv; cases dw
  exact ⟨i, j, rfl, rfl, k _ G' H' (Nw.refl e) (.int _)⟩
/-- a constant of a class -/
theorem ed_cval {mc u : Value} {v : V} (h : Evd K te σ G (.obj C)) (c : ClX.CRead K C mc) (k : ClX.CVal K C mc f v u) (hd : ∀ G', DR K G' v d) : Evd K (ClX.tCVal K te f) σ G d := fun H e Q q => h H e _ fun w G1 H1 n1 dw => by
  cases dw
  exact ⟨C, mc, v, u, rfl, c, k, q v G1 H1 n1 (hd G1)⟩
end
end GL

set_option Elab.async false
set_option linter.all false
set_option autoImplicit false
set_option maxRecDepth 100000
set_option maxHeartbeats 2000000
namespace GL
open PySem PySem.Spec PyProof.Rows L2
/-! a, b = a list -/
section
variable {prog : Program} {w : World} {A : Around} {E : Value → Shared → Prop} {s : Shared}
theorem draw_lst {it l : Addr} {items : Array Value} (apart : l ≠ it) : ∀ (n i : Nat) (s : Shared) (Q : List Value → Shared → Prop), s.heap.IsListIter it l i → s.heap.IsList l items → i + n ≤ items.size →
    (∀ g, g.IsListIter it l (i + n) → Heap.SameBut it s.heap g → Q ((items.toList.drop i).take n) { s with heap := g }) → wpAny (model prog w) A (draw (.ref it) n) Q E s
  | 0, i, s, Q, st, _, _, q => by
    show wpAny _ _ (pure []) Q E s
    exact wpAny_pure (by simpa using q s.heap st (Heap.SameBut.refl ..))
  | n + 1, i, s, Q, st, il, le, q => by
    have lt : i < items.size := by omega
    show wpAny _ _ (pyNext (.ref it) >>= _) Q E s
    refine wpAny_bind (wpAny_pyNext_list_item st il (x := items[i]) (by simp [lt]) fun g1 st1 same1 => ?_)
    refine wpAny_bind (wpAny_holding (draw_lst apart n (i + 1) _ _ st1 (il.extBut same1.extBut apart) (by omega) fun g2 st2 same2 => wpAny_pure ?_))
    have cut : items.toList.drop i = items[i] :: items.toList.drop (i + 1) := by simp [List.drop_eq_getElem_cons, lt]
    have z := q g2 (by rw [show i + (n + 1) = i + 1 + n by omega]; exact st2) (same1.trans same2)
    rw [cut, List.take_succ_cons] at z
    exact z
theorem unpack_lst {l : Addr} {items : Array Value} {Q : List Value → Shared → Prop} (calm : A.handled = none) (il : s.heap.IsList l items) (q : ∀ g, Heap.ExtBut s.heap.objs.size s.heap g → Q items.toList { s with heap := g }) :
    wpAny (model prog w) A (unpackItems (.ref l) items.size none) Q E s := by
  have apart : l ≠ s.heap.objs.size := by obtain ⟨o, ho, _⟩ := il; exact Nat.ne_of_lt (Heap.lt_size ho)
  unfold unpackItems
  refine wpAny_bind ?_
  unfold notIterableAtAll
  refine wpAny_bind (wpAny_specialOf il.typeIs slot_list_iter.lookup (wpAny_pure ?_))
  simp only [Bool.false_eq_true, if_false]
  refine wpAny_bind (wpAny_holding (wpAny_pyIter_list il ?_))
  refine wpAny_bind (wpAny_holding (draw_lst apart items.size 0 _ _ ⟨_, Heap.get?_push_size _ rfl, rfl, rfl⟩ (il.push _) (by omega) fun g1 st1 same1 => ?_))
  have whole : List.take items.size (List.drop 0 items.toList) = items.toList := by
    rw [List.drop_zero]; exact List.take_of_length_le (by simp)
  rw [whole, if_neg (by simp)]
  have il1 : g1.IsList l items := (il.push _).extBut same1.extBut apart
  refine wpAny_bind (wpAny_holding (wpAny_pyNext_list_end calm st1 il1 (by simp) fun g2 ext2 => ?_))
  simp only [Option.isSome_none, Bool.false_eq_true, if_false]
  exact wpAny_pure (q g2 fun b o hb e => ext2 b o hb (same1.extBut b o hb (Heap.get?_push_of_some _ e)))
end
def gTupL (K : PySem.W.Frag) (n : Nat) (t : TGs) : TG := fun v σ H Q => ∃ a xs, v = .ref a ∧ SqL K H a xs ∧ xs.length = n ∧ t xs σ H Q
section
variable {X : Cx} {pos : Pos}
theorem pg_tupL {es : List Expr} {k : Nat} {t : TGs} {n : Nat} (calm : X.calm = true) (h : PGs X es t) (hn : (assignEach es X.env).length = n := by rfl) (hst : (assignEach es X.env).findIdx? (·.1) = none := by rfl) : PG X (.Tuple es k pos) (gTupL X.K n t) := by
  refine ⟨fun pins s σ H v u Q I r ⟨a, xs, ev, hq, hl, z⟩ => ?_⟩
  subst ev
  cases r
  obtain ⟨its, rv, pl, hz⟩ := I.list hq
  rw [assign_Tuple]
  refine wpAny_bind (wpAny_standAt ?_)
  unfold unpack
  have hsz : (assignEach es X.env).length = its.toArray.size := by rw [hn, ← hl, rv.length, List.size_toArray]
  rw [hsz, hst]
  refine wpAny_bind (wpAny_holding (unpack_lst (I.ok.hd calm) pl.isList fun g ext => ?_))
  have I1 : Inv X pins σ H { s with heap := g } := I.kept (t' := s.toks) fun b o e => ext b o (Nat.ne_of_lt (Heap.lt_size e)) e
  exact h.run pins _ σ H xs _ Q I1 (by simpa using rv) z
end
/-! c(e, ..), c a name that holds the class at C -/
section
variable {X : Cx} {CX : CXT} {k n : Nat} {f C : Addr} {fd : FuncData} {ps ks : List Str} {sp : Sp} {E : XK} {x : Str} {p pos : Pos} {e : Expr} {es : List Expr} {t : TA} {g : List Value → List Value → List Value} {gV : List V → List V → List V}
theorem pe_makeV {i : Nat} (M : Mk X.K C f) (F : FnOk X.prog X.w X.K X.mg X.base CX k f fd ps sp) (hr : Room (k + 1) X.A) (hi : X.N[i]? = some x) (hv : Vis X.env.scope x) (hb : KBn X.K fd ps (n + 1) [] g gV) (hx : Passes CX X E) (ha : PA X (e :: es) t)
    (hd : (x == ("__debug__" : Str)) = false := by decide) (hcd : (x == ("__classdict__" : Str)) = false := by decide) (he : starEach (e :: es) X.env = (false, eval e X.env) :: starEach es X.env := by rfl) (hpl : (backTo pos (starEach es X.env)).any (·.1) = false := by rfl) :
    PE X (.Call (.Name x p) (e :: es) [] pos) (fun σ H Q => σ[i]? = some (some (.ref C)) ∧ tMakeN C n 0 sp gV E t tNil σ H Q) := by
  refine ⟨fun pins s σ H Q I ⟨h0, h⟩ => ?_⟩
  refine wpAny_Call_Name_kw (thn ((pe_var (pos := p) (i := i) hi hv hd hcd).run pins s σ H (fun v H1 => v = .ref C ∧ H1 = H) I ⟨.ref C, h0, rfl, rfl⟩) fun u s1 ⟨v, H1, I1, r1, ev, eH⟩ => ?_)
  subst ev eH
  obtain rfl : u = Value.ref C := r1
  refine PySem.W.callWith_K (h₀ := X.base) I1.ok.mod.kin M.kp (thn (ha.run pos pins s1 σ _ _ I1 h) fun us s2 ⟨vs, H2, I2, r, l1, q⟩ => ⟨I2.kIn, ?_⟩) he hpl
  obtain ⟨l2, q⟩ := q
  exact run_makeN (us := us) (ws := []) (zs := []) M F hr hb hx I2 r .nil l1 rfl q
end
/-! instances that never change, as data -/
def PiN (K : PySem.W.Frag) (C : Addr) (n : Nat) (R : List Da → List Str → List Da → Prop) : Sp := fun vs H Q _ => ∃ G a dx ws ds ns es, vs = .ref a :: ws ∧ ds.length = n ∧ Same G H ∧ G a = none ∧ H a = some (.ins C dx []) ∧ DRs K G ws ds ∧ R ds ns es ∧
  ∀ G' H', (∀ b o, b ≠ a → H b = some o → H' b = some o) → Same G G' → Same G' H' → (∀ b o, b ≠ a → H b = some o → G b = none → G' b = none) → DR K G' (.ref a) (.ins C ns es) → Q .non H'
theorem PiN.len {K : PySem.W.Frag} {C : Addr} {n : Nat} {R : List Da → List Str → List Da → Prop} (vs : List V) (H : Hp) (Q : VK) (E : XK) (h : PiN K C n R vs H Q E) : vs.length = n + 1 := by
  obtain ⟨_, a, dx, ws, ds, ns, es, rfl, hl, _, _, _, r, _⟩ := h
  rw [List.length_cons, r.len, hl]
section
variable {K : PySem.W.Frag} {σ : L2.St} {G : Hp} {tA tk te : TA} {C : Addr} {ds zs es : List Da} {ns : List Str} {E : XK}
theorem x_mkN {n m k : Nat} {R : List Da → List Str → List Da → Prop} {gV : List V → List V → List V} (h : Evs K tA σ G ds) (hk : Evs K tk σ G zs) (hm : ds.length = m) (hz : zs.length = k) (order : List Da) (ho : order.length = n)
    (hg : ∀ (a : Addr) (H' : Hp) (vs ws : List V), DRs K H' vs ds → DRs K H' ws zs → ∃ us, gV (.ref a :: vs) ws = .ref a :: us ∧ DRs K H' us order) (hR : R order ns es) : Evd K (tMakeN C m k (PiN K C n R) gV E tA tk) σ G (.ins C ns es) := fun H e Q q => h H e _ fun vs G1 H1 n1 dvs => hk.up n1.a H1 n1.b _ fun ws G2 H2 n2 dws =>
  ⟨by rw [dvs.len]; exact hm, by rw [dws.len]; exact hz, fun a dx ha hdx ne => by
    obtain ⟨us, e4, r⟩ := hg a G2 vs ws (dvs.up n2.a) dws
    rw [e4]
    have ga : G2 a = none := n2.b.free ha
    have gd : G2 dx = none := n2.b.free hdx
    have up : ∀ {b : Addr} {o : HO}, H2 b = some o → upd (upd H2 dx (.own a)) a (.ins C dx []) b = some o := fun {b o} z => by rw [upd_ne (ne_of_none z ha), upd_ne (ne_of_none z hdx)]; exact z
    refine ⟨G2, a, dx, us, order, ns, es, rfl, ho, fun b o z => up (n2.b _ _ z), ga, upd_same, r, hR, fun G' H' k1 k2 k3 k4 dd => ⟨rfl, q _ G' H' ((n1.trans n2).trans ⟨fun b o z => k1 b o (ne_of_none z ha) (up z), k2, k3, fun b o z w => k4 b o (ne_of_none z ha) (up z) w⟩) dd⟩⟩⟩
end
end GL

set_option Elab.async false
set_option linter.all false
set_option autoImplicit false
set_option maxRecDepth 100000
set_option maxHeartbeats 2000000
namespace GL
open PySem PySem.Spec PyProof.Rows L2
/-! str(x), x == y, x != y of an instance whose class has its own __str__, __eq__ -/
section
variable {X : Cx} {n : Nat} {C f : Addr} {fd : FuncData} {ps : List Str} {sp : Sp}
theorem run_at {A : Around} {pins : List (Addr × Obj)} {s : Shared} {σ : L2.St} {H : Hp} {us : List Value} {vs : List V} {Q : VK} (F : FnOk X.prog X.w X.K X.mg X.base CX0 n f fd ps sp) (hr : Room n A) (fr : A.frames = X.A.frames) (hb : Binds X.K fd ps []) (I : Inv X pins σ H s) (r : Vals vs us) (h : sp vs H Q E0)
    (E : Value → Shared → Prop) : wpAny (model X.prog X.w) A (call (.ref f) us) (EP X pins σ Q) E s := by
  have e := I.env0
  have e0 : Env0 X.prog X.w X.K X.mg X.base A X.stack s H := ⟨by rw [fr]; exact e.frames, e.mod, e.bs, e.bsz, e.funs, e.frf, e.hok, e.bare⟩
  have hl : us.length = ps.length := r.length.symm.trans (F.len _ _ _ _ h)
  have bd := hb s us I.kIn (by simpa using hl)
  rw [List.append_nil] at bd
  refine wpAny_call (codeAny_mono (F.run A X.stack s H ⟨us, []⟩ us vs Q E0 hr e0 bd r h) fun q s' z => ?_)
  cases q with
  | error er => exact False.elim z
  | ok fl => cases fl with
    | ret u => exact I.after z
    | next | brk | cont => exact z
def rStrO (C : Addr) (sp : Sp) : List V → Hp → VK → Prop := fun xs H Q => ∃ a dx fs, xs = [.ref a] ∧ H a = some (.ins C dx fs) ∧ sp [.ref a] H (fun v H' => (∃ z, v = .str z) ∧ Q v H') E0
theorem call_strO (F : FnOk X.prog X.w X.K X.mg X.base CX0 n f fd ps sp) (hs : PySem.W.findIn X.K (.ref C) "__str__" = some (some (.ref f))) (hf : PySem.W.isFn X.K (.ref f) = true) (hb : Binds X.K fd ps []) (hr : Room (n + 2) X.A) : CallR X (.type "str") (rStrO C sp) := by
  intro pins s σ H xs us Q I r h
  obtain ⟨a, dx, fs, rfl, ha, h⟩ := h
  have r0 := r
  cases r with
  | cons r1 r2 =>
    cases r2
    cases r1
    obtain ⟨mA, J, _⟩ := ins_get I.hok ha
    obtain ⟨od, J, _⟩ := J.look
    have hr2 : Room n X.A.in1.in1 := hr.in1.in1
    refine PySem.W.kso_call hr2.units0 I.kIn J hs hf (wpAny_mono (run_at (A := X.A.in1.in1) F hr2 rfl hb I r0 h X.xe) (fun u s' z => ?_) fun _ _ e => e)
    obtain ⟨v, H', I', rv, ⟨z, rfl⟩, q⟩ := z
    obtain ⟨t, rfl⟩ := rv
    exact ⟨.str z, H', I', ⟨t, rfl⟩, q⟩
/-- the class at C has its own __eq__ at f, and the built-in __ne__ -/
structure EqK (K : PySem.W.Frag) (C f : Addr) : Prop where
  cls : ∃ nm q N bs hd sn sub ab col dd k0 k1 k2 k3 k5 nid, K.lookup C = some (excClassObj nm q C N bs [.type "object"] hd sn sub ab col dd k0 k1 k2 k3 k5 nid) ∧ PySem.W.nsOkIn K N = true ∧ PySem.W.nsIn K N "__eq__" = some (some (.ref f)) ∧ PySem.W.nsIn K N "__ne__" = some none
  fn : PySem.W.isFn K (.ref f) = true
theorem ns_at {K : PySem.W.Frag} {h : Heap} {N : Addr} {m : Str → Option Value} {x : Str} {v : Value} (X : K.In h) (G : h.Ns N m) (e : PySem.W.nsIn K N x = some (some v)) : m x = some v := by
  obtain ⟨o, es, ep, ho, hd, _, hf⟩ := G
  unfold PySem.W.nsIn at e
  split at e
  · next q =>
    have z := X _ _ q
    rw [ho] at z
    cases z
    cases hd
    split at e
    · next he =>
      cases e
      rw [← hf]
      unfold nsFind findBy
      rw [← Array.find?_toList, he]
      rfl
    · split at e <;> cases e
  · cases e
def rNeO (C : Addr) (sp : Sp) : R2 := fun x y H Q => ∃ a dx fs b dy gs, x = .ref a ∧ y = .ref b ∧ H a = some (.ins C dx fs) ∧ H b = some (.ins C dy gs) ∧ sp [.ref a, .ref b] H (fun v H' => ∃ k, v = .bl k ∧ Q (.bl (!k)) H') E0
theorem op_neO (F : FnOk X.prog X.w X.K X.mg X.base CX0 n f fd ps sp) (k : EqK X.K C f) (hb : Binds X.K fd ps []) (hr : Room (n + 1) X.A) : OpR X (compareOp .NotEq) (rNeO C sp) := by
  intro pins s σ H x y v u Q I rx ry h
  obtain ⟨a, dx, fs, b, dy, gs, rfl, rfl, ha, hb', h⟩ := h
  cases rx
  cases ry
  obtain ⟨mA, J, _⟩ := ins_get I.hok ha
  obtain ⟨mB, J', _⟩ := ins_get I.hok hb'
  obtain ⟨od, J, _⟩ := J.look
  obtain ⟨od', J', _⟩ := J'.look
  obtain ⟨nm, q, N, bs, hd, sn, sub, ab, col, dd, k0, k1, k2, k3, k5, nid, lC, nsO, eqN, neN⟩ := k.cls
  have KI := I.kIn
  have hr1 : Room n X.A.in1 := hr.in1
  have ns : s.heap.Ns N (s.heap.nsMap N) := .of_isNs (PySem.W.isNs_of_in KI nsO)
  have fnO := beq_iff_eq.mp k.fn
  obtain ⟨of, lf, cf⟩ : ∃ of, X.K.lookup f = some of ∧ of.cls = .type "function" := by
    have z : (X.K.lookup f).map (·.cls) = some (.type "function") := fnO
    obtain ⟨of, z1, z2⟩ := Option.map_eq_some_iff.mp z
    exact ⟨of, z1, z2⟩
  obtain ⟨hp, g, d, t, os⟩ := s
  obtain ⟨y0, hy0⟩ : ∃ y0, typeLookup (.type "object") "__eq__" = pure y0 := ⟨_, PySem.F.cmp_object.eq.lookup⟩
  have O : hp.OwnEqNoNe a C f "object" [.type "object"] := ⟨_, of, nm, q, N, bs, hd, sn, sub, ab, col, dd, k0, k1, k2, k3, k5, nid, hp.nsMap N, y0, J.1, J.cls, KI _ _ lC, ns, ns_at KI ns eqN, KI _ _ lf, cf, PySem.F.cmp_object.mro, hy0, PySem.W.ns_none_of KI ns neN⟩
  refine compareOp_ne_ownEq PySem.F.cmp_object O J'.1 J'.cls (Nat.lt_of_le_of_lt (Nat.add_le_add_left (by decide : 1 ≤ 64) _) hr.units) (wpAny_mono (run_at (A := X.A.in1) (us := [.ref a, .ref b]) (vs := [.ref a, .ref b]) F hr1 rfl hb I (.cons rfl (.cons rfl .nil)) h X.xe) (fun r s' z => ?_) fun _ _ e => e)
  obtain ⟨v, H', I', rv, kk, rfl, qq⟩ := z
  cases rv
  exact ⟨kk, rfl, .bl (!kk), H', I', rfl, qq⟩
end
end GL

set_option Elab.async false
set_option linter.all false
set_option autoImplicit false
set_option maxRecDepth 100000
set_option maxHeartbeats 2000000
namespace GL
open PySem PySem.Spec PyProof.Rows L2
/-! C.m(k = v, ..), m a classmethod of the class at C -/
def tCMethK (C : Addr) (m : Nat) (sp : Sp) (gV : List V → List V → List V) (E : XK) (ta : TE) (tk : TA) : TE := fun σ H Q => ta σ H fun x H1 => x = .ref C ∧ tk σ H1 fun zs H2 => zs.length = m ∧ sp (gV [.ref C] zs) H2 Q E
section
variable {X : Cx} {CX : CXT} {k : Nat} {C p g : Addr} {fd : FuncData} {ps ks : List Str} {mc : Value} {sp : Sp} {E : XK} {o : Expr} {kws : List Keyword} {m : Str} {pos apos : Pos} {ta : TE} {tk : TA} {pl : Sem Bool} {gv : List Value → List Value → List Value} {gV : List V → List V → List V}
theorem pe_cmethK0 (he : PE X o ta) (r : ClX.CRead X.K C mc) (c : ClX.CMet X.K C mc m p g) (F : FnOk X.prog X.w X.K X.mg X.base CX k g fd ps sp) (hb : KBn X.K fd ps 1 ks gv gV) (hr : Room k X.A) (hx : Passes CX X E) (hkw : PK X kws tk)
    (hall : (backToKw pos (keywordEach kws X.env)).all (·.1.isSome) = true := by rfl) (hks : (backToKw pos (keywordEach kws X.env)).filterMap (·.1) = ks := by rfl) (hpl : ((backTo pos (starEach [] X.env)).any (·.1) || (backToKw pos (keywordEach kws X.env)).any (·.1.isNone)) = false := by rfl)
    (ht : eval (.Call (.Attribute o m apos) [] kws pos) X.env = (do
      let ov ← eval o X.env
      standAt apos.atName
      let (f, first) ← holding [ov] (getMethod ov m pl)
      callWith pos f first (backTo pos (starEach [] X.env)) (backToKw pos (keywordEach kws X.env))) := by rfl) :
    PE X (.Call (.Attribute o m apos) [] kws pos) (tCMethK C ks.length sp gV E ta tk) := by
  refine ⟨fun pins s σ H Q I h => ?_⟩
  refine PySem.W.methodCall_KW (pl := pl) (thn (he.run pins s σ H _ I h) fun u s1 ⟨x, H1, I1, rx, ex, q⟩ => ?_) ht
  subst ex
  obtain rfl : u = Value.ref C := rx
  refine ClX.getmethcm_ok I1 r c fun s2 I2 => ?_
  refine PySem.W.callWith_of (P := PySem.W.MethP X.K s1.heap.objs.size g (.ref C)) hpl (PySem.W.keeps_M c.fi) ?_
  refine evalArgs_kw2_nil hall ?_
  refine thn (hkw.run pos _ s2 σ H1 _ I2 q) fun ws s3 ⟨zs, H2, I3, rz, l2, q2⟩ => ⟨⟨ClX.pin_at I3, I3.kIn⟩, ?_⟩
  rw [hks]
  have l3 : ws.length = ks.length := rz.length.symm.trans l2
  have rel := hb.rel (vs := [.ref C]) (us := [.ref C]) (.cons rfl .nil) rz
  have z : wpAny (model X.prog X.w) X.A (call (.ref s1.heap.objs.size) ([] ++ []) (ks.zip ws)) (EP X ((s1.heap.objs.size, PySem.W.methodObj (.ref g) (.ref C)) :: pins) σ Q) X.xe s3 := by
    refine wpAny_call (PySem.W.method_call (ClX.pin_at I3) (codeAny_mono (F.run X.A X.stack s3 H2 ⟨[.ref C], ks.zip ws⟩ (gv [.ref C] ws) (gV [.ref C] zs) Q E hr I3.env0 (hb.to s3 [.ref C] ws I3.kIn rfl l3) rel q2) fun q s' z => ?_))
    cases q with
    | error er => exact hx _ σ H2 s3 er s' I3 z
    | ok fl => cases fl with
      | ret u => exact I3.after z
      | next | brk | cont => exact z
  exact thn z fun _ _ y => ClX.unpinE y
end
end GL

set_option Elab.async false
set_option linter.all false
set_option autoImplicit false
set_option maxRecDepth 100000
set_option maxHeartbeats 2000000
namespace GL
open PySem PySem.Spec PyProof.Rows L2
/-- what isinstance asks of the class at C of an instance -/
structure InC (K : PySem.W.Frag) (C : Addr) : Prop where
  cl : Cls K C
  ha : PySem.W.findIn K (.ref C) "__class__" = some (some (.builtin "object.__class__"))
  hn : PySem.W.specialIn K (.builtin "object.__class__") "__get__" = some (some (.builtin "getset_descriptor.__get__"))
  ht : PySem.W.takesIn K (.builtin "object.__class__") = some true
  hm : PySem.W.mroIn K C (.type "object") = some true
section
variable {K : PySem.W.Frag} {σ : L2.St} {G : Hp} {te ta tb : TE} {d c : Da} {ds : List Da} {ns : List Str} {C : Addr} {f : Str} {b : Bool} {cv : Value}
/-- e.f of an instance -/
theorem ed_fld (h : Evd K te σ G (.ins C ns ds)) (cl : Cls K C) (na : NoAttr K C f) (i : Nat) (hd : ds[i]? = some d) (hl : ∀ vs : List V, ns.length = vs.length → List.lookup f (ns.zip vs) = vs[i]?) : Evd K (tFld K te f) σ G d := fun H e Q q => h H e _ fun v G1 H1 n1 dv => by
  cases dv with
  | @ins a _ dx _ vs _ h1 h2 h3 =>
    obtain ⟨w, e1, e2⟩ := h3.getD hd
    exact ⟨a, C, dx, _, w, rfl, n1.b _ _ h1, cl, na, (hl vs h2).trans e1, q w G1 H1 n1 e2⟩
/-- isinstance(e, c) of an instance -/
theorem ed_isC (h : Evd K te σ G (.ins C ns ds)) (hc : Evd K ta σ G c) (kc : ∀ H' v, DR K H' v c → ClsV v cv) (T : InC K C) (hk : PySem.W.kitOne K (.ref C) cv = some b) : Evd K (tCB (rIsi K) (tCons te (tCons ta tNil))) σ G (.bl b) := fun H e Q q => h H e _ fun v G1 H1 n1 dv => hc.up n1.a H1 n1.b _ fun w G2 H2 n2 dw => by
  have dv := dv.up n2.a
  cases dv with
  | @ins a _ dx _ vs _ h1 h2 h3 => exact ⟨.ref a, w, .ref C, cv, b, rfl, kc G2 w dw, .base (.ins (n2.b _ _ h1) T.cl T.ha T.hn T.ht T.hm), hk, q _ G2 H2 (n1.trans n2) (.bl b)⟩
/-- the parts of an f-string -/
inductive EvJ (K : PySem.W.Frag) (σ : L2.St) (G : Hp) : List TE → List Str → Prop where
  | nil : EvJ K σ G [] []
  | cons {t : TE} {y : Str} {ts : List TE} {ys : List Str} (h : Evd K t σ G (.str y)) (r : EvJ K σ G ts ys) : EvJ K σ G (t :: ts) (y :: ys)
theorem str_len (x y : Str) : (x ++ y).length = x.length + y.length := Str.length_append x y
theorem js_run : ∀ {ts : List TE} {ys : List Str}, EvJ K σ G ts ys → ∀ (acc : Str), acc.length + (ys.map (·.length)).sum ≤ 1000 → ∀ (G1 H1 : Hp), Same G G1 → Same G1 H1 → ∀ (R : Str → Hp → Prop), (∀ G2 H2, Nw G1 H1 G2 H2 → R (ys.foldl (· ++ ·) acc) H2) → tJs ts acc σ H1 R
  | _, _, .nil, acc, hz, G1, H1, s0, s, R, q => q G1 H1 (Nw.refl s)
  | _, _, .cons (y := y) (ys := ys) h r, acc, hz, G1, H1, s0, s, R, q => by
    rw [List.map_cons, List.sum_cons] at hz
    refine h.up s0 H1 s _ fun v G2 H2 n dv => ?_
    cases dv
    refine ⟨y, rfl, sizeK (by rw [str_len]; omega), js_run r (acc ++ y) (by rw [str_len]; omega) G2 H2 (s0.trans n.a) n.b R fun G3 H3 n3 => q G3 H3 (n.trans n3)⟩
theorem ed_js {ts : List TE} {ys : List Str} (h : EvJ K σ G ts ys) (hz : (ys.map (·.length)).sum ≤ 1000) : Evd K (fun σ H Q => tJs ts Str.empty σ H fun out H1 => Q (.str out) H1) σ G (.str (ys.foldl (· ++ ·) Str.empty)) := fun H e Q q =>
  js_run h Str.empty (by have : Str.empty.length = 0 := rfl; omega) G H (Same.refl _) e _ fun G2 H2 n => q _ G2 H2 n (.str _)
theorem ed_fmtS {y : Str} (h : Evd K te σ G (.str y)) (hz : y.length ≤ 1000) : Evd K (tFmt te) σ G (.str y) := fun H e Q q => h H e _ fun v G1 H1 n1 dv => by
  cases dv
  exact .inl ⟨y, rfl, sizeK hz, q _ G1 H1 n1 (.str y)⟩
theorem ed_fmtI {i : Int} (h : Evd K te σ G (.int i)) (hi : i.natAbs.log2 < 1920) : Evd K (tFmt te) σ G (.str (toString i)) := fun H e Q q => h H e _ fun v G1 H1 n1 dv => by
  cases dv
  exact .inr ⟨i, rfl, hi, q _ G1 H1 n1 (.str _)⟩
end
end GL

set_option Elab.async false
set_option linter.all false
set_option autoImplicit false
set_option maxRecDepth 100000
set_option maxHeartbeats 2000000
namespace GL
open PySem PySem.Spec PyProof.Rows L2
/-- isinstance of what is of a built-in kind against an own class -/
theorem ed_isB {K : PySem.W.Frag} {σ : L2.St} {G : Hp} {ta tb : TE} {d : Da} {t : String} {C : Addr} {b : Bool} (h : Evd K ta σ G d) (hc : Evd K tb σ G (.obj C)) (ht : tyD d = some t) (hk : PySem.W.kitOne K (.type t) (.ref C) = some b) : Evd K (tCB (rIsi K) (tCons ta (tCons tb tNil))) σ G (.bl b) := fun H e Q q => h H e _ fun v G1 H1 n1 dv => hc.up n1.a H1 n1.b _ fun w G2 H2 n2 dw => by
  cases dw
  exact ⟨v, .ref C, .type t, .ref C, b, rfl, .own C, ty_of ((dv.up n2.a).up n2.b) ht, hk, q _ G2 H2 (n1.trans n2) (.bl b)⟩
end GL

set_option Elab.async false
set_option linter.all false
set_option maxRecDepth 100000
set_option maxHeartbeats 4000000
namespace K01
open PySem PySem.Spec PyProof.Rows L2 GL
def top (i : Nat) : Stmt := PySem.Challenge.pw_emptypulls_k01_errors_and_their_fields.main.body.getD i (.Pass ⟨0, 0, 0, 0⟩)
abbrev sCopied : Stmt := top 2
/-- what may be copied, n lists deep -/
def cp : Nat → Da → Bool
  | 0, _ => false
  | _ + 1, .non | _ + 1, .bl _ | _ + 1, .int _ | _ + 1, .str _ => true
  | n + 1, .lst ds => ds.all (cp n) && decide (ds.length ≤ 1000)
  | n + 1, .tup ds => ds.all (cp n) && decide (ds.length ≤ 1000)
  | n + 1, .dct ks ds => ds.all (fun d => flatD d && cp n d) && decide (ks.Nodup ∧ ks.length ≤ 1000)
  | _ + 1, _ => false
def gC (n : Nat) : List Da → Option Da
  | [d] => if cp n d = true then some d else none
  | _ => none
theorem gC_of {n : Nat} {d : Da} (h : cp n d = true) : gC n [d] = some d := if_pos h
theorem of_gC {n : Nat} {ds : List Da} {d : Da} (h : gC n ds = some d) : ds = [d] ∧ cp n d = true := by
  match ds, h with
  | [e], h =>
    have h : (if cp n e = true then some e else none) = some d := h
    by_cases q : cp n e = true
    · rw [if_pos q] at h; cases h; exact ⟨rfl, q⟩
    · rw [if_neg q] at h; cases h
theorem cp_flat {n : Nat} {d : Da} (h : flatD d = true) : cp (n + 1) d = true := by
  cases d <;> first | rfl | cases h
structure TC (K : PySem.W.Frag) (mg : Str → Option Value) (fC : Addr) : Prop where
  tw : ∃ CW, mg "Twinned" = some (.ref CW) ∧ (["NoneType", "bool", "int", "str"] : List String).all (fun T => decide (PySem.W.kitOne K (.type T) (.ref CW) = some false)) = true
  isi : mg "isinstance" = none
  list : mg "list" = none
  tuple : mg "tuple" = none
  dict : mg "dict" = none
  mC : mg "copied" = some (.ref fC)
theorem scC : FnScope ["value", "part", "key"] ["value"] (defScope sCopied) := ⟨rfl, rfl, rfl, by decide +kernel, rfl, by decide +kernel, by decide +kernel⟩
section
variable {P : Program} {w : World} {K : PySem.W.Frag} {mg : Str → Option Value} {base : Heap}
theorem t_isi {σ : L2.St} {G : Hp} {i : Nat} {v : V} {d : Da} {t T : String} {b : Bool} (hv : σ[i]? = some (some v)) (dv : DR K G v d) (ht : tyD d = some t) (hk : kitB t T = some b) : Evt (L2.tB (tCB (rIsi K) (tCons (tVar i) (tCons (tC (.ty T)) tNil)))) σ G b :=
  et_B (ed_isi (ed_var hv dv) ht hk)
theorem ok_copied {f : Addr} {fd : FuncData} (F : Fun K "copied" "copied" sCopied f fd) (bC : Binds K fd ["value"] []) (T : TC K mg f) : ∀ n, FnG P w K mg base CX0 (n + 1) f fd ["value"] (Pd K 1 (gC n))
  | 0 => ⟨Pd.len, fun A hq hr outer s H e0 args us vs bd rv Q E h => by
      obtain ⟨G, ds, d, _, _, _, hg, _⟩ := h
      have z := (of_gC hg).2
      unfold cp at z
      cases z⟩
  | n + 1 => by
    have FR := ok_copied F bC T n
    obtain ⟨CW, mW, kW⟩ := T.tw
    have kw : ∀ t : String, t ∈ (["NoneType", "bool", "int", "str"] : List String) → PySem.W.kitOne K (.type t) (.ref CW) = some false := fun t ht => of_decide_eq_true (List.all_eq_true.mp kW t ht)
    refine okG F scC Pd.len fun cdv A outer s H vs Q E hq hr h => ?_
    obtain ⟨G, ds, d, hs, hl, hd, hg, k⟩ := h
    obtain ⟨rfl, hcp⟩ := of_gC hg
    cases hd with
    | @cons v _ _ _ dv r =>
      cases r
      refine ⟨_, pss_cons (ps_if (pt_val (pe_callB call_isi (by rfl) T.isi PyProof.Rows.boot_isinstance (pa_cons (pv 0) (pa_cons (pe_bltn (v := .ty "list") rfl T.list (by decide +kernel) rfl) pa_nil))))
          (pss_one (ps_ret (pe_lc (own := [("part", 1)]) (g := gName 1) (tt := tYes) rfl scC.nd (pi_list (pv 0)) (blkOk_by (N := ["value", "part", "key"]) (sc := defScope sCopied) (by decide +kernel)) (fun _ _ _ _ _ => pg_name (i := 1) scC.nd rfl (Or.inl rfl)) (fun _ _ _ _ _ => pts_nil)
            (fun _ _ _ _ _ => pe_cg FR (hq.deeper _) hr rfl T.mC F.kp bC .nil pass0 (pa_cons (pv 1) pa_nil))))) pss_nil)
        (pss_cons (ps_if (pt_val (pe_callB call_isi (by rfl) T.isi PyProof.Rows.boot_isinstance (pa_cons (pv 0) (pa_cons (pe_bltn (v := .ty "tuple") rfl T.tuple (by decide +kernel) rfl) pa_nil))))
          (pss_one (ps_ret (pe_callTy call_tuple_of (by rfl) T.tuple (by decide +kernel) (pa_cons (pe_lc (own := [("part", 1)]) (g := gName 1) (tt := tYes) rfl scC.nd (pi_tup (pv 0)) (blkOk_by (N := ["value", "part", "key"]) (sc := defScope sCopied) (by decide +kernel)) (fun _ _ _ _ _ => pg_name (i := 1) scC.nd rfl (Or.inl rfl)) (fun _ _ _ _ _ => pts_nil)
            (fun _ _ _ _ _ => pe_cg FR (hq.deeper _) hr rfl T.mC F.kp bC .nil pass0 (pa_cons (pv 1) pa_nil))) pa_nil)))) pss_nil)
        (pss_cons (ps_if (pt_val (pe_callB call_isi (by rfl) T.isi PyProof.Rows.boot_isinstance (pa_cons (pv 0) (pa_cons (pe_bltn (v := .ty "dict") rfl T.dict (by decide +kernel) rfl) pa_nil))))
          (pss_one (ps_ret (pe_lock (pe_dc (own := [("key", 2)]) (g := gName 2) (tt := tYes) rfl scC.nd (pi_keys (pv 0)) (blkOk_by (N := ["value", "part", "key"]) (sc := defScope sCopied) (by decide +kernel)) (fun _ _ _ _ _ => pg_name (i := 2) scC.nd rfl (Or.inl rfl)) (fun _ _ _ _ _ => pts_nil)
            (fun _ _ _ _ _ => pv 2) (fun _ _ _ _ _ => pe_cg FR (hq.deeper _) hr rfl T.mC F.kp bC .nil pass0 (pa_cons (pe_dget (hu_of hr) (pv 0) (pv 2) (fun _ _ => rfl)) pa_nil)))))) pss_nil)
        (pss_cons (ps_if (pt_val (pe_callB call_isi (by rfl) T.isi PyProof.Rows.boot_isinstance (pa_cons (pv 0) (pa_cons (pe_own mW rfl) pa_nil)))) (pss_one ps_never) pss_nil)
        (pss_one (ps_ret (pv 0)))))), ?_⟩
      have no : ∀ {t T : String} {G1 H1 : Hp} {tu tz : TS} {D : Ends}, Nw G H G1 H1 → tyD d = some t → kitB t T = some false → (∀ G2 H2, Nw G H G2 H2 → tz D [some v, none, none] H2) →
          tSeq (tIfS (L2.tB (tCB (rIsi K) (tCons (tVar 0) (tCons (tC (.ty T)) tNil)))) tu tNext) tz D [some v, none, none] H1 := fun n1 ht hk go =>
        qd_if n1.b (t_isi rfl (dv.up n1.a) ht hk) (fun z => nomatch z) fun _ G2 H2 n2 => go G2 H2 (n1.trans n2)
      have yes : ∀ {t T : String} {G1 H1 : Hp} {tu tz : TS} {D : Ends}, Nw G H G1 H1 → tyD d = some t → kitB t T = some true → (∀ G2 H2, Nw G H G2 H2 → tu { D with nx := tz D } [some v, none, none] H2) →
          tSeq (tIfS (L2.tB (tCB (rIsi K) (tCons (tVar 0) (tCons (tC (.ty T)) tNil)))) tu tNext) tz D [some v, none, none] H1 := fun n1 ht hk go =>
        qd_if n1.b (t_isi rfl (dv.up n1.a) ht hk) (fun _ G2 H2 n2 => go G2 H2 (n1.trans n2)) fun z => nomatch z
      have noC : ∀ {t : String} {G1 H1 : Hp} {tu tz : TS} {D : Ends}, Nw G H G1 H1 → tyD d = some t → PySem.W.kitOne K (.type t) (.ref CW) = some false → (∀ G2 H2, Nw G H G2 H2 → tz D [some v, none, none] H2) →
          tSeq (tIfS (L2.tB (tCB (rIsi K) (tCons (tVar 0) (tCons (tC (.ref CW)) tNil)))) tu tNext) tz D [some v, none, none] H1 := fun n1 ht hk go =>
        qd_if n1.b (et_B (K := K) (ed_isB (ed_var rfl (dv.up n1.a)) (ed_c fun _ => .obj CW) ht hk)) (fun z => nomatch z) fun _ G2 H2 n2 => go G2 H2 (n1.trans n2)
      have n0 : Nw G H G H := Nw.refl hs
      have each : ∀ {ds : List Da}, (∀ e ∈ ds, cp n e = true) → ∀ {G2 : Hp} (x : V) (e : Da), e ∈ ds → DR K G2 x e → Evd K (tCall (Pd K 1 (gC n)) [] E0 (tCons (tVar 1) tNil)) [some v, some x, none] G2 e := @fun ds hall G2 x e he dx =>
        ed_call (xs_cons (ed_var rfl dx) es_nil) rfl (gC_of (hall e he))
      have all1 : ∀ {ds : List Da}, (ds.filter fun _ => true).map id = ds := by intro ds; simp
      cases d with
      | non => exact no n0 rfl (by decide +kernel) fun G1 H1 n1 => no n1 rfl (by decide +kernel) fun G2 H2 n2 => no n2 rfl (by decide +kernel) fun G3 H3 n3 => noC n3 rfl (kw _ (by simp)) fun G4 H4 n4 => ret_d k n4 (ed_var rfl (dv.up n4.a)) rfl
      | bl b => exact no n0 rfl (by decide +kernel) fun G1 H1 n1 => no n1 rfl (by decide +kernel) fun G2 H2 n2 => no n2 rfl (by decide +kernel) fun G3 H3 n3 => noC n3 rfl (kw _ (by simp)) fun G4 H4 n4 => ret_d k n4 (ed_var rfl (dv.up n4.a)) rfl
      | int i => exact no n0 rfl (by decide +kernel) fun G1 H1 n1 => no n1 rfl (by decide +kernel) fun G2 H2 n2 => no n2 rfl (by decide +kernel) fun G3 H3 n3 => noC n3 rfl (kw _ (by simp)) fun G4 H4 n4 => ret_d k n4 (ed_var rfl (dv.up n4.a)) rfl
      | str x => exact no n0 rfl (by decide +kernel) fun G1 H1 n1 => no n1 rfl (by decide +kernel) fun G2 H2 n2 => no n2 rfl (by decide +kernel) fun G3 H3 n3 => noC n3 rfl (kw _ (by simp)) fun G4 H4 n4 => ret_d k n4 (ed_var rfl (dv.up n4.a)) rfl
      | lst ds =>
        simp only [cp, Bool.and_eq_true, List.all_eq_true, decide_eq_true_eq] at hcp
        refine yes n0 rfl (by decide +kernel) fun G1 H1 n1 => ret_d k n1 (ed_is (ed_lc (fun _ => true) id (ed_var rfl (dv.up n1.a)) hcp.2 fun x e G2 H2 s1 s2 he dx => ⟨[some v, some x, none], fun k h => h, rfl, et_yes, fun _ G3 s3 => each hcp.1 x e he (dx.up s3)⟩) (by rw [all1])) rfl
      | tup ds =>
        simp only [cp, Bool.and_eq_true, List.all_eq_true, decide_eq_true_eq] at hcp
        refine no n0 rfl (by decide +kernel) fun G0 H0 n0 => yes n0 rfl (by decide +kernel) fun G1 H1 n1 => ret_d k n1 (ed_tupL (ed_is (ed_lcT (fun _ => true) id (ed_var rfl (dv.up n1.a)) hcp.2 fun x e G2 H2 s1 s2 he dx => ⟨[some v, some x, none], fun k h => h, rfl, et_yes, fun _ G3 s3 => each hcp.1 x e he (dx.up s3)⟩) (by rw [all1]))) rfl
      | dct ks ds =>
        simp only [cp, Bool.and_eq_true, List.all_eq_true, decide_eq_true_eq] at hcp
        refine no n0 rfl (by decide +kernel) fun G0 H0 n0 => no n0 rfl (by decide +kernel) fun G3 H3 n3 => yes n3 rfl (by decide +kernel) fun G1 H1 n1 => ret_d k n1 (ed_dcopy rfl (dv.up n1.a) hcp.2.1 (fun e he => ⟨(hcp.1 e he).1, gC_of (hcp.1 e he).2⟩) hcp.2.2 (fun _ => rfl) (fun _ => rfl) (fun _ => rfl)) rfl
      | _ => cases hcp
end
end K01

set_option Elab.async false
set_option linter.all false
set_option maxRecDepth 100000
set_option maxHeartbeats 4000000
namespace K01
open PySem PySem.Spec PyProof.Rows L2 GL
abbrev sI_BadRate : Stmt := inClass (top 8) 0
abbrev sI_BadName : Stmt := inClass (top 9) 0
abbrev sI_BadTrip : Stmt := inClass (top 10) 0
abbrev sI_BadTour : Stmt := inClass (top 11) 0
abbrev sI_BadStand : Stmt := inClass (top 12) 0
abbrev sI_BadCount : Stmt := inClass (top 13) 0
abbrev sI_BadOrder : Stmt := inClass (top 14) 0
abbrev sI_BadLoads : Stmt := inClass (top 15) 0
abbrev sI_BadWord : Stmt := inClass (top 16) 0
abbrev sI_BadRule : Stmt := inClass (top 17) 0
abbrev sI_BadLog : Stmt := inClass (top 18) 0
abbrev sI_BadText : Stmt := inClass (top 19) 0
abbrev sI_BadLine : Stmt := inClass (top 20) 0
abbrev sI_NoYard : Stmt := inClass (top 21) 0
abbrev sI_Unbalanced : Stmt := inClass (top 22) 0
abbrev sI_NoTrailer : Stmt := inClass (top 23) 0
abbrev sI_LeftStanding : Stmt := inClass (top 24) 0
abbrev sI_Unsafe : Stmt := inClass (top 25) 0
abbrev sI_Strands : Stmt := inClass (top 26) 0
abbrev sI_TooMany : Stmt := inClass (top 27) 0
abbrev s__law_pen : Stmt := top 31
abbrev s__law_draw : Stmt := top 32
abbrev s__law_pick : Stmt := top 33
abbrev s__law_value : Stmt := top 34
abbrev s__law_signs : Stmt := top 35
abbrev s__law_kinds : Stmt := top 36
abbrev s__law_inputs : Stmt := top 37
abbrev s__law_others : Stmt := top 38
abbrev s__law_named_right : Stmt := top 39
abbrev s__law_pairs_right : Stmt := top 40
abbrev s_law : Stmt := top 41
theorem kb_of {K : PySem.W.Frag} {x qual : Str} {st : Stmt} {f : Addr} {fd : FuncData} {ps ks : List Str} {n : Nat} {g : List Value → List Value → List Value} {gV : List V → List V → List V} (F : Fun K x qual st f fd)
    (h : ∀ (kV doc pm : Value) (an : Option Addr) (cdv ct : Value) (us ws : List Value), us.length = n → ws.length = ks.length → bindArgs (PySem.W.fnOf x qual (defArgs st) (defBody st) (defScope st) .none kV doc pm an cdv ct) ⟨us, ks.zip ws⟩ = pure (ps.zip (g us ws)))
    (rel : ∀ {vs : List V} {us : List Value} {zs : List V} {ws : List Value}, Vals vs us → Vals zs ws → Vals (gV vs zs) (g us ws)) : KBn K fd ps n ks g gV := by
  obtain ⟨oc, od, kV, doc, pm, an, cdv, ct, osl, rfl, lk, hcd⟩ := F.ex
  exact ⟨fun s us ws _ l1 l2 => .of_eq (h kV doc pm an cdv ct us ws l1 l2), rel⟩
def gI : List Da → Option (List Da)
  | [d] => if cp 3 d = true then some [d] else none
  | [d, e] => if cp 3 d = true ∧ cp 3 e = true then some [e, d] else none
  | _ => none
theorem gI1 {d : Da} (h : cp 3 d = true) : gI [d] = some [d] := if_pos h
theorem gI2 {d e : Da} (h : cp 3 d = true) (h2 : cp 3 e = true) : gI [d, e] = some [e, d] := if_pos ⟨h, h2⟩
theorem of_gI1 {d : Da} {es : List Da} (h : gI [d] = some es) : cp 3 d = true ∧ es = [d] := by
  have h : (if cp 3 d = true then some [d] else none) = some es := h
  by_cases q : cp 3 d = true
  · rw [if_pos q] at h; cases h; exact ⟨q, rfl⟩
  · rw [if_neg q] at h; cases h
theorem of_gI2 {d e : Da} {es : List Da} (h : gI [d, e] = some es) : cp 3 d = true ∧ cp 3 e = true ∧ es = [e, d] := by
  have h : (if cp 3 d = true ∧ cp 3 e = true then some [e, d] else none) = some es := h
  by_cases q : cp 3 d = true ∧ cp 3 e = true
  · rw [if_pos q] at h; cases h; exact ⟨q.1, q.2, rfl⟩
  · rw [if_neg q] at h; cases h
theorem sc_BadRate : FnScope ["self", "part"] ["self", "part"] (defScope sI_BadRate) := ⟨rfl, rfl, rfl, by decide +kernel, rfl, by decide +kernel, by decide +kernel⟩
theorem ok_BadRate {P : Program} {w : World} {K : PySem.W.Frag} {mg : Str → Option Value} {base : Heap} {f C fC : Addr} {fd fdC : FuncData} (F : Fun K "__init__" "BadRate.__init__" sI_BadRate f fd) (T : TC K mg fC) (FC : Fun K "copied" "copied" sCopied fC fdC) (bC : Binds K fdC ["value"] []) (O : OexC K C) (n0 : PySem.W.findIn K (.ref C) "part" = some none) :
    FnG P w K mg base CX0 5 f fd ["self", "part"] (Pi K C 1 ["part"] gI) := by
  refine okG F sc_BadRate Pi.len fun cdv A outer s H vs Q E hq hr h => ?_
  have GC := ok_copied (P := P) (w := w) (base := base) FC bC T 3
  obtain ⟨G, a, ws, ds, es, rfl, hl, hs, ga, ha, hd, hg, k⟩ := h
  cases hd with
  | nil => cases hl
  | cons dv r =>
    cases r with
    | cons => cases hl
    | nil =>
      obtain ⟨hc, rfl⟩ := of_gI1 hg
      exact ⟨_, pss_one (ps_ost (pv 0) (pe_cg GC (hq.deeper _) hr rfl T.mC FC.kp bC .nil pass0 (pa_cons (pv 1) pa_nil))), rd_init1 hs ga ha dv O n0 (gC_of hc) k rfl⟩
theorem sc_BadName : FnScope ["self", "value"] ["self", "value"] (defScope sI_BadName) := ⟨rfl, rfl, rfl, by decide +kernel, rfl, by decide +kernel, by decide +kernel⟩
theorem ok_BadName {P : Program} {w : World} {K : PySem.W.Frag} {mg : Str → Option Value} {base : Heap} {f C fC : Addr} {fd fdC : FuncData} (F : Fun K "__init__" "BadName.__init__" sI_BadName f fd) (T : TC K mg fC) (FC : Fun K "copied" "copied" sCopied fC fdC) (bC : Binds K fdC ["value"] []) (O : OexC K C) (n0 : PySem.W.findIn K (.ref C) "value" = some none) :
    FnG P w K mg base CX0 5 f fd ["self", "value"] (Pi K C 1 ["value"] gI) := by
  refine okG F sc_BadName Pi.len fun cdv A outer s H vs Q E hq hr h => ?_
  have GC := ok_copied (P := P) (w := w) (base := base) FC bC T 3
  obtain ⟨G, a, ws, ds, es, rfl, hl, hs, ga, ha, hd, hg, k⟩ := h
  cases hd with
  | nil => cases hl
  | cons dv r =>
    cases r with
    | cons => cases hl
    | nil =>
      obtain ⟨hc, rfl⟩ := of_gI1 hg
      exact ⟨_, pss_one (ps_ost (pv 0) (pe_cg GC (hq.deeper _) hr rfl T.mC FC.kp bC .nil pass0 (pa_cons (pv 1) pa_nil))), rd_init1 hs ga ha dv O n0 (gC_of hc) k rfl⟩
theorem sc_BadTrip : FnScope ["self", "part"] ["self", "part"] (defScope sI_BadTrip) := ⟨rfl, rfl, rfl, by decide +kernel, rfl, by decide +kernel, by decide +kernel⟩
theorem ok_BadTrip {P : Program} {w : World} {K : PySem.W.Frag} {mg : Str → Option Value} {base : Heap} {f C fC : Addr} {fd fdC : FuncData} (F : Fun K "__init__" "BadTrip.__init__" sI_BadTrip f fd) (T : TC K mg fC) (FC : Fun K "copied" "copied" sCopied fC fdC) (bC : Binds K fdC ["value"] []) (O : OexC K C) (n0 : PySem.W.findIn K (.ref C) "part" = some none) :
    FnG P w K mg base CX0 5 f fd ["self", "part"] (Pi K C 1 ["part"] gI) := by
  refine okG F sc_BadTrip Pi.len fun cdv A outer s H vs Q E hq hr h => ?_
  have GC := ok_copied (P := P) (w := w) (base := base) FC bC T 3
  obtain ⟨G, a, ws, ds, es, rfl, hl, hs, ga, ha, hd, hg, k⟩ := h
  cases hd with
  | nil => cases hl
  | cons dv r =>
    cases r with
    | cons => cases hl
    | nil =>
      obtain ⟨hc, rfl⟩ := of_gI1 hg
      exact ⟨_, pss_one (ps_ost (pv 0) (pe_cg GC (hq.deeper _) hr rfl T.mC FC.kp bC .nil pass0 (pa_cons (pv 1) pa_nil))), rd_init1 hs ga ha dv O n0 (gC_of hc) k rfl⟩
theorem sc_BadTour : FnScope ["self", "part"] ["self", "part"] (defScope sI_BadTour) := ⟨rfl, rfl, rfl, by decide +kernel, rfl, by decide +kernel, by decide +kernel⟩
theorem ok_BadTour {P : Program} {w : World} {K : PySem.W.Frag} {mg : Str → Option Value} {base : Heap} {f C fC : Addr} {fd fdC : FuncData} (F : Fun K "__init__" "BadTour.__init__" sI_BadTour f fd) (T : TC K mg fC) (FC : Fun K "copied" "copied" sCopied fC fdC) (bC : Binds K fdC ["value"] []) (O : OexC K C) (n0 : PySem.W.findIn K (.ref C) "part" = some none) :
    FnG P w K mg base CX0 5 f fd ["self", "part"] (Pi K C 1 ["part"] gI) := by
  refine okG F sc_BadTour Pi.len fun cdv A outer s H vs Q E hq hr h => ?_
  have GC := ok_copied (P := P) (w := w) (base := base) FC bC T 3
  obtain ⟨G, a, ws, ds, es, rfl, hl, hs, ga, ha, hd, hg, k⟩ := h
  cases hd with
  | nil => cases hl
  | cons dv r =>
    cases r with
    | cons => cases hl
    | nil =>
      obtain ⟨hc, rfl⟩ := of_gI1 hg
      exact ⟨_, pss_one (ps_ost (pv 0) (pe_cg GC (hq.deeper _) hr rfl T.mC FC.kp bC .nil pass0 (pa_cons (pv 1) pa_nil))), rd_init1 hs ga ha dv O n0 (gC_of hc) k rfl⟩
theorem sc_BadStand : FnScope ["self", "part"] ["self", "part"] (defScope sI_BadStand) := ⟨rfl, rfl, rfl, by decide +kernel, rfl, by decide +kernel, by decide +kernel⟩
theorem ok_BadStand {P : Program} {w : World} {K : PySem.W.Frag} {mg : Str → Option Value} {base : Heap} {f C fC : Addr} {fd fdC : FuncData} (F : Fun K "__init__" "BadStand.__init__" sI_BadStand f fd) (T : TC K mg fC) (FC : Fun K "copied" "copied" sCopied fC fdC) (bC : Binds K fdC ["value"] []) (O : OexC K C) (n0 : PySem.W.findIn K (.ref C) "part" = some none) :
    FnG P w K mg base CX0 5 f fd ["self", "part"] (Pi K C 1 ["part"] gI) := by
  refine okG F sc_BadStand Pi.len fun cdv A outer s H vs Q E hq hr h => ?_
  have GC := ok_copied (P := P) (w := w) (base := base) FC bC T 3
  obtain ⟨G, a, ws, ds, es, rfl, hl, hs, ga, ha, hd, hg, k⟩ := h
  cases hd with
  | nil => cases hl
  | cons dv r =>
    cases r with
    | cons => cases hl
    | nil =>
      obtain ⟨hc, rfl⟩ := of_gI1 hg
      exact ⟨_, pss_one (ps_ost (pv 0) (pe_cg GC (hq.deeper _) hr rfl T.mC FC.kp bC .nil pass0 (pa_cons (pv 1) pa_nil))), rd_init1 hs ga ha dv O n0 (gC_of hc) k rfl⟩
theorem sc_BadCount : FnScope ["self", "value"] ["self", "value"] (defScope sI_BadCount) := ⟨rfl, rfl, rfl, by decide +kernel, rfl, by decide +kernel, by decide +kernel⟩
theorem ok_BadCount {P : Program} {w : World} {K : PySem.W.Frag} {mg : Str → Option Value} {base : Heap} {f C fC : Addr} {fd fdC : FuncData} (F : Fun K "__init__" "BadCount.__init__" sI_BadCount f fd) (T : TC K mg fC) (FC : Fun K "copied" "copied" sCopied fC fdC) (bC : Binds K fdC ["value"] []) (O : OexC K C) (n0 : PySem.W.findIn K (.ref C) "value" = some none) :
    FnG P w K mg base CX0 5 f fd ["self", "value"] (Pi K C 1 ["value"] gI) := by
  refine okG F sc_BadCount Pi.len fun cdv A outer s H vs Q E hq hr h => ?_
  have GC := ok_copied (P := P) (w := w) (base := base) FC bC T 3
  obtain ⟨G, a, ws, ds, es, rfl, hl, hs, ga, ha, hd, hg, k⟩ := h
  cases hd with
  | nil => cases hl
  | cons dv r =>
    cases r with
    | cons => cases hl
    | nil =>
      obtain ⟨hc, rfl⟩ := of_gI1 hg
      exact ⟨_, pss_one (ps_ost (pv 0) (pe_cg GC (hq.deeper _) hr rfl T.mC FC.kp bC .nil pass0 (pa_cons (pv 1) pa_nil))), rd_init1 hs ga ha dv O n0 (gC_of hc) k rfl⟩
theorem sc_BadOrder : FnScope ["self", "part"] ["self", "part"] (defScope sI_BadOrder) := ⟨rfl, rfl, rfl, by decide +kernel, rfl, by decide +kernel, by decide +kernel⟩
theorem ok_BadOrder {P : Program} {w : World} {K : PySem.W.Frag} {mg : Str → Option Value} {base : Heap} {f C fC : Addr} {fd fdC : FuncData} (F : Fun K "__init__" "BadOrder.__init__" sI_BadOrder f fd) (T : TC K mg fC) (FC : Fun K "copied" "copied" sCopied fC fdC) (bC : Binds K fdC ["value"] []) (O : OexC K C) (n0 : PySem.W.findIn K (.ref C) "part" = some none) :
    FnG P w K mg base CX0 5 f fd ["self", "part"] (Pi K C 1 ["part"] gI) := by
  refine okG F sc_BadOrder Pi.len fun cdv A outer s H vs Q E hq hr h => ?_
  have GC := ok_copied (P := P) (w := w) (base := base) FC bC T 3
  obtain ⟨G, a, ws, ds, es, rfl, hl, hs, ga, ha, hd, hg, k⟩ := h
  cases hd with
  | nil => cases hl
  | cons dv r =>
    cases r with
    | cons => cases hl
    | nil =>
      obtain ⟨hc, rfl⟩ := of_gI1 hg
      exact ⟨_, pss_one (ps_ost (pv 0) (pe_cg GC (hq.deeper _) hr rfl T.mC FC.kp bC .nil pass0 (pa_cons (pv 1) pa_nil))), rd_init1 hs ga ha dv O n0 (gC_of hc) k rfl⟩
theorem sc_BadLoads : FnScope ["self", "at"] ["self", "at"] (defScope sI_BadLoads) := ⟨rfl, rfl, rfl, by decide +kernel, rfl, by decide +kernel, by decide +kernel⟩
theorem ok_BadLoads {P : Program} {w : World} {K : PySem.W.Frag} {mg : Str → Option Value} {base : Heap} {f C fC : Addr} {fd fdC : FuncData} (F : Fun K "__init__" "BadLoads.__init__" sI_BadLoads f fd) (T : TC K mg fC) (FC : Fun K "copied" "copied" sCopied fC fdC) (bC : Binds K fdC ["value"] []) (O : OexC K C) (n0 : PySem.W.findIn K (.ref C) "at" = some none) :
    FnG P w K mg base CX0 5 f fd ["self", "at"] (Pi K C 1 ["at"] gI) := by
  refine okG F sc_BadLoads Pi.len fun cdv A outer s H vs Q E hq hr h => ?_
  have GC := ok_copied (P := P) (w := w) (base := base) FC bC T 3
  obtain ⟨G, a, ws, ds, es, rfl, hl, hs, ga, ha, hd, hg, k⟩ := h
  cases hd with
  | nil => cases hl
  | cons dv r =>
    cases r with
    | cons => cases hl
    | nil =>
      obtain ⟨hc, rfl⟩ := of_gI1 hg
      exact ⟨_, pss_one (ps_ost (pv 0) (pe_cg GC (hq.deeper _) hr rfl T.mC FC.kp bC .nil pass0 (pa_cons (pv 1) pa_nil))), rd_init1 hs ga ha dv O n0 (gC_of hc) k rfl⟩
theorem sc_BadWord : FnScope ["self", "value"] ["self", "value"] (defScope sI_BadWord) := ⟨rfl, rfl, rfl, by decide +kernel, rfl, by decide +kernel, by decide +kernel⟩
theorem ok_BadWord {P : Program} {w : World} {K : PySem.W.Frag} {mg : Str → Option Value} {base : Heap} {f C fC : Addr} {fd fdC : FuncData} (F : Fun K "__init__" "BadWord.__init__" sI_BadWord f fd) (T : TC K mg fC) (FC : Fun K "copied" "copied" sCopied fC fdC) (bC : Binds K fdC ["value"] []) (O : OexC K C) (n0 : PySem.W.findIn K (.ref C) "value" = some none) :
    FnG P w K mg base CX0 5 f fd ["self", "value"] (Pi K C 1 ["value"] gI) := by
  refine okG F sc_BadWord Pi.len fun cdv A outer s H vs Q E hq hr h => ?_
  have GC := ok_copied (P := P) (w := w) (base := base) FC bC T 3
  obtain ⟨G, a, ws, ds, es, rfl, hl, hs, ga, ha, hd, hg, k⟩ := h
  cases hd with
  | nil => cases hl
  | cons dv r =>
    cases r with
    | cons => cases hl
    | nil =>
      obtain ⟨hc, rfl⟩ := of_gI1 hg
      exact ⟨_, pss_one (ps_ost (pv 0) (pe_cg GC (hq.deeper _) hr rfl T.mC FC.kp bC .nil pass0 (pa_cons (pv 1) pa_nil))), rd_init1 hs ga ha dv O n0 (gC_of hc) k rfl⟩
theorem sc_BadRule : FnScope ["self", "part"] ["self", "part"] (defScope sI_BadRule) := ⟨rfl, rfl, rfl, by decide +kernel, rfl, by decide +kernel, by decide +kernel⟩
theorem ok_BadRule {P : Program} {w : World} {K : PySem.W.Frag} {mg : Str → Option Value} {base : Heap} {f C fC : Addr} {fd fdC : FuncData} (F : Fun K "__init__" "BadRule.__init__" sI_BadRule f fd) (T : TC K mg fC) (FC : Fun K "copied" "copied" sCopied fC fdC) (bC : Binds K fdC ["value"] []) (O : OexC K C) (n0 : PySem.W.findIn K (.ref C) "part" = some none) :
    FnG P w K mg base CX0 5 f fd ["self", "part"] (Pi K C 1 ["part"] gI) := by
  refine okG F sc_BadRule Pi.len fun cdv A outer s H vs Q E hq hr h => ?_
  have GC := ok_copied (P := P) (w := w) (base := base) FC bC T 3
  obtain ⟨G, a, ws, ds, es, rfl, hl, hs, ga, ha, hd, hg, k⟩ := h
  cases hd with
  | nil => cases hl
  | cons dv r =>
    cases r with
    | cons => cases hl
    | nil =>
      obtain ⟨hc, rfl⟩ := of_gI1 hg
      exact ⟨_, pss_one (ps_ost (pv 0) (pe_cg GC (hq.deeper _) hr rfl T.mC FC.kp bC .nil pass0 (pa_cons (pv 1) pa_nil))), rd_init1 hs ga ha dv O n0 (gC_of hc) k rfl⟩
theorem sc_BadLog : FnScope ["self", "at"] ["self", "at"] (defScope sI_BadLog) := ⟨rfl, rfl, rfl, by decide +kernel, rfl, by decide +kernel, by decide +kernel⟩
theorem ok_BadLog {P : Program} {w : World} {K : PySem.W.Frag} {mg : Str → Option Value} {base : Heap} {f C fC : Addr} {fd fdC : FuncData} (F : Fun K "__init__" "BadLog.__init__" sI_BadLog f fd) (T : TC K mg fC) (FC : Fun K "copied" "copied" sCopied fC fdC) (bC : Binds K fdC ["value"] []) (O : OexC K C) (n0 : PySem.W.findIn K (.ref C) "at" = some none) :
    FnG P w K mg base CX0 5 f fd ["self", "at"] (Pi K C 1 ["at"] gI) := by
  refine okG F sc_BadLog Pi.len fun cdv A outer s H vs Q E hq hr h => ?_
  have GC := ok_copied (P := P) (w := w) (base := base) FC bC T 3
  obtain ⟨G, a, ws, ds, es, rfl, hl, hs, ga, ha, hd, hg, k⟩ := h
  cases hd with
  | nil => cases hl
  | cons dv r =>
    cases r with
    | cons => cases hl
    | nil =>
      obtain ⟨hc, rfl⟩ := of_gI1 hg
      exact ⟨_, pss_one (ps_ost (pv 0) (pe_cg GC (hq.deeper _) hr rfl T.mC FC.kp bC .nil pass0 (pa_cons (pv 1) pa_nil))), rd_init1 hs ga ha dv O n0 (gC_of hc) k rfl⟩
theorem sc_BadText : FnScope ["self", "line", "word"] ["self", "line", "word"] (defScope sI_BadText) := ⟨rfl, rfl, rfl, by decide +kernel, rfl, by decide +kernel, by decide +kernel⟩
theorem ok_BadText {P : Program} {w : World} {K : PySem.W.Frag} {mg : Str → Option Value} {base : Heap} {f C fC : Addr} {fd fdC : FuncData} (F : Fun K "__init__" "BadText.__init__" sI_BadText f fd) (T : TC K mg fC) (FC : Fun K "copied" "copied" sCopied fC fdC) (bC : Binds K fdC ["value"] []) (O : OexC K C) (n0 : PySem.W.findIn K (.ref C) "line" = some none) (n1 : PySem.W.findIn K (.ref C) "word" = some none) :
    FnG P w K mg base CX0 5 f fd ["self", "line", "word"] (Pi K C 2 ["word", "line"] gI) := by
  refine okG F sc_BadText Pi.len fun cdv A outer s H vs Q E hq hr h => ?_
  have GC := ok_copied (P := P) (w := w) (base := base) FC bC T 3
  obtain ⟨G, a, ws, ds, es, rfl, hl, hs, ga, ha, hd, hg, k⟩ := h
  match ds, hl, hd, hg with
  | [d, e], _, .cons dv (.cons dv2 .nil), hg =>
    obtain ⟨hc, hc2, rfl⟩ := of_gI2 hg
    exact ⟨_, pss_cons (ps_ost (pv 0) (pe_cg GC (hq.deeper _) hr rfl T.mC FC.kp bC .nil pass0 (pa_cons (pv 1) pa_nil))) (pss_one (ps_ost (pv 0) (pe_cg GC (hq.deeper _) hr rfl T.mC FC.kp bC .nil pass0 (pa_cons (pv 2) pa_nil)))), rd_init2 hs ga ha dv dv2 O n0 n1 (gC_of hc) (gC_of hc2) k rfl⟩
theorem sc_BadLine : FnScope ["self", "word"] ["self", "word"] (defScope sI_BadLine) := ⟨rfl, rfl, rfl, by decide +kernel, rfl, by decide +kernel, by decide +kernel⟩
theorem ok_BadLine {P : Program} {w : World} {K : PySem.W.Frag} {mg : Str → Option Value} {base : Heap} {f C fC : Addr} {fd fdC : FuncData} (F : Fun K "__init__" "BadLine.__init__" sI_BadLine f fd) (T : TC K mg fC) (FC : Fun K "copied" "copied" sCopied fC fdC) (bC : Binds K fdC ["value"] []) (O : OexC K C) (n0 : PySem.W.findIn K (.ref C) "word" = some none) :
    FnG P w K mg base CX0 5 f fd ["self", "word"] (Pi K C 1 ["word"] gI) := by
  refine okG F sc_BadLine Pi.len fun cdv A outer s H vs Q E hq hr h => ?_
  have GC := ok_copied (P := P) (w := w) (base := base) FC bC T 3
  obtain ⟨G, a, ws, ds, es, rfl, hl, hs, ga, ha, hd, hg, k⟩ := h
  cases hd with
  | nil => cases hl
  | cons dv r =>
    cases r with
    | cons => cases hl
    | nil =>
      obtain ⟨hc, rfl⟩ := of_gI1 hg
      exact ⟨_, pss_one (ps_ost (pv 0) (pe_cg GC (hq.deeper _) hr rfl T.mC FC.kp bC .nil pass0 (pa_cons (pv 1) pa_nil))), rd_init1 hs ga ha dv O n0 (gC_of hc) k rfl⟩
theorem sc_NoYard : FnScope ["self", "yard"] ["self", "yard"] (defScope sI_NoYard) := ⟨rfl, rfl, rfl, by decide +kernel, rfl, by decide +kernel, by decide +kernel⟩
theorem ok_NoYard {P : Program} {w : World} {K : PySem.W.Frag} {mg : Str → Option Value} {base : Heap} {f C fC : Addr} {fd fdC : FuncData} (F : Fun K "__init__" "NoYard.__init__" sI_NoYard f fd) (T : TC K mg fC) (FC : Fun K "copied" "copied" sCopied fC fdC) (bC : Binds K fdC ["value"] []) (O : OexC K C) (n0 : PySem.W.findIn K (.ref C) "yard" = some none) :
    FnG P w K mg base CX0 5 f fd ["self", "yard"] (Pi K C 1 ["yard"] gI) := by
  refine okG F sc_NoYard Pi.len fun cdv A outer s H vs Q E hq hr h => ?_
  have GC := ok_copied (P := P) (w := w) (base := base) FC bC T 3
  obtain ⟨G, a, ws, ds, es, rfl, hl, hs, ga, ha, hd, hg, k⟩ := h
  cases hd with
  | nil => cases hl
  | cons dv r =>
    cases r with
    | cons => cases hl
    | nil =>
      obtain ⟨hc, rfl⟩ := of_gI1 hg
      exact ⟨_, pss_one (ps_ost (pv 0) (pe_cg GC (hq.deeper _) hr rfl T.mC FC.kp bC .nil pass0 (pa_cons (pv 1) pa_nil))), rd_init1 hs ga ha dv O n0 (gC_of hc) k rfl⟩
theorem sc_Unbalanced : FnScope ["self", "yard"] ["self", "yard"] (defScope sI_Unbalanced) := ⟨rfl, rfl, rfl, by decide +kernel, rfl, by decide +kernel, by decide +kernel⟩
theorem ok_Unbalanced {P : Program} {w : World} {K : PySem.W.Frag} {mg : Str → Option Value} {base : Heap} {f C fC : Addr} {fd fdC : FuncData} (F : Fun K "__init__" "Unbalanced.__init__" sI_Unbalanced f fd) (T : TC K mg fC) (FC : Fun K "copied" "copied" sCopied fC fdC) (bC : Binds K fdC ["value"] []) (O : OexC K C) (n0 : PySem.W.findIn K (.ref C) "yard" = some none) :
    FnG P w K mg base CX0 5 f fd ["self", "yard"] (Pi K C 1 ["yard"] gI) := by
  refine okG F sc_Unbalanced Pi.len fun cdv A outer s H vs Q E hq hr h => ?_
  have GC := ok_copied (P := P) (w := w) (base := base) FC bC T 3
  obtain ⟨G, a, ws, ds, es, rfl, hl, hs, ga, ha, hd, hg, k⟩ := h
  cases hd with
  | nil => cases hl
  | cons dv r =>
    cases r with
    | cons => cases hl
    | nil =>
      obtain ⟨hc, rfl⟩ := of_gI1 hg
      exact ⟨_, pss_one (ps_ost (pv 0) (pe_cg GC (hq.deeper _) hr rfl T.mC FC.kp bC .nil pass0 (pa_cons (pv 1) pa_nil))), rd_init1 hs ga ha dv O n0 (gC_of hc) k rfl⟩
theorem sc_NoTrailer : FnScope ["self", "yard"] ["self", "yard"] (defScope sI_NoTrailer) := ⟨rfl, rfl, rfl, by decide +kernel, rfl, by decide +kernel, by decide +kernel⟩
theorem ok_NoTrailer {P : Program} {w : World} {K : PySem.W.Frag} {mg : Str → Option Value} {base : Heap} {f C fC : Addr} {fd fdC : FuncData} (F : Fun K "__init__" "NoTrailer.__init__" sI_NoTrailer f fd) (T : TC K mg fC) (FC : Fun K "copied" "copied" sCopied fC fdC) (bC : Binds K fdC ["value"] []) (O : OexC K C) (n0 : PySem.W.findIn K (.ref C) "yard" = some none) :
    FnG P w K mg base CX0 5 f fd ["self", "yard"] (Pi K C 1 ["yard"] gI) := by
  refine okG F sc_NoTrailer Pi.len fun cdv A outer s H vs Q E hq hr h => ?_
  have GC := ok_copied (P := P) (w := w) (base := base) FC bC T 3
  obtain ⟨G, a, ws, ds, es, rfl, hl, hs, ga, ha, hd, hg, k⟩ := h
  cases hd with
  | nil => cases hl
  | cons dv r =>
    cases r with
    | cons => cases hl
    | nil =>
      obtain ⟨hc, rfl⟩ := of_gI1 hg
      exact ⟨_, pss_one (ps_ost (pv 0) (pe_cg GC (hq.deeper _) hr rfl T.mC FC.kp bC .nil pass0 (pa_cons (pv 1) pa_nil))), rd_init1 hs ga ha dv O n0 (gC_of hc) k rfl⟩
theorem sc_LeftStanding : FnScope ["self", "index"] ["self", "index"] (defScope sI_LeftStanding) := ⟨rfl, rfl, rfl, by decide +kernel, rfl, by decide +kernel, by decide +kernel⟩
theorem ok_LeftStanding {P : Program} {w : World} {K : PySem.W.Frag} {mg : Str → Option Value} {base : Heap} {f C fC : Addr} {fd fdC : FuncData} (F : Fun K "__init__" "LeftStanding.__init__" sI_LeftStanding f fd) (T : TC K mg fC) (FC : Fun K "copied" "copied" sCopied fC fdC) (bC : Binds K fdC ["value"] []) (O : OexC K C) (n0 : PySem.W.findIn K (.ref C) "index" = some none) :
    FnG P w K mg base CX0 5 f fd ["self", "index"] (Pi K C 1 ["index"] gI) := by
  refine okG F sc_LeftStanding Pi.len fun cdv A outer s H vs Q E hq hr h => ?_
  have GC := ok_copied (P := P) (w := w) (base := base) FC bC T 3
  obtain ⟨G, a, ws, ds, es, rfl, hl, hs, ga, ha, hd, hg, k⟩ := h
  cases hd with
  | nil => cases hl
  | cons dv r =>
    cases r with
    | cons => cases hl
    | nil =>
      obtain ⟨hc, rfl⟩ := of_gI1 hg
      exact ⟨_, pss_one (ps_ost (pv 0) (pe_cg GC (hq.deeper _) hr rfl T.mC FC.kp bC .nil pass0 (pa_cons (pv 1) pa_nil))), rd_init1 hs ga ha dv O n0 (gC_of hc) k rfl⟩
theorem sc_Unsafe : FnScope ["self", "loads"] ["self", "loads"] (defScope sI_Unsafe) := ⟨rfl, rfl, rfl, by decide +kernel, rfl, by decide +kernel, by decide +kernel⟩
theorem ok_Unsafe {P : Program} {w : World} {K : PySem.W.Frag} {mg : Str → Option Value} {base : Heap} {f C fC : Addr} {fd fdC : FuncData} (F : Fun K "__init__" "Unsafe.__init__" sI_Unsafe f fd) (T : TC K mg fC) (FC : Fun K "copied" "copied" sCopied fC fdC) (bC : Binds K fdC ["value"] []) (O : OexC K C) (n0 : PySem.W.findIn K (.ref C) "loads" = some none) :
    FnG P w K mg base CX0 5 f fd ["self", "loads"] (Pi K C 1 ["loads"] gI) := by
  refine okG F sc_Unsafe Pi.len fun cdv A outer s H vs Q E hq hr h => ?_
  have GC := ok_copied (P := P) (w := w) (base := base) FC bC T 3
  obtain ⟨G, a, ws, ds, es, rfl, hl, hs, ga, ha, hd, hg, k⟩ := h
  cases hd with
  | nil => cases hl
  | cons dv r =>
    cases r with
    | cons => cases hl
    | nil =>
      obtain ⟨hc, rfl⟩ := of_gI1 hg
      exact ⟨_, pss_one (ps_ost (pv 0) (pe_cg GC (hq.deeper _) hr rfl T.mC FC.kp bC .nil pass0 (pa_cons (pv 1) pa_nil))), rd_init1 hs ga ha dv O n0 (gC_of hc) k rfl⟩
theorem sc_Strands : FnScope ["self", "loads"] ["self", "loads"] (defScope sI_Strands) := ⟨rfl, rfl, rfl, by decide +kernel, rfl, by decide +kernel, by decide +kernel⟩
theorem ok_Strands {P : Program} {w : World} {K : PySem.W.Frag} {mg : Str → Option Value} {base : Heap} {f C fC : Addr} {fd fdC : FuncData} (F : Fun K "__init__" "Strands.__init__" sI_Strands f fd) (T : TC K mg fC) (FC : Fun K "copied" "copied" sCopied fC fdC) (bC : Binds K fdC ["value"] []) (O : OexC K C) (n0 : PySem.W.findIn K (.ref C) "loads" = some none) :
    FnG P w K mg base CX0 5 f fd ["self", "loads"] (Pi K C 1 ["loads"] gI) := by
  refine okG F sc_Strands Pi.len fun cdv A outer s H vs Q E hq hr h => ?_
  have GC := ok_copied (P := P) (w := w) (base := base) FC bC T 3
  obtain ⟨G, a, ws, ds, es, rfl, hl, hs, ga, ha, hd, hg, k⟩ := h
  cases hd with
  | nil => cases hl
  | cons dv r =>
    cases r with
    | cons => cases hl
    | nil =>
      obtain ⟨hc, rfl⟩ := of_gI1 hg
      exact ⟨_, pss_one (ps_ost (pv 0) (pe_cg GC (hq.deeper _) hr rfl T.mC FC.kp bC .nil pass0 (pa_cons (pv 1) pa_nil))), rd_init1 hs ga ha dv O n0 (gC_of hc) k rfl⟩
theorem sc_TooMany : FnScope ["self", "what", "most"] ["self", "what", "most"] (defScope sI_TooMany) := ⟨rfl, rfl, rfl, by decide +kernel, rfl, by decide +kernel, by decide +kernel⟩
theorem ok_TooMany {P : Program} {w : World} {K : PySem.W.Frag} {mg : Str → Option Value} {base : Heap} {f C fC : Addr} {fd fdC : FuncData} (F : Fun K "__init__" "TooMany.__init__" sI_TooMany f fd) (T : TC K mg fC) (FC : Fun K "copied" "copied" sCopied fC fdC) (bC : Binds K fdC ["value"] []) (O : OexC K C) (n0 : PySem.W.findIn K (.ref C) "what" = some none) (n1 : PySem.W.findIn K (.ref C) "most" = some none) :
    FnG P w K mg base CX0 5 f fd ["self", "what", "most"] (Pi K C 2 ["most", "what"] gI) := by
  refine okG F sc_TooMany Pi.len fun cdv A outer s H vs Q E hq hr h => ?_
  have GC := ok_copied (P := P) (w := w) (base := base) FC bC T 3
  obtain ⟨G, a, ws, ds, es, rfl, hl, hs, ga, ha, hd, hg, k⟩ := h
  match ds, hl, hd, hg with
  | [d, e], _, .cons dv (.cons dv2 .nil), hg =>
    obtain ⟨hc, hc2, rfl⟩ := of_gI2 hg
    exact ⟨_, pss_cons (ps_ost (pv 0) (pe_cg GC (hq.deeper _) hr rfl T.mC FC.kp bC .nil pass0 (pa_cons (pv 1) pa_nil))) (pss_one (ps_ost (pv 0) (pe_cg GC (hq.deeper _) hr rfl T.mC FC.kp bC .nil pass0 (pa_cons (pv 2) pa_nil)))), rd_init2 hs ga ha dv dv2 O n0 n1 (gC_of hc) (gC_of hc2) k rfl⟩
end K01

set_option Elab.async false
set_option linter.all false
set_option maxRecDepth 100000
set_option maxHeartbeats 4000000
namespace K01
open PySem PySem.Spec PyProof.Rows L2 GL
def sgs : List Str := ["input", "refused", "answer", "rate", "name", "trip", "tour", "stand", "count", "order", "loads", "word", "rule", "log", "text", "line", "yard", "lean", "none", "left", "unsafe", "strands", "many", "deed", "depot"]
def sg (j : Nat) : Str := sgs.getD j ""
def isSub (i j : Nat) : Bool := i == j || (j == 0 && Nat.ble 3 i && Nat.ble i 15) || (j == 1 && Nat.ble 16 i && Nat.ble i 22) || (j == 2 && Nat.ble 23 i && Nat.ble i 24)
def signsD (i : Nat) : List Da := (List.range 25).map fun j => .tup [.str (sg j), .bl (isSub i j)]
def kindsD (i : Nat) : List Da := ((List.range 25).filter (isSub i)).map fun j => .str (sg j)
structure TX (P : Program) (w : World) (K : PySem.W.Frag) (mg : Str → Option Value) (base : Heap) (C I : Nat → Addr) (FD : Nat → FuncData) : Prop where
  sys : SysAt base
  n_isinstance : mg "isinstance" = none
  n_repr : mg "repr" = none
  n_list : mg "list" = none
  n_tuple : mg "tuple" = none
  n_dict : mg "dict" = none
  n_int : mg "int" = none
  n_len : mg "len" = none
  n_abs : mg "abs" = none
  n_range : mg "range" = none
  n_ValueError : mg "ValueError" = none
  get : ∀ i, i < 26 → OGet K (C i)
  kit : ∀ i j, i < 26 → j < 25 → PySem.W.kitOne K (.ref (C i)) (.ref (C j)) = some (isSub i j)
  kitP : ∀ i, i < 26 → PySem.W.kitOne K (.ref (C i)) (.ref (C 25)) = some true
  kitV : PySem.W.kitOne K (.ref (C 25)) (.type "ValueError") = some true
  m_BadInput : mg "BadInput" = some (.ref (C 0))
  m_Refused : mg "Refused" = some (.ref (C 1))
  m_NoAnswer : mg "NoAnswer" = some (.ref (C 2))
  m_BadRate : mg "BadRate" = some (.ref (C 3))
  m_BadName : mg "BadName" = some (.ref (C 4))
  m_BadTrip : mg "BadTrip" = some (.ref (C 5))
  m_BadTour : mg "BadTour" = some (.ref (C 6))
  m_BadStand : mg "BadStand" = some (.ref (C 7))
  m_BadCount : mg "BadCount" = some (.ref (C 8))
  m_BadOrder : mg "BadOrder" = some (.ref (C 9))
  m_BadLoads : mg "BadLoads" = some (.ref (C 10))
  m_BadWord : mg "BadWord" = some (.ref (C 11))
  m_BadRule : mg "BadRule" = some (.ref (C 12))
  m_BadLog : mg "BadLog" = some (.ref (C 13))
  m_BadText : mg "BadText" = some (.ref (C 14))
  m_BadLine : mg "BadLine" = some (.ref (C 15))
  m_NoYard : mg "NoYard" = some (.ref (C 16))
  m_Unbalanced : mg "Unbalanced" = some (.ref (C 17))
  m_NoTrailer : mg "NoTrailer" = some (.ref (C 18))
  m_LeftStanding : mg "LeftStanding" = some (.ref (C 19))
  m_Unsafe : mg "Unsafe" = some (.ref (C 20))
  m_Strands : mg "Strands" = some (.ref (C 21))
  m_TooMany : mg "TooMany" = some (.ref (C 22))
  m_NoDeed : mg "NoDeed" = some (.ref (C 23))
  m_NoDepot : mg "NoDepot" = some (.ref (C 24))
  m_PullError : mg "PullError" = some (.ref (C 25))
  mk_BadRate : OMk K (C 3) (I 3)
  ok_BadRate : FnG P w K mg base CX0 5 (I 3) (FD 3) ["self", "part"] (Pi K (C 3) 1 ["part"] gI)
  kp_BadRate : KBn K (FD 3) ["self", "part"] 2 [] (fun us _ => us) (fun vs _ => vs)
  kk_BadRate : KBn K (FD 3) ["self", "part"] 1 ["part"] (fun us ws => us ++ ws) (fun vs zs => vs ++ zs)
  no_BadRate_part : PySem.W.findIn K (.ref (C 3)) "part" = some none
  mk_BadName : OMk K (C 4) (I 4)
  ok_BadName : FnG P w K mg base CX0 5 (I 4) (FD 4) ["self", "value"] (Pi K (C 4) 1 ["value"] gI)
  kp_BadName : KBn K (FD 4) ["self", "value"] 2 [] (fun us _ => us) (fun vs _ => vs)
  kk_BadName : KBn K (FD 4) ["self", "value"] 1 ["value"] (fun us ws => us ++ ws) (fun vs zs => vs ++ zs)
  no_BadName_value : PySem.W.findIn K (.ref (C 4)) "value" = some none
  mk_BadTrip : OMk K (C 5) (I 5)
  ok_BadTrip : FnG P w K mg base CX0 5 (I 5) (FD 5) ["self", "part"] (Pi K (C 5) 1 ["part"] gI)
  kp_BadTrip : KBn K (FD 5) ["self", "part"] 2 [] (fun us _ => us) (fun vs _ => vs)
  kk_BadTrip : KBn K (FD 5) ["self", "part"] 1 ["part"] (fun us ws => us ++ ws) (fun vs zs => vs ++ zs)
  no_BadTrip_part : PySem.W.findIn K (.ref (C 5)) "part" = some none
  mk_BadTour : OMk K (C 6) (I 6)
  ok_BadTour : FnG P w K mg base CX0 5 (I 6) (FD 6) ["self", "part"] (Pi K (C 6) 1 ["part"] gI)
  kp_BadTour : KBn K (FD 6) ["self", "part"] 2 [] (fun us _ => us) (fun vs _ => vs)
  kk_BadTour : KBn K (FD 6) ["self", "part"] 1 ["part"] (fun us ws => us ++ ws) (fun vs zs => vs ++ zs)
  no_BadTour_part : PySem.W.findIn K (.ref (C 6)) "part" = some none
  mk_BadStand : OMk K (C 7) (I 7)
  ok_BadStand : FnG P w K mg base CX0 5 (I 7) (FD 7) ["self", "part"] (Pi K (C 7) 1 ["part"] gI)
  kp_BadStand : KBn K (FD 7) ["self", "part"] 2 [] (fun us _ => us) (fun vs _ => vs)
  kk_BadStand : KBn K (FD 7) ["self", "part"] 1 ["part"] (fun us ws => us ++ ws) (fun vs zs => vs ++ zs)
  no_BadStand_part : PySem.W.findIn K (.ref (C 7)) "part" = some none
  mk_BadCount : OMk K (C 8) (I 8)
  ok_BadCount : FnG P w K mg base CX0 5 (I 8) (FD 8) ["self", "value"] (Pi K (C 8) 1 ["value"] gI)
  kp_BadCount : KBn K (FD 8) ["self", "value"] 2 [] (fun us _ => us) (fun vs _ => vs)
  kk_BadCount : KBn K (FD 8) ["self", "value"] 1 ["value"] (fun us ws => us ++ ws) (fun vs zs => vs ++ zs)
  no_BadCount_value : PySem.W.findIn K (.ref (C 8)) "value" = some none
  mk_BadOrder : OMk K (C 9) (I 9)
  ok_BadOrder : FnG P w K mg base CX0 5 (I 9) (FD 9) ["self", "part"] (Pi K (C 9) 1 ["part"] gI)
  kp_BadOrder : KBn K (FD 9) ["self", "part"] 2 [] (fun us _ => us) (fun vs _ => vs)
  kk_BadOrder : KBn K (FD 9) ["self", "part"] 1 ["part"] (fun us ws => us ++ ws) (fun vs zs => vs ++ zs)
  no_BadOrder_part : PySem.W.findIn K (.ref (C 9)) "part" = some none
  mk_BadLoads : OMk K (C 10) (I 10)
  ok_BadLoads : FnG P w K mg base CX0 5 (I 10) (FD 10) ["self", "at"] (Pi K (C 10) 1 ["at"] gI)
  kp_BadLoads : KBn K (FD 10) ["self", "at"] 2 [] (fun us _ => us) (fun vs _ => vs)
  kk_BadLoads : KBn K (FD 10) ["self", "at"] 1 ["at"] (fun us ws => us ++ ws) (fun vs zs => vs ++ zs)
  no_BadLoads_at : PySem.W.findIn K (.ref (C 10)) "at" = some none
  mk_BadWord : OMk K (C 11) (I 11)
  ok_BadWord : FnG P w K mg base CX0 5 (I 11) (FD 11) ["self", "value"] (Pi K (C 11) 1 ["value"] gI)
  kp_BadWord : KBn K (FD 11) ["self", "value"] 2 [] (fun us _ => us) (fun vs _ => vs)
  kk_BadWord : KBn K (FD 11) ["self", "value"] 1 ["value"] (fun us ws => us ++ ws) (fun vs zs => vs ++ zs)
  no_BadWord_value : PySem.W.findIn K (.ref (C 11)) "value" = some none
  mk_BadRule : OMk K (C 12) (I 12)
  ok_BadRule : FnG P w K mg base CX0 5 (I 12) (FD 12) ["self", "part"] (Pi K (C 12) 1 ["part"] gI)
  kp_BadRule : KBn K (FD 12) ["self", "part"] 2 [] (fun us _ => us) (fun vs _ => vs)
  kk_BadRule : KBn K (FD 12) ["self", "part"] 1 ["part"] (fun us ws => us ++ ws) (fun vs zs => vs ++ zs)
  no_BadRule_part : PySem.W.findIn K (.ref (C 12)) "part" = some none
  mk_BadLog : OMk K (C 13) (I 13)
  ok_BadLog : FnG P w K mg base CX0 5 (I 13) (FD 13) ["self", "at"] (Pi K (C 13) 1 ["at"] gI)
  kp_BadLog : KBn K (FD 13) ["self", "at"] 2 [] (fun us _ => us) (fun vs _ => vs)
  kk_BadLog : KBn K (FD 13) ["self", "at"] 1 ["at"] (fun us ws => us ++ ws) (fun vs zs => vs ++ zs)
  no_BadLog_at : PySem.W.findIn K (.ref (C 13)) "at" = some none
  mk_BadText : OMk K (C 14) (I 14)
  ok_BadText : FnG P w K mg base CX0 5 (I 14) (FD 14) ["self", "line", "word"] (Pi K (C 14) 2 ["word", "line"] gI)
  kp_BadText : KBn K (FD 14) ["self", "line", "word"] 3 [] (fun us _ => us) (fun vs _ => vs)
  kk_BadText : KBn K (FD 14) ["self", "line", "word"] 1 ["word", "line"] (fun us ws => us ++ ws.reverse) (fun vs zs => vs ++ zs.reverse)
  no_BadText_line : PySem.W.findIn K (.ref (C 14)) "line" = some none
  no_BadText_word : PySem.W.findIn K (.ref (C 14)) "word" = some none
  mk_BadLine : OMk K (C 15) (I 15)
  ok_BadLine : FnG P w K mg base CX0 5 (I 15) (FD 15) ["self", "word"] (Pi K (C 15) 1 ["word"] gI)
  kp_BadLine : KBn K (FD 15) ["self", "word"] 2 [] (fun us _ => us) (fun vs _ => vs)
  kk_BadLine : KBn K (FD 15) ["self", "word"] 1 ["word"] (fun us ws => us ++ ws) (fun vs zs => vs ++ zs)
  no_BadLine_word : PySem.W.findIn K (.ref (C 15)) "word" = some none
  mk_NoYard : OMk K (C 16) (I 16)
  ok_NoYard : FnG P w K mg base CX0 5 (I 16) (FD 16) ["self", "yard"] (Pi K (C 16) 1 ["yard"] gI)
  kp_NoYard : KBn K (FD 16) ["self", "yard"] 2 [] (fun us _ => us) (fun vs _ => vs)
  kk_NoYard : KBn K (FD 16) ["self", "yard"] 1 ["yard"] (fun us ws => us ++ ws) (fun vs zs => vs ++ zs)
  no_NoYard_yard : PySem.W.findIn K (.ref (C 16)) "yard" = some none
  mk_Unbalanced : OMk K (C 17) (I 17)
  ok_Unbalanced : FnG P w K mg base CX0 5 (I 17) (FD 17) ["self", "yard"] (Pi K (C 17) 1 ["yard"] gI)
  kp_Unbalanced : KBn K (FD 17) ["self", "yard"] 2 [] (fun us _ => us) (fun vs _ => vs)
  kk_Unbalanced : KBn K (FD 17) ["self", "yard"] 1 ["yard"] (fun us ws => us ++ ws) (fun vs zs => vs ++ zs)
  no_Unbalanced_yard : PySem.W.findIn K (.ref (C 17)) "yard" = some none
  mk_NoTrailer : OMk K (C 18) (I 18)
  ok_NoTrailer : FnG P w K mg base CX0 5 (I 18) (FD 18) ["self", "yard"] (Pi K (C 18) 1 ["yard"] gI)
  kp_NoTrailer : KBn K (FD 18) ["self", "yard"] 2 [] (fun us _ => us) (fun vs _ => vs)
  kk_NoTrailer : KBn K (FD 18) ["self", "yard"] 1 ["yard"] (fun us ws => us ++ ws) (fun vs zs => vs ++ zs)
  no_NoTrailer_yard : PySem.W.findIn K (.ref (C 18)) "yard" = some none
  mk_LeftStanding : OMk K (C 19) (I 19)
  ok_LeftStanding : FnG P w K mg base CX0 5 (I 19) (FD 19) ["self", "index"] (Pi K (C 19) 1 ["index"] gI)
  kp_LeftStanding : KBn K (FD 19) ["self", "index"] 2 [] (fun us _ => us) (fun vs _ => vs)
  kk_LeftStanding : KBn K (FD 19) ["self", "index"] 1 ["index"] (fun us ws => us ++ ws) (fun vs zs => vs ++ zs)
  no_LeftStanding_index : PySem.W.findIn K (.ref (C 19)) "index" = some none
  mk_Unsafe : OMk K (C 20) (I 20)
  ok_Unsafe : FnG P w K mg base CX0 5 (I 20) (FD 20) ["self", "loads"] (Pi K (C 20) 1 ["loads"] gI)
  kp_Unsafe : KBn K (FD 20) ["self", "loads"] 2 [] (fun us _ => us) (fun vs _ => vs)
  kk_Unsafe : KBn K (FD 20) ["self", "loads"] 1 ["loads"] (fun us ws => us ++ ws) (fun vs zs => vs ++ zs)
  no_Unsafe_loads : PySem.W.findIn K (.ref (C 20)) "loads" = some none
  mk_Strands : OMk K (C 21) (I 21)
  ok_Strands : FnG P w K mg base CX0 5 (I 21) (FD 21) ["self", "loads"] (Pi K (C 21) 1 ["loads"] gI)
  kp_Strands : KBn K (FD 21) ["self", "loads"] 2 [] (fun us _ => us) (fun vs _ => vs)
  kk_Strands : KBn K (FD 21) ["self", "loads"] 1 ["loads"] (fun us ws => us ++ ws) (fun vs zs => vs ++ zs)
  no_Strands_loads : PySem.W.findIn K (.ref (C 21)) "loads" = some none
  mk_TooMany : OMk K (C 22) (I 22)
  ok_TooMany : FnG P w K mg base CX0 5 (I 22) (FD 22) ["self", "what", "most"] (Pi K (C 22) 2 ["most", "what"] gI)
  kp_TooMany : KBn K (FD 22) ["self", "what", "most"] 3 [] (fun us _ => us) (fun vs _ => vs)
  kk_TooMany : KBn K (FD 22) ["self", "what", "most"] 1 ["most", "what"] (fun us ws => us ++ ws.reverse) (fun vs zs => vs ++ zs.reverse)
  no_TooMany_what : PySem.W.findIn K (.ref (C 22)) "what" = some none
  no_TooMany_most : PySem.W.findIn K (.ref (C 22)) "most" = some none
  e_BadInput : PySem.W.excIn K (C 0) [.type "ValueError", .type "Exception", .type "BaseException", .type "object"] "ValueError.__new__" = true
  kc_BadInput : PySem.W.keepIn K (.ref (C 0)) = true
  e_Refused : PySem.W.excIn K (C 1) [.type "ValueError", .type "Exception", .type "BaseException", .type "object"] "ValueError.__new__" = true
  kc_Refused : PySem.W.keepIn K (.ref (C 1)) = true
  e_NoAnswer : PySem.W.excIn K (C 2) [.type "ValueError", .type "Exception", .type "BaseException", .type "object"] "ValueError.__new__" = true
  kc_NoAnswer : PySem.W.keepIn K (.ref (C 2)) = true
  e_NoDeed : PySem.W.excIn K (C 23) [.type "ValueError", .type "Exception", .type "BaseException", .type "object"] "ValueError.__new__" = true
  kc_NoDeed : PySem.W.keepIn K (.ref (C 23)) = true
  e_NoDepot : PySem.W.excIn K (C 24) [.type "ValueError", .type "Exception", .type "BaseException", .type "object"] "ValueError.__new__" = true
  kc_NoDepot : PySem.W.keepIn K (.ref (C 24)) = true
  e_PullError : PySem.W.excIn K (C 25) [.type "ValueError", .type "Exception", .type "BaseException", .type "object"] "ValueError.__new__" = true
  kc_PullError : PySem.W.keepIn K (.ref (C 25)) = true
section
variable {K : PySem.W.Frag} {σ : L2.St} {G : Hp} {te tf : TE} {d e : Da} {C : Addr} {f g : Str} {E : XK}
theorem x_o1 (h : cp 3 d = true) (x : Evd K te σ G d) : Evd K (tOex C 1 0 (Pi K C 1 [f] gI) (fun vs _ => vs) E (tCons te tNil) tNil) σ G (.exc C [f] [d]) :=
  x_oex (xs_cons x es_nil) es_nil rfl rfl [d] rfl (fun a H' vs ws r1 r2 => ⟨vs, rfl, r1⟩) (gI1 h)
theorem x_k1 (h : cp 3 d = true) (x : Evd K te σ G d) : Evd K (tOex C 0 1 (Pi K C 1 [f] gI) (fun vs zs => vs ++ zs) E tNil (tCons te tNil)) σ G (.exc C [f] [d]) :=
  x_oex es_nil (xs_cons x es_nil) rfl rfl [d] rfl (fun a H' vs ws r1 r2 => by cases none_of r1; exact ⟨ws, rfl, r2⟩) (gI1 h)
theorem x_o2 (h : cp 3 d = true) (h2 : cp 3 e = true) (x : Evd K te σ G d) (y : Evd K tf σ G e) : Evd K (tOex C 2 0 (Pi K C 2 [g, f] gI) (fun vs _ => vs) E (tCons te (tCons tf tNil)) tNil) σ G (.exc C [g, f] [e, d]) :=
  x_oex (xs_cons x (xs_cons y es_nil)) es_nil rfl rfl [d, e] rfl (fun a H' vs ws r1 r2 => ⟨vs, rfl, r1⟩) (gI2 h h2)
/-- the keywords are written in the other order: the second field's first -/
theorem x_k2 (h2 : cp 3 e = true) (h : cp 3 d = true) (y : Evd K tf σ G e) (x : Evd K te σ G d) : Evd K (tOex C 0 2 (Pi K C 2 [g, f] gI) (fun vs zs => vs ++ zs.reverse) E tNil (tCons tf (tCons te tNil))) σ G (.exc C [g, f] [e, d]) :=
  x_oex es_nil (xs_cons y (xs_cons x es_nil)) rfl rfl [d, e] rfl (fun a H' vs ws r1 r2 => by
    cases none_of r1
    obtain ⟨v, u, rfl, k1, k2⟩ := two_of r2
    exact ⟨[u, v], rfl, .cons k2 (.cons k1 .nil)⟩) (gI2 h h2)
end
def Rsig (C : Nat → Addr) (f : Nat → List Da) (ds : List Da) (d : Da) : Prop := ∃ i ns es, i < 26 ∧ ds = [.exc (C i) ns es] ∧ d = .lst (f i)
def row (C : Nat → Addr) (x : Da) (p : Nat × Str) : Da := .tup [.exc (C p.1) [p.2] [x], .str (sg p.1), x]
def insD : List (Nat × Str) := [(3, "part"), (5, "part"), (6, "part"), (7, "part"), (9, "part"), (12, "part"), (4, "value"), (8, "value"), (11, "value"), (10, "at"), (13, "at"), (15, "word")]
def othD : List (Nat × Str) := [(16, "yard"), (17, "yard"), (18, "yard"), (19, "index"), (20, "loads"), (21, "loads")]
def Rrow (C : Nat → Addr) (ps : List (Nat × Str)) (ds : List Da) (d : Da) : Prop := ∃ x, cp 3 x = true ∧ ds = [x] ∧ d = .lst (ps.map (row C x))
/-- what may be told -/
def Th (x : Da) : Prop := cp 3 x = true ∧ ∃ p, x.toP = some p ∧ p.showable = true ∧ p.shown.length ≤ 1000 ∧ p.depth ≤ 10
def Rth (n : Nat) (ds : List Da) (d : Da) : Prop := ds.length = n ∧ (∀ x ∈ ds, Th x) ∧ d = .bl true
theorem sz1000 {n : Nat} (h : n ≤ 1000) : n ≤ sizeLine := Nat.le_trans h (by decide)
theorem x_repr {K : PySem.W.Frag} {σ : L2.St} {G : Hp} {te : TE} {x : Da} (h : Evd K te σ G x) (t : Th x) : ∃ z, x.toP.map PyData.shown = some z ∧ Evd K (tCB (rRepr K) (tCons te tNil)) σ G (.str z) := by
  obtain ⟨_, p, hp, h1, h2, h3⟩ := t
  exact ⟨p.shown, by rw [hp]; rfl, ed_repr h hp h1 (sz1000 h2) (Nat.le_trans h3 (by decide))⟩
section
variable {P : Program} {w : World} {K : PySem.W.Frag} {mg : Str → Option Value} {base : Heap} {C I : Nat → Addr} {FD : Nat → FuncData}
theorem sc_law_signs : FnScope ["_law_error", "_law_found"] ["_law_error"] (defScope s__law_signs) := ⟨rfl, rfl, rfl, by decide +kernel, rfl, by decide +kernel, by decide +kernel⟩
theorem ok_law_signs {f : Addr} {fd : FuncData} (F : Fun K "_law_signs" "_law_signs" s__law_signs f fd) (T : TX P w K mg base C I FD) : FnG P w K mg base CX0 2 f fd ["_law_error"] (Pr K 1 (Rsig C signsD)) := by
  refine okG F sc_law_signs Pr.len fun cdv A outer s H vs Q E hq hr h => ?_
  obtain ⟨G, ds, d, hs, hl, hd, ⟨i, ns, es, hi, rfl, rfl⟩, k⟩ := h
  obtain ⟨v, rfl, d0⟩ := one_of hd
  refine ⟨_, (pss_cons (ps_set (i := 1) sc_law_signs.nd rfl (Or.inl rfl) (pe_lst (pa_cons (pe_tup (pa_cons pe_str (pa_cons (pe_isO (K := K) rfl T.n_isinstance (by rfl) (pa_cons (pv 0) (pa_cons (pe_own T.m_BadInput rfl) pa_nil))) pa_nil))) (pa_cons (pe_tup (pa_cons pe_str (pa_cons (pe_isO (K := K) rfl T.n_isinstance (by rfl) (pa_cons (pv 0) (pa_cons (pe_own T.m_Refused rfl) pa_nil))) pa_nil))) pa_nil))))
      (pss_cons (ps_set (i := 1) sc_law_signs.nd rfl (Or.inl rfl) (pe_op op_cat (pv 1) (pe_lst (pa_cons (pe_tup (pa_cons pe_str (pa_cons (pe_isO (K := K) rfl T.n_isinstance (by rfl) (pa_cons (pv 0) (pa_cons (pe_own T.m_NoAnswer rfl) pa_nil))) pa_nil))) (pa_cons (pe_tup (pa_cons pe_str (pa_cons (pe_isO (K := K) rfl T.n_isinstance (by rfl) (pa_cons (pv 0) (pa_cons (pe_own T.m_BadRate rfl) pa_nil))) pa_nil))) pa_nil)))))
      (pss_cons (ps_set (i := 1) sc_law_signs.nd rfl (Or.inl rfl) (pe_op op_cat (pv 1) (pe_lst (pa_cons (pe_tup (pa_cons pe_str (pa_cons (pe_isO (K := K) rfl T.n_isinstance (by rfl) (pa_cons (pv 0) (pa_cons (pe_own T.m_BadName rfl) pa_nil))) pa_nil))) (pa_cons (pe_tup (pa_cons pe_str (pa_cons (pe_isO (K := K) rfl T.n_isinstance (by rfl) (pa_cons (pv 0) (pa_cons (pe_own T.m_BadTrip rfl) pa_nil))) pa_nil))) pa_nil)))))
      (pss_cons (ps_set (i := 1) sc_law_signs.nd rfl (Or.inl rfl) (pe_op op_cat (pv 1) (pe_lst (pa_cons (pe_tup (pa_cons pe_str (pa_cons (pe_isO (K := K) rfl T.n_isinstance (by rfl) (pa_cons (pv 0) (pa_cons (pe_own T.m_BadTour rfl) pa_nil))) pa_nil))) (pa_cons (pe_tup (pa_cons pe_str (pa_cons (pe_isO (K := K) rfl T.n_isinstance (by rfl) (pa_cons (pv 0) (pa_cons (pe_own T.m_BadStand rfl) pa_nil))) pa_nil))) pa_nil)))))
      (pss_cons (ps_set (i := 1) sc_law_signs.nd rfl (Or.inl rfl) (pe_op op_cat (pv 1) (pe_lst (pa_cons (pe_tup (pa_cons pe_str (pa_cons (pe_isO (K := K) rfl T.n_isinstance (by rfl) (pa_cons (pv 0) (pa_cons (pe_own T.m_BadCount rfl) pa_nil))) pa_nil))) (pa_cons (pe_tup (pa_cons pe_str (pa_cons (pe_isO (K := K) rfl T.n_isinstance (by rfl) (pa_cons (pv 0) (pa_cons (pe_own T.m_BadOrder rfl) pa_nil))) pa_nil))) pa_nil)))))
      (pss_cons (ps_set (i := 1) sc_law_signs.nd rfl (Or.inl rfl) (pe_op op_cat (pv 1) (pe_lst (pa_cons (pe_tup (pa_cons pe_str (pa_cons (pe_isO (K := K) rfl T.n_isinstance (by rfl) (pa_cons (pv 0) (pa_cons (pe_own T.m_BadLoads rfl) pa_nil))) pa_nil))) (pa_cons (pe_tup (pa_cons pe_str (pa_cons (pe_isO (K := K) rfl T.n_isinstance (by rfl) (pa_cons (pv 0) (pa_cons (pe_own T.m_BadWord rfl) pa_nil))) pa_nil))) pa_nil)))))
      (pss_cons (ps_set (i := 1) sc_law_signs.nd rfl (Or.inl rfl) (pe_op op_cat (pv 1) (pe_lst (pa_cons (pe_tup (pa_cons pe_str (pa_cons (pe_isO (K := K) rfl T.n_isinstance (by rfl) (pa_cons (pv 0) (pa_cons (pe_own T.m_BadRule rfl) pa_nil))) pa_nil))) (pa_cons (pe_tup (pa_cons pe_str (pa_cons (pe_isO (K := K) rfl T.n_isinstance (by rfl) (pa_cons (pv 0) (pa_cons (pe_own T.m_BadLog rfl) pa_nil))) pa_nil))) pa_nil)))))
      (pss_cons (ps_set (i := 1) sc_law_signs.nd rfl (Or.inl rfl) (pe_op op_cat (pv 1) (pe_lst (pa_cons (pe_tup (pa_cons pe_str (pa_cons (pe_isO (K := K) rfl T.n_isinstance (by rfl) (pa_cons (pv 0) (pa_cons (pe_own T.m_BadText rfl) pa_nil))) pa_nil))) (pa_cons (pe_tup (pa_cons pe_str (pa_cons (pe_isO (K := K) rfl T.n_isinstance (by rfl) (pa_cons (pv 0) (pa_cons (pe_own T.m_BadLine rfl) pa_nil))) pa_nil))) pa_nil)))))
      (pss_cons (ps_set (i := 1) sc_law_signs.nd rfl (Or.inl rfl) (pe_op op_cat (pv 1) (pe_lst (pa_cons (pe_tup (pa_cons pe_str (pa_cons (pe_isO (K := K) rfl T.n_isinstance (by rfl) (pa_cons (pv 0) (pa_cons (pe_own T.m_NoYard rfl) pa_nil))) pa_nil))) (pa_cons (pe_tup (pa_cons pe_str (pa_cons (pe_isO (K := K) rfl T.n_isinstance (by rfl) (pa_cons (pv 0) (pa_cons (pe_own T.m_Unbalanced rfl) pa_nil))) pa_nil))) pa_nil)))))
      (pss_cons (ps_set (i := 1) sc_law_signs.nd rfl (Or.inl rfl) (pe_op op_cat (pv 1) (pe_lst (pa_cons (pe_tup (pa_cons pe_str (pa_cons (pe_isO (K := K) rfl T.n_isinstance (by rfl) (pa_cons (pv 0) (pa_cons (pe_own T.m_NoTrailer rfl) pa_nil))) pa_nil))) (pa_cons (pe_tup (pa_cons pe_str (pa_cons (pe_isO (K := K) rfl T.n_isinstance (by rfl) (pa_cons (pv 0) (pa_cons (pe_own T.m_LeftStanding rfl) pa_nil))) pa_nil))) pa_nil)))))
      (pss_cons (ps_set (i := 1) sc_law_signs.nd rfl (Or.inl rfl) (pe_op op_cat (pv 1) (pe_lst (pa_cons (pe_tup (pa_cons pe_str (pa_cons (pe_isO (K := K) rfl T.n_isinstance (by rfl) (pa_cons (pv 0) (pa_cons (pe_own T.m_Unsafe rfl) pa_nil))) pa_nil))) (pa_cons (pe_tup (pa_cons pe_str (pa_cons (pe_isO (K := K) rfl T.n_isinstance (by rfl) (pa_cons (pv 0) (pa_cons (pe_own T.m_Strands rfl) pa_nil))) pa_nil))) pa_nil)))))
      (pss_cons (ps_set (i := 1) sc_law_signs.nd rfl (Or.inl rfl) (pe_op op_cat (pv 1) (pe_lst (pa_cons (pe_tup (pa_cons pe_str (pa_cons (pe_isO (K := K) rfl T.n_isinstance (by rfl) (pa_cons (pv 0) (pa_cons (pe_own T.m_TooMany rfl) pa_nil))) pa_nil))) (pa_cons (pe_tup (pa_cons pe_str (pa_cons (pe_isO (K := K) rfl T.n_isinstance (by rfl) (pa_cons (pv 0) (pa_cons (pe_own T.m_NoDeed rfl) pa_nil))) pa_nil))) pa_nil)))))
      (pss_one (ps_ret (pe_op op_cat (pv 1) (pe_lst (pa_cons (pe_tup (pa_cons pe_str (pa_cons (pe_isO (K := K) rfl T.n_isinstance (by rfl) (pa_cons (pv 0) (pa_cons (pe_own T.m_NoDepot rfl) pa_nil))) pa_nil))) pa_nil))))))))))))))))), ?_⟩
  have N : Nw G H G H := Nw.refl hs
  refine qd_asg hs (x_lst (xs_cons (x_tup (xs_cons xc_str (xs_cons (x_isO (ed_var rfl d0) (T.get i hi) (T.kit i 0 hi (by decide))) es_nil))) (xs_cons (x_tup (xs_cons xc_str (xs_cons (x_isO (ed_var rfl d0) (T.get i hi) (T.kit i 1 hi (by decide))) es_nil))) es_nil))) fun wv G1 H1 n1 dn => ?_
  have hs := n1.b; have N := N.trans n1
  have d0 := d0.up n1.a
  have d1 := dn
  refine qd_asg hs (x_catb (ed_var rfl d1) (x_lst (xs_cons (x_tup (xs_cons xc_str (xs_cons (x_isO (ed_var rfl d0) (T.get i hi) (T.kit i 2 hi (by decide))) es_nil))) (xs_cons (x_tup (xs_cons xc_str (xs_cons (x_isO (ed_var rfl d0) (T.get i hi) (T.kit i 3 hi (by decide))) es_nil))) es_nil)))) fun wv G1 H1 n1 dn => ?_
  have hs := n1.b; have N := N.trans n1
  have d0 := d0.up n1.a
  have d1 := dn
  refine qd_asg hs (x_catb (ed_var rfl d1) (x_lst (xs_cons (x_tup (xs_cons xc_str (xs_cons (x_isO (ed_var rfl d0) (T.get i hi) (T.kit i 4 hi (by decide))) es_nil))) (xs_cons (x_tup (xs_cons xc_str (xs_cons (x_isO (ed_var rfl d0) (T.get i hi) (T.kit i 5 hi (by decide))) es_nil))) es_nil)))) fun wv G1 H1 n1 dn => ?_
  have hs := n1.b; have N := N.trans n1
  have d0 := d0.up n1.a
  have d1 := dn
  refine qd_asg hs (x_catb (ed_var rfl d1) (x_lst (xs_cons (x_tup (xs_cons xc_str (xs_cons (x_isO (ed_var rfl d0) (T.get i hi) (T.kit i 6 hi (by decide))) es_nil))) (xs_cons (x_tup (xs_cons xc_str (xs_cons (x_isO (ed_var rfl d0) (T.get i hi) (T.kit i 7 hi (by decide))) es_nil))) es_nil)))) fun wv G1 H1 n1 dn => ?_
  have hs := n1.b; have N := N.trans n1
  have d0 := d0.up n1.a
  have d1 := dn
  refine qd_asg hs (x_catb (ed_var rfl d1) (x_lst (xs_cons (x_tup (xs_cons xc_str (xs_cons (x_isO (ed_var rfl d0) (T.get i hi) (T.kit i 8 hi (by decide))) es_nil))) (xs_cons (x_tup (xs_cons xc_str (xs_cons (x_isO (ed_var rfl d0) (T.get i hi) (T.kit i 9 hi (by decide))) es_nil))) es_nil)))) fun wv G1 H1 n1 dn => ?_
  have hs := n1.b; have N := N.trans n1
  have d0 := d0.up n1.a
  have d1 := dn
  refine qd_asg hs (x_catb (ed_var rfl d1) (x_lst (xs_cons (x_tup (xs_cons xc_str (xs_cons (x_isO (ed_var rfl d0) (T.get i hi) (T.kit i 10 hi (by decide))) es_nil))) (xs_cons (x_tup (xs_cons xc_str (xs_cons (x_isO (ed_var rfl d0) (T.get i hi) (T.kit i 11 hi (by decide))) es_nil))) es_nil)))) fun wv G1 H1 n1 dn => ?_
  have hs := n1.b; have N := N.trans n1
  have d0 := d0.up n1.a
  have d1 := dn
  refine qd_asg hs (x_catb (ed_var rfl d1) (x_lst (xs_cons (x_tup (xs_cons xc_str (xs_cons (x_isO (ed_var rfl d0) (T.get i hi) (T.kit i 12 hi (by decide))) es_nil))) (xs_cons (x_tup (xs_cons xc_str (xs_cons (x_isO (ed_var rfl d0) (T.get i hi) (T.kit i 13 hi (by decide))) es_nil))) es_nil)))) fun wv G1 H1 n1 dn => ?_
  have hs := n1.b; have N := N.trans n1
  have d0 := d0.up n1.a
  have d1 := dn
  refine qd_asg hs (x_catb (ed_var rfl d1) (x_lst (xs_cons (x_tup (xs_cons xc_str (xs_cons (x_isO (ed_var rfl d0) (T.get i hi) (T.kit i 14 hi (by decide))) es_nil))) (xs_cons (x_tup (xs_cons xc_str (xs_cons (x_isO (ed_var rfl d0) (T.get i hi) (T.kit i 15 hi (by decide))) es_nil))) es_nil)))) fun wv G1 H1 n1 dn => ?_
  have hs := n1.b; have N := N.trans n1
  have d0 := d0.up n1.a
  have d1 := dn
  refine qd_asg hs (x_catb (ed_var rfl d1) (x_lst (xs_cons (x_tup (xs_cons xc_str (xs_cons (x_isO (ed_var rfl d0) (T.get i hi) (T.kit i 16 hi (by decide))) es_nil))) (xs_cons (x_tup (xs_cons xc_str (xs_cons (x_isO (ed_var rfl d0) (T.get i hi) (T.kit i 17 hi (by decide))) es_nil))) es_nil)))) fun wv G1 H1 n1 dn => ?_
  have hs := n1.b; have N := N.trans n1
  have d0 := d0.up n1.a
  have d1 := dn
  refine qd_asg hs (x_catb (ed_var rfl d1) (x_lst (xs_cons (x_tup (xs_cons xc_str (xs_cons (x_isO (ed_var rfl d0) (T.get i hi) (T.kit i 18 hi (by decide))) es_nil))) (xs_cons (x_tup (xs_cons xc_str (xs_cons (x_isO (ed_var rfl d0) (T.get i hi) (T.kit i 19 hi (by decide))) es_nil))) es_nil)))) fun wv G1 H1 n1 dn => ?_
  have hs := n1.b; have N := N.trans n1
  have d0 := d0.up n1.a
  have d1 := dn
  refine qd_asg hs (x_catb (ed_var rfl d1) (x_lst (xs_cons (x_tup (xs_cons xc_str (xs_cons (x_isO (ed_var rfl d0) (T.get i hi) (T.kit i 20 hi (by decide))) es_nil))) (xs_cons (x_tup (xs_cons xc_str (xs_cons (x_isO (ed_var rfl d0) (T.get i hi) (T.kit i 21 hi (by decide))) es_nil))) es_nil)))) fun wv G1 H1 n1 dn => ?_
  have hs := n1.b; have N := N.trans n1
  have d0 := d0.up n1.a
  have d1 := dn
  refine qd_asg hs (x_catb (ed_var rfl d1) (x_lst (xs_cons (x_tup (xs_cons xc_str (xs_cons (x_isO (ed_var rfl d0) (T.get i hi) (T.kit i 22 hi (by decide))) es_nil))) (xs_cons (x_tup (xs_cons xc_str (xs_cons (x_isO (ed_var rfl d0) (T.get i hi) (T.kit i 23 hi (by decide))) es_nil))) es_nil)))) fun wv G1 H1 n1 dn => ?_
  have hs := n1.b; have N := N.trans n1
  have d0 := d0.up n1.a
  have d1 := dn
  exact ret_d k N (x_catb (ed_var rfl d1) (x_lst (xs_cons (x_tup (xs_cons xc_str (xs_cons (x_isO (ed_var rfl d0) (T.get i hi) (T.kit i 24 hi (by decide))) es_nil))) es_nil))) rfl
theorem sc_law_kinds : FnScope ["_law_error", "_law_sign", "_law_is_so"] ["_law_error"] (defScope s__law_kinds) := ⟨rfl, rfl, rfl, by decide +kernel, rfl, by decide +kernel, by decide +kernel⟩
theorem ok_law_kinds {f : Addr} {fd : FuncData} (F : Fun K "_law_kinds" "_law_kinds" s__law_kinds f fd) (T : TX P w K mg base C I FD) (F_law_signs : CalG P w K mg base 2 "_law_signs" ["_law_error"] (Pr K 1 (Rsig C signsD))) : FnG P w K mg base CX0 3 f fd ["_law_error"] (Pr K 1 (Rsig C kindsD)) := by
  refine okG F sc_law_kinds Pr.len fun cdv A outer s H vs Q E hq hr h => ?_
  obtain ⟨G, ds, d, hs, hl, hd, ⟨i, ns, es, hi, rfl, rfl⟩, k⟩ := h
  obtain ⟨v, rfl, d0⟩ := one_of hd
  refine ⟨_, (pss_one (ps_ret (pe_ifExp (pt_val (pe_isO (K := K) rfl T.n_isinstance (by rfl) (pa_cons (pv 0) (pa_cons (pe_own T.m_PullError rfl) pa_nil)))) (pe_lc (own := [("_law_sign", 1), ("_law_is_so", 2)]) (g := (gTup K 2 (gCons (gName 1) (gCons (gName 2) gNil)))) rfl sc_law_kinds.nd (pi_list (pe_cal F_law_signs (hq.deeper _) (hr.mono (by decide)) rfl (pa_cons (pv 0) pa_nil))) (blkOk_by (N := ["_law_error", "_law_sign", "_law_is_so"]) (sc := defScope s__law_kinds) (by decide +kernel)) (fun _ _ _ _ _ => (pg_tup rfl (pgs_cons (pg_name (i := 1) sc_law_kinds.nd rfl (Or.inl rfl)) (pgs_cons (pg_name (i := 2) sc_law_kinds.nd rfl (Or.inl rfl)) pgs_nil)))) (fun _ _ _ _ _ => (pts_one (pt_val (pv 2)))) (fun _ _ _ _ _ => (pv 1))) pe_non))), ?_⟩
  have N : Nw G H G H := Nw.refl hs
  have e2 : ((signsD i).filter fun d => match d with | .tup [_, .bl b] => b | _ => false).map (fun d => match d with | .tup [s, _] => s | d => d) = kindsD i := by
    unfold signsD kindsD
    rw [List.filter_map, List.map_map]
    rfl
  exact ret_d k N (x_if (et_B (x_isO (ed_var rfl d0) (T.get i hi) (T.kitP i hi))) (fun _ => ed_is (ed_lc (fun d => match d with | .tup [_, .bl b] => b | _ => false) (fun d => match d with | .tup [s, _] => s | d => d) (x_callR (ds := [.exc (C i) ns es]) (xs_cons (ed_var rfl d0) es_nil) rfl ⟨i, ns, es, hi, rfl, rfl⟩) (by unfold signsD; simp) fun x d G' H' s1 s2 hm dx => by
      unfold signsD at hm
      obtain ⟨j, _, rfl⟩ := List.mem_map.mp hm
      cases dx with
      | tup h1 h2 =>
        obtain ⟨a, b, rfl, k1, k2⟩ := two_of h2
        exact ⟨_, go_tup2 (s2 _ _ h1), rfl, et_B (ed_var rfl k2), fun _ G2 s3 => ed_var rfl (k1.up s3)⟩) (by rw [e2])) fun z => nomatch z) rfl
theorem sc_law_inputs : FnScope ["_law_thing", "_law_made", "_law_found", "_law_one", "_law_two", "_law_three", "_law_error", "_law_sign"] ["_law_thing"] (defScope s__law_inputs) := ⟨rfl, rfl, rfl, by decide +kernel, rfl, by decide +kernel, by decide +kernel⟩
theorem ok_law_inputs {f : Addr} {fd : FuncData} (F : Fun K "_law_inputs" "_law_inputs" s__law_inputs f fd) (T : TX P w K mg base C I FD) : FnG P w K mg base CX0 7 f fd ["_law_thing"] (Pr K 1 (Rrow C insD)) := by
  refine okG F sc_law_inputs Pr.len fun cdv A outer s H vs Q E hq hr h => ?_
  obtain ⟨G, ds, d, hs, hl, hd, ⟨x, hx, rfl, rfl⟩, k⟩ := h
  obtain ⟨v, rfl, d0⟩ := one_of hd
  refine ⟨_, (pss_cons (ps_set (i := 1) sc_law_inputs.nd rfl (Or.inl rfl) (pe_lst (pa_cons (pe_tup (pa_cons (pe_oex T.mk_BadRate T.ok_BadRate (hq.deeper _) hr rfl T.m_BadRate T.kp_BadRate pass0 (by decide) (pa_cons (pv 0) pa_nil)) (pa_cons pe_str pa_nil))) (pa_cons (pe_tup (pa_cons (pe_oexK0 T.mk_BadTrip T.ok_BadTrip (hq.deeper _) hr rfl T.m_BadTrip T.kk_BadTrip pass0 (pk_cons (pv 0) pk_nil)) (pa_cons pe_str pa_nil))) (pa_cons (pe_tup (pa_cons (pe_oexK0 T.mk_BadTour T.ok_BadTour (hq.deeper _) hr rfl T.m_BadTour T.kk_BadTour pass0 (pk_cons (pv 0) pk_nil)) (pa_cons pe_str pa_nil))) pa_nil)))))
      (pss_cons (ps_set (i := 1) sc_law_inputs.nd rfl (Or.inl rfl) (pe_op op_cat (pv 1) (pe_lst (pa_cons (pe_tup (pa_cons (pe_oex T.mk_BadStand T.ok_BadStand (hq.deeper _) hr rfl T.m_BadStand T.kp_BadStand pass0 (by decide) (pa_cons (pv 0) pa_nil)) (pa_cons pe_str pa_nil))) (pa_cons (pe_tup (pa_cons (pe_oexK0 T.mk_BadOrder T.ok_BadOrder (hq.deeper _) hr rfl T.m_BadOrder T.kk_BadOrder pass0 (pk_cons (pv 0) pk_nil)) (pa_cons pe_str pa_nil))) (pa_cons (pe_tup (pa_cons (pe_oexK0 T.mk_BadRule T.ok_BadRule (hq.deeper _) hr rfl T.m_BadRule T.kk_BadRule pass0 (pk_cons (pv 0) pk_nil)) (pa_cons pe_str pa_nil))) pa_nil))))))
      (pss_cons (ps_setLc (i := 2) (own := [("_law_error", 6), ("_law_sign", 7)]) (g := (gTup K 2 (gCons (gName 6) (gCons (gName 7) gNil)))) (tt := tYes) rfl sc_law_inputs.nd rfl rfl (sw_true rfl rfl rfl (by decide +kernel)) (pi_list (pv 1)) (blkOk_by (N := ["_law_thing", "_law_made", "_law_found", "_law_one", "_law_two", "_law_three", "_law_error", "_law_sign"]) (sc := defScope s__law_inputs) (by decide +kernel)) (fun _ _ _ _ _ => (pg_tup rfl (pgs_cons (pg_name (i := 6) sc_law_inputs.nd rfl (Or.inl rfl)) (pgs_cons (pg_name (i := 7) sc_law_inputs.nd rfl (Or.inl rfl)) pgs_nil)))) (fun _ _ _ _ _ => pts_nil) (fun _ _ _ _ _ => (pe_tup (pa_cons (pv 6) (pa_cons (pv 7) (pa_cons (pe_oflK (K := K) rfl (pv 6)) pa_nil))))))
      (pss_cons (ps_par3 (i := 3) (j := 4) (l := 5) (by rfl) sc_law_inputs.nd rfl rfl rfl (by decide) (by decide) (by decide) rfl rfl rfl (pa_cons (pe_oexK0 T.mk_BadName T.ok_BadName (hq.deeper _) hr rfl T.m_BadName T.kk_BadName pass0 (pk_cons (pv 0) pk_nil)) (pa_cons (pe_oexK0 T.mk_BadCount T.ok_BadCount (hq.deeper _) hr rfl T.m_BadCount T.kk_BadCount pass0 (pk_cons (pv 0) pk_nil)) (pa_cons (pe_oex T.mk_BadWord T.ok_BadWord (hq.deeper _) hr rfl T.m_BadWord T.kp_BadWord pass0 (by decide) (pa_cons (pv 0) pa_nil)) pa_nil))) (by rfl))
      (pss_cons (ps_set (i := 2) sc_law_inputs.nd rfl (Or.inl rfl) (pe_op op_cat (pv 2) (pe_lst (pa_cons (pe_tup (pa_cons (pv 3) (pa_cons pe_str (pa_cons (pe_oflK (K := K) rfl (pv 3)) pa_nil)))) (pa_cons (pe_tup (pa_cons (pv 4) (pa_cons pe_str (pa_cons (pe_oflK (K := K) rfl (pv 4)) pa_nil)))) (pa_cons (pe_tup (pa_cons (pv 5) (pa_cons pe_str (pa_cons (pe_oflK (K := K) rfl (pv 5)) pa_nil)))) pa_nil))))))
      (pss_cons (ps_par3 (i := 3) (j := 4) (l := 5) (by rfl) sc_law_inputs.nd rfl rfl rfl (by decide) (by decide) (by decide) rfl rfl rfl (pa_cons (pe_oexK0 T.mk_BadLoads T.ok_BadLoads (hq.deeper _) hr rfl T.m_BadLoads T.kk_BadLoads pass0 (pk_cons (pv 0) pk_nil)) (pa_cons (pe_oex T.mk_BadLog T.ok_BadLog (hq.deeper _) hr rfl T.m_BadLog T.kp_BadLog pass0 (by decide) (pa_cons (pv 0) pa_nil)) (pa_cons (pe_oexK0 T.mk_BadLine T.ok_BadLine (hq.deeper _) hr rfl T.m_BadLine T.kk_BadLine pass0 (pk_cons (pv 0) pk_nil)) pa_nil))) (by rfl))
      (pss_one (ps_ret (pe_op op_cat (pv 2) (pe_lst (pa_cons (pe_tup (pa_cons (pv 3) (pa_cons pe_str (pa_cons (pe_oflK (K := K) rfl (pv 3)) pa_nil)))) (pa_cons (pe_tup (pa_cons (pv 4) (pa_cons pe_str (pa_cons (pe_oflK (K := K) rfl (pv 4)) pa_nil)))) (pa_cons (pe_tup (pa_cons (pv 5) (pa_cons pe_str (pa_cons (pe_oflK (K := K) rfl (pv 5)) pa_nil)))) pa_nil))))))))))))), ?_⟩
  have N : Nw G H G H := Nw.refl hs
  refine qd_asg hs (x_lst (xs_cons (x_tup (xs_cons (x_o1 (hx) (ed_var rfl d0)) (xs_cons xc_str es_nil))) (xs_cons (x_tup (xs_cons (x_k1 (hx) (ed_var rfl d0)) (xs_cons xc_str es_nil))) (xs_cons (x_tup (xs_cons (x_k1 (hx) (ed_var rfl d0)) (xs_cons xc_str es_nil))) es_nil)))) fun wv G1 H1 n1 dn => ?_
  have hs := n1.b; have N := N.trans n1
  have d0 := d0.up n1.a
  have d1 := dn
  refine qd_asg hs (x_catb (ed_var rfl d1) (x_lst (xs_cons (x_tup (xs_cons (x_o1 (hx) (ed_var rfl d0)) (xs_cons xc_str es_nil))) (xs_cons (x_tup (xs_cons (x_k1 (hx) (ed_var rfl d0)) (xs_cons xc_str es_nil))) (xs_cons (x_tup (xs_cons (x_k1 (hx) (ed_var rfl d0)) (xs_cons xc_str es_nil))) es_nil))))) fun wv G1 H1 n1 dn => ?_
  have hs := n1.b; have N := N.trans n1
  have d0 := d0.up n1.a
  have d1 := dn
  refine qd_asg hs (ed_lc (fun _ => true) (fun d => match d with | .tup [.exc c n [x], s] => .tup [.exc c n [x], s, x] | d => d) (ed_var rfl d1) (Nat.le_of_ble_eq_true rfl) fun y e G' H' s1 s2 hm dy => by
      simp only [List.cons_append, List.nil_append, List.mem_cons, List.not_mem_nil, or_false] at hm
      rcases hm with he | he | he | he | he | he
      · subst he
        cases dy with
        | tup h1 h2 =>
          obtain ⟨a, b, rfl, k1, k2⟩ := two_of h2
          exact ⟨_, go_tup2 (s2 _ _ h1), rfl, et_yes, fun _ G2 s3 => x_tup (xs_cons (ed_var rfl (k1.up s3)) (xs_cons (ed_var rfl (k2.up s3)) (xs_cons (x_f1 (ed_var rfl (k1.up s3)) (T.get 3 (by decide)) T.no_BadRate_part) es_nil)))⟩
      · subst he
        cases dy with
        | tup h1 h2 =>
          obtain ⟨a, b, rfl, k1, k2⟩ := two_of h2
          exact ⟨_, go_tup2 (s2 _ _ h1), rfl, et_yes, fun _ G2 s3 => x_tup (xs_cons (ed_var rfl (k1.up s3)) (xs_cons (ed_var rfl (k2.up s3)) (xs_cons (x_f1 (ed_var rfl (k1.up s3)) (T.get 5 (by decide)) T.no_BadTrip_part) es_nil)))⟩
      · subst he
        cases dy with
        | tup h1 h2 =>
          obtain ⟨a, b, rfl, k1, k2⟩ := two_of h2
          exact ⟨_, go_tup2 (s2 _ _ h1), rfl, et_yes, fun _ G2 s3 => x_tup (xs_cons (ed_var rfl (k1.up s3)) (xs_cons (ed_var rfl (k2.up s3)) (xs_cons (x_f1 (ed_var rfl (k1.up s3)) (T.get 6 (by decide)) T.no_BadTour_part) es_nil)))⟩
      · subst he
        cases dy with
        | tup h1 h2 =>
          obtain ⟨a, b, rfl, k1, k2⟩ := two_of h2
          exact ⟨_, go_tup2 (s2 _ _ h1), rfl, et_yes, fun _ G2 s3 => x_tup (xs_cons (ed_var rfl (k1.up s3)) (xs_cons (ed_var rfl (k2.up s3)) (xs_cons (x_f1 (ed_var rfl (k1.up s3)) (T.get 7 (by decide)) T.no_BadStand_part) es_nil)))⟩
      · subst he
        cases dy with
        | tup h1 h2 =>
          obtain ⟨a, b, rfl, k1, k2⟩ := two_of h2
          exact ⟨_, go_tup2 (s2 _ _ h1), rfl, et_yes, fun _ G2 s3 => x_tup (xs_cons (ed_var rfl (k1.up s3)) (xs_cons (ed_var rfl (k2.up s3)) (xs_cons (x_f1 (ed_var rfl (k1.up s3)) (T.get 9 (by decide)) T.no_BadOrder_part) es_nil)))⟩
      · subst he
        cases dy with
        | tup h1 h2 =>
          obtain ⟨a, b, rfl, k1, k2⟩ := two_of h2
          exact ⟨_, go_tup2 (s2 _ _ h1), rfl, et_yes, fun _ G2 s3 => x_tup (xs_cons (ed_var rfl (k1.up s3)) (xs_cons (ed_var rfl (k2.up s3)) (xs_cons (x_f1 (ed_var rfl (k1.up s3)) (T.get 12 (by decide)) T.no_BadRule_part) es_nil)))⟩
      ) fun wv G1 H1 n1 dn => ?_
  have hs := n1.b; have N := N.trans n1
  have d0 := d0.up n1.a
  have d1 := d1.up n1.a
  have d2 := dn
  refine qd_par3 hs (xs_cons (x_k1 (hx) (ed_var rfl d0)) (xs_cons (x_k1 (hx) (ed_var rfl d0)) (xs_cons (x_o1 (hx) (ed_var rfl d0)) es_nil))) fun v0 v1 v2 G1 H1 n1 dn0 dn1 dn2 => ?_
  have hs := n1.b; have N := N.trans n1
  have d0 := d0.up n1.a
  have d1 := d1.up n1.a
  have d2 := d2.up n1.a
  have d3 := dn0
  have d4 := dn1
  have d5 := dn2
  refine qd_asg hs (x_catb (ed_var rfl d2) (x_lst (xs_cons (x_tup (xs_cons (ed_var rfl d3) (xs_cons xc_str (xs_cons (x_f1 (ed_var rfl d3) (T.get 4 (by decide)) T.no_BadName_value) es_nil)))) (xs_cons (x_tup (xs_cons (ed_var rfl d4) (xs_cons xc_str (xs_cons (x_f1 (ed_var rfl d4) (T.get 8 (by decide)) T.no_BadCount_value) es_nil)))) (xs_cons (x_tup (xs_cons (ed_var rfl d5) (xs_cons xc_str (xs_cons (x_f1 (ed_var rfl d5) (T.get 11 (by decide)) T.no_BadWord_value) es_nil)))) es_nil))))) fun wv G1 H1 n1 dn => ?_
  have hs := n1.b; have N := N.trans n1
  have d0 := d0.up n1.a
  have d1 := d1.up n1.a
  have d3 := d3.up n1.a
  have d4 := d4.up n1.a
  have d5 := d5.up n1.a
  have d2 := dn
  refine qd_par3 hs (xs_cons (x_k1 (hx) (ed_var rfl d0)) (xs_cons (x_o1 (hx) (ed_var rfl d0)) (xs_cons (x_k1 (hx) (ed_var rfl d0)) es_nil))) fun v0 v1 v2 G1 H1 n1 dn0 dn1 dn2 => ?_
  have hs := n1.b; have N := N.trans n1
  have d0 := d0.up n1.a
  have d1 := d1.up n1.a
  have d2 := d2.up n1.a
  have d3 := dn0
  have d4 := dn1
  have d5 := dn2
  exact ret_d k N (x_catb (ed_var rfl d2) (x_lst (xs_cons (x_tup (xs_cons (ed_var rfl d3) (xs_cons xc_str (xs_cons (x_f1 (ed_var rfl d3) (T.get 10 (by decide)) T.no_BadLoads_at) es_nil)))) (xs_cons (x_tup (xs_cons (ed_var rfl d4) (xs_cons xc_str (xs_cons (x_f1 (ed_var rfl d4) (T.get 13 (by decide)) T.no_BadLog_at) es_nil)))) (xs_cons (x_tup (xs_cons (ed_var rfl d5) (xs_cons xc_str (xs_cons (x_f1 (ed_var rfl d5) (T.get 15 (by decide)) T.no_BadLine_word) es_nil)))) es_nil))))) rfl
theorem sc_law_others : FnScope ["_law_thing", "_law_one", "_law_two", "_law_three", "_law_found"] ["_law_thing"] (defScope s__law_others) := ⟨rfl, rfl, rfl, by decide +kernel, rfl, by decide +kernel, by decide +kernel⟩
theorem ok_law_others {f : Addr} {fd : FuncData} (F : Fun K "_law_others" "_law_others" s__law_others f fd) (T : TX P w K mg base C I FD) : FnG P w K mg base CX0 7 f fd ["_law_thing"] (Pr K 1 (Rrow C othD)) := by
  refine okG F sc_law_others Pr.len fun cdv A outer s H vs Q E hq hr h => ?_
  obtain ⟨G, ds, d, hs, hl, hd, ⟨x, hx, rfl, rfl⟩, k⟩ := h
  obtain ⟨v, rfl, d0⟩ := one_of hd
  refine ⟨_, (pss_cons (ps_par3 (i := 1) (j := 2) (l := 3) (by rfl) sc_law_others.nd rfl rfl rfl (by decide) (by decide) (by decide) rfl rfl rfl (pa_cons (pe_oexK0 T.mk_NoYard T.ok_NoYard (hq.deeper _) hr rfl T.m_NoYard T.kk_NoYard pass0 (pk_cons (pv 0) pk_nil)) (pa_cons (pe_oex T.mk_Unbalanced T.ok_Unbalanced (hq.deeper _) hr rfl T.m_Unbalanced T.kp_Unbalanced pass0 (by decide) (pa_cons (pv 0) pa_nil)) (pa_cons (pe_oexK0 T.mk_NoTrailer T.ok_NoTrailer (hq.deeper _) hr rfl T.m_NoTrailer T.kk_NoTrailer pass0 (pk_cons (pv 0) pk_nil)) pa_nil))) (by rfl))
      (pss_cons (ps_set (i := 4) sc_law_others.nd rfl (Or.inl rfl) (pe_lst (pa_cons (pe_tup (pa_cons (pv 1) (pa_cons pe_str (pa_cons (pe_oflK (K := K) rfl (pv 1)) pa_nil)))) (pa_cons (pe_tup (pa_cons (pv 2) (pa_cons pe_str (pa_cons (pe_oflK (K := K) rfl (pv 2)) pa_nil)))) (pa_cons (pe_tup (pa_cons (pv 3) (pa_cons pe_str (pa_cons (pe_oflK (K := K) rfl (pv 3)) pa_nil)))) pa_nil)))))
      (pss_cons (ps_par3 (i := 1) (j := 2) (l := 3) (by rfl) sc_law_others.nd rfl rfl rfl (by decide) (by decide) (by decide) rfl rfl rfl (pa_cons (pe_oexK0 T.mk_LeftStanding T.ok_LeftStanding (hq.deeper _) hr rfl T.m_LeftStanding T.kk_LeftStanding pass0 (pk_cons (pv 0) pk_nil)) (pa_cons (pe_oexK0 T.mk_Unsafe T.ok_Unsafe (hq.deeper _) hr rfl T.m_Unsafe T.kk_Unsafe pass0 (pk_cons (pv 0) pk_nil)) (pa_cons (pe_oex T.mk_Strands T.ok_Strands (hq.deeper _) hr rfl T.m_Strands T.kp_Strands pass0 (by decide) (pa_cons (pv 0) pa_nil)) pa_nil))) (by rfl))
      (pss_one (ps_ret (pe_op op_cat (pv 4) (pe_lst (pa_cons (pe_tup (pa_cons (pv 1) (pa_cons pe_str (pa_cons (pe_oflK (K := K) rfl (pv 1)) pa_nil)))) (pa_cons (pe_tup (pa_cons (pv 2) (pa_cons pe_str (pa_cons (pe_oflK (K := K) rfl (pv 2)) pa_nil)))) (pa_cons (pe_tup (pa_cons (pv 3) (pa_cons pe_str (pa_cons (pe_oflK (K := K) rfl (pv 3)) pa_nil)))) pa_nil)))))))))), ?_⟩
  have N : Nw G H G H := Nw.refl hs
  refine qd_par3 hs (xs_cons (x_k1 (hx) (ed_var rfl d0)) (xs_cons (x_o1 (hx) (ed_var rfl d0)) (xs_cons (x_k1 (hx) (ed_var rfl d0)) es_nil))) fun v0 v1 v2 G1 H1 n1 dn0 dn1 dn2 => ?_
  have hs := n1.b; have N := N.trans n1
  have d0 := d0.up n1.a
  have d1 := dn0
  have d2 := dn1
  have d3 := dn2
  refine qd_asg hs (x_lst (xs_cons (x_tup (xs_cons (ed_var rfl d1) (xs_cons xc_str (xs_cons (x_f1 (ed_var rfl d1) (T.get 16 (by decide)) T.no_NoYard_yard) es_nil)))) (xs_cons (x_tup (xs_cons (ed_var rfl d2) (xs_cons xc_str (xs_cons (x_f1 (ed_var rfl d2) (T.get 17 (by decide)) T.no_Unbalanced_yard) es_nil)))) (xs_cons (x_tup (xs_cons (ed_var rfl d3) (xs_cons xc_str (xs_cons (x_f1 (ed_var rfl d3) (T.get 18 (by decide)) T.no_NoTrailer_yard) es_nil)))) es_nil)))) fun wv G1 H1 n1 dn => ?_
  have hs := n1.b; have N := N.trans n1
  have d0 := d0.up n1.a
  have d1 := d1.up n1.a
  have d2 := d2.up n1.a
  have d3 := d3.up n1.a
  have d4 := dn
  refine qd_par3 hs (xs_cons (x_k1 (hx) (ed_var rfl d0)) (xs_cons (x_k1 (hx) (ed_var rfl d0)) (xs_cons (x_o1 (hx) (ed_var rfl d0)) es_nil))) fun v0 v1 v2 G1 H1 n1 dn0 dn1 dn2 => ?_
  have hs := n1.b; have N := N.trans n1
  have d0 := d0.up n1.a
  have d4 := d4.up n1.a
  have d1 := dn0
  have d2 := dn1
  have d3 := dn2
  exact ret_d k N (x_catb (ed_var rfl d4) (x_lst (xs_cons (x_tup (xs_cons (ed_var rfl d1) (xs_cons xc_str (xs_cons (x_f1 (ed_var rfl d1) (T.get 19 (by decide)) T.no_LeftStanding_index) es_nil)))) (xs_cons (x_tup (xs_cons (ed_var rfl d2) (xs_cons xc_str (xs_cons (x_f1 (ed_var rfl d2) (T.get 20 (by decide)) T.no_Unsafe_loads) es_nil)))) (xs_cons (x_tup (xs_cons (ed_var rfl d3) (xs_cons xc_str (xs_cons (x_f1 (ed_var rfl d3) (T.get 21 (by decide)) T.no_Strands_loads) es_nil)))) es_nil))))) rfl
theorem sc_law_named_right : FnScope ["_law_thing", "_law_told", "_law_one"] ["_law_thing"] (defScope s__law_named_right) := ⟨rfl, rfl, rfl, by decide +kernel, rfl, by decide +kernel, by decide +kernel⟩
theorem ok_law_named_right {f : Addr} {fd : FuncData} (F : Fun K "_law_named_right" "_law_named_right" s__law_named_right f fd) (T : TX P w K mg base C I FD) : FnG P w K mg base CX0 7 f fd ["_law_thing"] (Pr K 1 (Rth 1)) := by
  refine okG F sc_law_named_right Pr.len fun cdv A outer s H vs Q E hq hr h => ?_
  obtain ⟨G, ds, d, hs, hl, hd, ⟨_, hth, rfl⟩, k⟩ := h
  obtain ⟨x, rfl⟩ : ∃ x, ds = [x] := by match ds, hl with | [x], _ => exact ⟨x, rfl⟩
  have tx := hth x (List.mem_singleton.mpr rfl)
  have hx := tx.1
  obtain ⟨v, rfl, d0⟩ := one_of hd
  refine ⟨_, (pss_cons (ps_set (i := 1) sc_law_named_right.nd rfl (Or.inl rfl) (pe_lst (pa_cons (pe_oflK (K := K) rfl (pe_oexK0 T.mk_BadRate T.ok_BadRate (hq.deeper _) hr rfl T.m_BadRate T.kk_BadRate pass0 (pk_cons (pv 0) pk_nil))) (pa_cons (pe_oflK (K := K) rfl (pe_oexK0 T.mk_BadStand T.ok_BadStand (hq.deeper _) hr rfl T.m_BadStand T.kk_BadStand pass0 (pk_cons (pv 0) pk_nil))) (pa_cons (pe_oflK (K := K) rfl (pe_oexK0 T.mk_BadWord T.ok_BadWord (hq.deeper _) hr rfl T.m_BadWord T.kk_BadWord pass0 (pk_cons (pv 0) pk_nil))) (pa_cons (pe_oflK (K := K) rfl (pe_oexK0 T.mk_BadLog T.ok_BadLog (hq.deeper _) hr rfl T.m_BadLog T.kk_BadLog pass0 (pk_cons (pv 0) pk_nil))) pa_nil))))))
      (pss_cons (ps_set (i := 1) sc_law_named_right.nd rfl (Or.inl rfl) (pe_op op_cat (pv 1) (pe_lst (pa_cons (pe_oflK (K := K) rfl (pe_oex T.mk_NoYard T.ok_NoYard (hq.deeper _) hr rfl T.m_NoYard T.kp_NoYard pass0 (by decide) (pa_cons (pv 0) pa_nil))) (pa_cons (pe_oflK (K := K) rfl (pe_oexK0 T.mk_Unbalanced T.ok_Unbalanced (hq.deeper _) hr rfl T.m_Unbalanced T.kk_Unbalanced pass0 (pk_cons (pv 0) pk_nil))) (pa_cons (pe_oflK (K := K) rfl (pe_oexK0 T.mk_Strands T.ok_Strands (hq.deeper _) hr rfl T.m_Strands T.kk_Strands pass0 (pk_cons (pv 0) pk_nil))) (pa_cons (pe_oflK (K := K) rfl (pe_oex T.mk_BadTrip T.ok_BadTrip (hq.deeper _) hr rfl T.m_BadTrip T.kp_BadTrip pass0 (by decide) (pa_cons (pv 0) pa_nil))) pa_nil)))))))
      (pss_cons (ps_set (i := 1) sc_law_named_right.nd rfl (Or.inl rfl) (pe_op op_cat (pv 1) (pe_lst (pa_cons (pe_oflK (K := K) rfl (pe_oex T.mk_BadName T.ok_BadName (hq.deeper _) hr rfl T.m_BadName T.kp_BadName pass0 (by decide) (pa_cons (pv 0) pa_nil))) (pa_cons (pe_oflK (K := K) rfl (pe_oex T.mk_BadLine T.ok_BadLine (hq.deeper _) hr rfl T.m_BadLine T.kp_BadLine pass0 (by decide) (pa_cons (pv 0) pa_nil))) (pa_cons (pe_oflK (K := K) rfl (pe_oex T.mk_LeftStanding T.ok_LeftStanding (hq.deeper _) hr rfl T.m_LeftStanding T.kp_LeftStanding pass0 (by decide) (pa_cons (pv 0) pa_nil))) (pa_cons (pe_oflK (K := K) rfl (pe_oex T.mk_Unsafe T.ok_Unsafe (hq.deeper _) hr rfl T.m_Unsafe T.kp_Unsafe pass0 (by decide) (pa_cons (pv 0) pa_nil))) pa_nil)))))))
      (pss_one (ps_ret (pe_eqD (K := K) rfl hr.units (pe_lc (own := [("_law_one", 2)]) (g := (gName 2)) rfl sc_law_named_right.nd (pi_list (pv 1)) (blkOk_by (N := ["_law_thing", "_law_told", "_law_one"]) (sc := defScope s__law_named_right) (by decide +kernel)) (fun _ _ _ _ _ => (pg_name (i := 2) sc_law_named_right.nd rfl (Or.inl rfl))) (fun _ _ _ _ _ => (pts_one (pt_cmpR op_ne (pe_repr (K := K) rfl T.sys (hq.deeper _) hr.units T.n_repr (by rfl) (pv 2)) (pe_repr (K := K) rfl T.sys (hq.deeper _) hr.units T.n_repr (by rfl) (pv 0)) (nomark _)))) (fun _ _ _ _ _ => (pv 2))) (pe_lst pa_nil))))))), ?_⟩
  have N : Nw G H G H := Nw.refl hs
  refine qd_asg hs (x_lst (xs_cons (x_f1 (x_k1 (hx) (ed_var rfl d0)) (T.get 3 (by decide)) T.no_BadRate_part) (xs_cons (x_f1 (x_k1 (hx) (ed_var rfl d0)) (T.get 7 (by decide)) T.no_BadStand_part) (xs_cons (x_f1 (x_k1 (hx) (ed_var rfl d0)) (T.get 11 (by decide)) T.no_BadWord_value) (xs_cons (x_f1 (x_k1 (hx) (ed_var rfl d0)) (T.get 13 (by decide)) T.no_BadLog_at) es_nil))))) fun wv G1 H1 n1 dn => ?_
  have hs := n1.b; have N := N.trans n1
  have d0 := d0.up n1.a
  have d1 := dn
  refine qd_asg hs (x_catb (ed_var rfl d1) (x_lst (xs_cons (x_f1 (x_o1 (hx) (ed_var rfl d0)) (T.get 16 (by decide)) T.no_NoYard_yard) (xs_cons (x_f1 (x_k1 (hx) (ed_var rfl d0)) (T.get 17 (by decide)) T.no_Unbalanced_yard) (xs_cons (x_f1 (x_k1 (hx) (ed_var rfl d0)) (T.get 21 (by decide)) T.no_Strands_loads) (xs_cons (x_f1 (x_o1 (hx) (ed_var rfl d0)) (T.get 5 (by decide)) T.no_BadTrip_part) es_nil)))))) fun wv G1 H1 n1 dn => ?_
  have hs := n1.b; have N := N.trans n1
  have d0 := d0.up n1.a
  have d1 := dn
  refine qd_asg hs (x_catb (ed_var rfl d1) (x_lst (xs_cons (x_f1 (x_o1 (hx) (ed_var rfl d0)) (T.get 4 (by decide)) T.no_BadName_value) (xs_cons (x_f1 (x_o1 (hx) (ed_var rfl d0)) (T.get 15 (by decide)) T.no_BadLine_word) (xs_cons (x_f1 (x_o1 (hx) (ed_var rfl d0)) (T.get 19 (by decide)) T.no_LeftStanding_index) (xs_cons (x_f1 (x_o1 (hx) (ed_var rfl d0)) (T.get 20 (by decide)) T.no_Unsafe_loads) es_nil)))))) fun wv G1 H1 n1 dn => ?_
  have hs := n1.b; have N := N.trans n1
  have d0 := d0.up n1.a
  have d1 := dn
  exact ret_d k N (x_eq (d1 := .lst []) (d2 := .lst []) (p := .list []) (q := .list []) (ed_is (ed_lc (fun _ => false) id (ed_var rfl d1) (Nat.le_of_ble_eq_true rfl) fun y e G' H' s1 s2 hm dy => by
      have he : e = x := by simpa using hm
      subst he
      obtain ⟨z, hz, r1⟩ := x_repr (K := K) (σ := [some v, some wv, some y]) (te := tVar 2) (ed_var rfl dy) tx
      obtain ⟨z', hz', r2⟩ := x_repr (K := K) (σ := [some v, some wv, some y]) (te := tVar 0) (ed_var rfl (d0.up s1)) tx
      rw [hz] at hz'
      cases hz'
      exact ⟨_, go_name, rfl, et_of (x_nes r1 r2 (by simp)), fun z => nomatch z⟩) (by simp)) (x_lst es_nil) rfl rfl rfl rfl rfl rfl rfl) rfl
end
end K01

set_option Elab.async false
set_option linter.all false
set_option maxRecDepth 100000
set_option maxHeartbeats 2000000
namespace GL
open PySem PySem.Spec PyProof.Rows L2
/-! the pen of a law: a list of the cells (a list of ints at c), the number of the next cell, what is left of a great one -/
structure PenAt (H : Hp) (P c : Addr) (ns : List Int) (k g : Int) : Prop where
  hp : H P = some (.lst [.ref c, .int k, .int g])
  hc : H c = some (.lst (ns.map V.int))
  ne : c ≠ P
  k0 : 0 ≤ k
  g0 : 0 ≤ g
/-- all stays but what stands at P -/
def But (P : Addr) (H H' : Hp) : Prop := ∀ b o, b ≠ P → H b = some o → H' b = some o
theorem But.refl (P : Addr) (H : Hp) : But P H H := fun _ _ _ e => e
theorem But.trans {P : Addr} {H H1 H2 : Hp} (x : But P H H1) (y : But P H1 H2) : But P H H2 := fun b o n e => y b o n (x b o n e)
theorem Same.but {P : Addr} {H H' : Hp} (x : Same H H') : But P H H' := fun b o _ e => x b o e
theorem But.same {P : Addr} {G H H' : Hp} (x : But P H H') (s : Same G H) (g : G P = none) : Same G H' := fun b o e => x b o (ne_of_none e g) (s b o e)
theorem But.upd {P : Addr} {H : Hp} {o : HO} : But P H (upd H P o) := fun b u n e => by rw [upd_ne n]; exact e
theorem PenAt.same {H H' : Hp} {P c : Addr} {ns : List Int} {k g : Int} (h : PenAt H P c ns k g) (s : Same H H') : PenAt H' P c ns k g := ⟨s _ _ h.hp, s _ _ h.hc, h.ne, h.k0, h.g0⟩
theorem PenAt.put {H : Hp} {P c : Addr} {ns : List Int} {k g k' g' : Int} (h : PenAt H P c ns k g) (h1 : 0 ≤ k') (h2 : 0 ≤ g') : PenAt (L2.upd H P (.lst [.ref c, .int k', .int g'])) P c ns k' g' :=
  ⟨upd_same, by rw [upd_ne h.ne]; exact h.hc, h.ne, h1, h2⟩
structure NwP (P : Addr) (G H G' H' : Hp) : Prop where
  s : But P H H'
  a : Same G G'
  b : Same G' H'
  n : ∀ p o, H p = some o → G p = none → G' p = none
theorem Nw.p {P : Addr} {G H G' H' : Hp} (x : Nw G H G' H') : NwP P G H G' H' := ⟨Same.but x.s, x.a, x.b, x.n⟩
theorem NwP.trans {P : Addr} {G H G' H' G2 H2 : Hp} (x : NwP P G H G' H') (y : NwP P G' H' G2 H2) (hp : ∀ o, H P = some o → ∃ u, H' P = some u) : NwP P G H G2 H2 :=
  ⟨x.s.trans y.s, x.a.trans y.a, x.b |> fun _ => y.b, fun p o e z => by
    by_cases q : p = P
    · subst q
      obtain ⟨u, hu⟩ := hp o e
      exact y.n _ u hu (x.n _ o e z)
    · exact y.n p o (x.s p o q e) (x.n p o e z)⟩
/-! ints, nothing in the heap changes -/
section
variable {K : PySem.W.Frag} {σ : L2.St} {H : Hp} {ta tb : TE} {i j : Int} {b : Bool}
theorem vi_add (ha : Val ta σ H (.int i)) (hb : Val tb σ H (.int j)) : Val (tOp (rI0 fun i j => .int (i + j)) ta tb) σ H (.int (i + j)) := val_op ha hb fun Q q => ⟨i, j, rfl, rfl, q⟩
theorem vi_sub (ha : Val ta σ H (.int i)) (hb : Val tb σ H (.int j)) : Val (tOp (rI0 fun i j => .int (i - j)) ta tb) σ H (.int (i - j)) := val_op ha hb fun Q q => ⟨i, j, rfl, rfl, q⟩
theorem vi_mul (hc : CMul i j) (ha : Val ta σ H (.int i)) (hb : Val tb σ H (.int j)) : Val (tOp (rI CMul fun i j => .int (i * j)) ta tb) σ H (.int (i * j)) := val_op ha hb fun Q q => ⟨i, j, rfl, rfl, hc, q⟩
theorem vi_mod (hc : 0 < j) (ha : Val ta σ H (.int i)) (hb : Val tb σ H (.int j)) : Val (tOp (rI (fun _ j => 0 < j) fun i j => .int (i % j)) ta tb) σ H (.int (i % j)) := val_op ha hb fun Q q => ⟨i, j, rfl, rfl, hc, q⟩
theorem vi_fdivN (hc : CDivN i j) (ha : Val ta σ H (.int i)) (hb : Val tb σ H (.int j)) : Val (tOp (rI CDivN fun i j => .int (i.fdiv j)) ta tb) σ H (.int (i.fdiv j)) := val_op ha hb fun Q q => ⟨i, j, rfl, rfl, hc, q⟩
theorem vi_pow (hc : CPow i j) (ha : Val ta σ H (.int i)) (hb : Val tb σ H (.int j)) : Val (tOp (rI CPow fun i j => .int (i ^ j.toNat)) ta tb) σ H (.int (i ^ j.toNat)) := val_op ha hb fun Q q => ⟨i, j, rfl, rfl, hc, q⟩
def rInt1 : List V → Hp → VK → Prop := fun xs H Q => (∃ i, xs = [.int i] ∧ Q (.int i) H) ∨ ∃ k, xs = [.bl k] ∧ Q (.int (if k then 1 else 0)) H
theorem vi_int (ha : Val ta σ H (.int i)) : Val (tCB rInt1 (tCons ta tNil)) σ H (.int i) := fun Q q => ha _ (.inl ⟨i, rfl, q⟩)
theorem vi_intb (ha : Val ta σ H (.bl b)) : Val (tCB rInt1 (tCons ta tNil)) σ H (.int (if b then 1 else 0)) := fun Q q => ha _ (.inr ⟨b, rfl, q⟩)
def rAbs1 : List V → Hp → VK → Prop := fun xs H Q => ∃ i, xs = [.int i] ∧ Q (.int (if i < 0 then -i else i)) H
theorem vi_abs (ha : Val ta σ H (.int i)) : Val (tCB rAbs1 (tCons ta tNil)) σ H (.int (if i < 0 then -i else i)) := fun Q q => ha _ ⟨i, rfl, q⟩
def rLen1 (K : PySem.W.Frag) : List V → Hp → VK → Prop := fun xs H Q => ∃ p ys, xs = [.ref p] ∧ (SqL K H p ys ∨ SqT K H p ys) ∧ Q (.int ys.length) H
theorem vi_len {p : Addr} {ys : List V} (ha : Val ta σ H (.ref p)) (h : H p = some (.lst ys)) : Val (tCB (rLen1 K) (tCons ta tNil)) σ H (.int ys.length) := fun Q q => ha _ ⟨p, ys, rfl, .inl (SqL.of h), q⟩
theorem vi_ix {p : Addr} {ys : List V} {n : Nat} {v : V} (ha : Val ta σ H (.ref p)) (hb : Val tb σ H (.int (n : Int))) (h : H p = some (.lst ys)) (hv : ys[n]? = some v) : Val (tOp (rIxL K) ta tb) σ H v :=
  val_op ha hb fun Q q => ⟨p, ys, n, v, rfl, rfl, SqL.of h, atI_nat hv, q⟩
theorem an_gt (ha : Val ta σ H (.int i)) (hb : Val tb σ H (.int j)) : Ans (tTest (tOp (rI0 fun i j => .bl (decide (j < i))) ta tb)) σ H (decide (j < i)) := ans_cmp ha hb fun Q q => ⟨i, j, rfl, rfl, q⟩
theorem an_ge (ha : Val ta σ H (.int i)) (hb : Val tb σ H (.int j)) : Ans (tTest (tOp (rI0 fun i j => .bl (decide (j ≤ i))) ta tb)) σ H (decide (j ≤ i)) := ans_cmp ha hb fun Q q => ⟨i, j, rfl, rfl, q⟩
theorem an_lt (ha : Val ta σ H (.int i)) (hb : Val tb σ H (.int j)) : Ans (tTest (tOp (rI0 fun i j => .bl (decide (i < j))) ta tb)) σ H (decide (i < j)) := ans_cmp ha hb fun Q q => ⟨i, j, rfl, rfl, q⟩
theorem vb_lt (ha : Val ta σ H (.int i)) (hb : Val tb σ H (.int j)) : Val (tOp (rI0 fun i j => .bl (decide (i < j))) ta tb) σ H (.bl (decide (i < j))) := val_op ha hb fun Q q => ⟨i, j, rfl, rfl, q⟩
/-- pen[n] = an int -/
theorem st_pen {to ti te : TE} {D : Ends} {P : Addr} {xs : List V} {n : Nat} {v : V} (he : Val te σ H v) (ho : Val to σ H (.ref P)) (hi : Val ti σ H (.int (n : Int))) (h : H P = some (.lst xs)) (hn : n < xs.length) (q : D.nx σ (upd H P (.lst (xs.set n v)))) :
    tAsg te (gSub to ti rSetL) D σ H := he _ (ho _ (hi _ ⟨P, xs, n, n, rfl, rfl, h, Evl.ixN_nat hn, q⟩))
end
theorem dp_ints {K : PySem.W.Frag} {H : Hp} : ∀ ns : List Int, DpAll K H (ns.map V.int) (ns.map PyData.int)
  | [] => .nil
  | n :: ns => .cons (.int n) (dp_ints ns)
theorem fdiv_nn {a m : Int} (ha : 0 ≤ a) (hm : 0 < m) : 0 ≤ a.fdiv m := by
  rw [Int.fdiv_eq_ediv_of_nonneg a (by omega)]
  exact Int.ediv_nonneg ha (by omega)
theorem pow_b1 {x k a b p : Int} (hp : 0 < p ∧ p ≤ 2147483648) (hk : 0 ≤ k ∧ k ≤ 10000) (ha : 0 ≤ a ∧ a ≤ 1000000) (hb : 0 ≤ b ∧ b ≤ 1000000) : (x % p + a * k + b).natAbs < 2 ^ 64 := by
  have h1 := Int.emod_nonneg x (show p ≠ 0 by omega)
  have h2 := Int.emod_lt_of_pos x hp.1
  have h3 : 0 ≤ a * k := Int.mul_nonneg ha.1 hk.1
  have h4 : a * k ≤ 1000000 * 10000 := Int.mul_le_mul ha.2 hk.2 hk.1 (by decide)
  omega
theorem pow_b2 {x k a b c : Int} (hx : 0 ≤ x ∧ x ≤ 2147483648) (hk : 0 ≤ k ∧ k ≤ 10000) (ha : 0 ≤ a ∧ a ≤ 1000000) (hb : 0 ≤ b ∧ b ≤ 1000000) (hc : 0 ≤ c ∧ c ≤ 1000000) : (x * (2 * k + a) + b * k * k + c).natAbs < 2 ^ 64 := by
  have h1 : 0 ≤ x * (2 * k + a) := Int.mul_nonneg hx.1 (by omega)
  have h2 : x * (2 * k + a) ≤ 2147483648 * 1020000 := Int.mul_le_mul hx.2 (by omega) (by omega) (by decide)
  have h3 : 0 ≤ b * k := Int.mul_nonneg hb.1 hk.1
  have h4 : b * k ≤ 1000000 * 10000 := Int.mul_le_mul hb.2 hk.2 hk.1 (by decide)
  have h5 : 0 ≤ b * k * k := Int.mul_nonneg h3 hk.1
  have h6 : b * k * k ≤ 10000000000 * 10000 := Int.mul_le_mul h4 hk.2 hk.1 (by decide)
  omega
/-! the promises -/
def spPen (K : PySem.W.Frag) : Sp := fun vs H Q _ => ∃ (a : Addr) (ns : List Int), vs = [.ref a] ∧ SqL K H a (ns.map V.int) ∧ ns.length ≤ 63 ∧ ∀ P c H', Same H H' → H P = none → H c = none → PenAt H' P c ns 0 0 → Q (.ref P) H'
def spDraw (most : Int) : Sp := fun vs H Q _ => ∃ (P c : Addr) (ns : List Int) (k g m : Int), vs = [.ref P, .int m] ∧ PenAt H P c ns k g ∧ ns.length ≤ 63 ∧ k ≤ 9999 ∧ 0 < m ∧ m < most ∧
  ∀ r H' k' g', 0 ≤ r → r < m → But P H H' → PenAt H' P c ns k' g' → k' ≤ k + 1 → Q (.int r) H'
def spPick (K : PySem.W.Frag) : Sp := fun vs H Q _ => ∃ (P c : Addr) (ns : List Int) (k g : Int) (w : V) (G : Hp) (ds : List Da), vs = [.ref P, w] ∧ PenAt H P c ns k g ∧ ns.length ≤ 63 ∧ k ≤ 9999 ∧ Same G H ∧ G P = none ∧ DR K G w (.lst ds) ∧ ds ≠ [] ∧ ds.length ≤ 1000 ∧
  ∀ v d H' k' g', d ∈ ds → But P H H' → PenAt H' P c ns k' g' → k' ≤ k + 1 → DR K G v d → Q v H'
/-! rules with the written part named -/
section
variable {X : Cx} {K : PySem.W.Frag} {p pos : Pos} {e : Expr} {te : TE}
theorem pe_lenK (hK : X.K = K) (hm : X.mg "len" = none) (hg : Gl X "len") (ha : PE X e te) (hst : starEach [e] X.env = (false, eval e X.env) :: starEach [] X.env := by rfl) (hpl : (backTo pos (starEach [] X.env)).any (·.1) = false := by rfl) :
    PE X (.Call (.Name "len" p) [e] [] pos) (tCB (rLen1 K) (tCons te tNil)) := by
  subst hK
  exact pe_callB call_len_seq hg hm PySem.boot_len (pa_cons ha pa_nil hst) (by decide) (by decide) hst hpl
theorem ix_listK (hK : X.K = K) : IxR X (rIxL K) := by subst hK; exact ix_list
end
theorem shaped_ints (ns : List Int) : SeqAt.shaped (.list (ns.map PyData.int)) = true := by
  have h1 : ∀ ns : List Int, PyData.canLayAll0 (ns.map PyData.int) = true := fun ns => by
    induction ns with
    | nil => simp [PyData.canLayAll0]
    | cons n ns ih => simp [PyData.canLayAll0, PyData.canLay0, ih]
  have h2 : ∀ ns : List Int, PyData.depthAll (ns.map PyData.int) ≤ 1 := fun ns => by
    induction ns with
    | nil => simp [PyData.depthAll]
    | cons n ns ih => simp [PyData.depthAll, PyData.depth]; omega
  unfold SeqAt.shaped
  have := h2 ns
  rw [Bool.and_eq_true, decide_eq_true_eq]
  refine ⟨by simp only [PyData.canLay0]; exact h1 ns, ?_⟩
  show PyData.depth _ ≤ 64
  simp only [PyData.depth]
  omega
/-- if pen[0] != []: cell = pen[0][int(spot) % len(pen[0])] -/
theorem pen_if {K : PySem.W.Frag} {P c : Addr} {ns : List Int} {k k1 g z0 : Int} {m d1 d2 d3 : Option V} {H : Hp} {D : Ends} (hp : PenAt H P c ns k1 g) (hk : 0 ≤ k) (q : ∀ z H', Same H H' → D.nx [some (.ref P), m, d1, some (.int k), some (.int z), d2, d3] H') :
    tIfS (tTest (tOp (rNeD K) (tOp (rIxL K) (tVar 0) (tC (.int 0))) (tLst tNil)))
      (tAsg (tOp (rIxL K) (tOp (rIxL K) (tVar 0) (tC (.int 0))) (tOp (rI (fun _ j => 0 < j) fun i j => .int (i % j)) (tCB rInt1 (tCons (tVar 3) tNil)) (tCB (rLen1 K) (tCons (tOp (rIxL K) (tVar 0) (tC (.int 0))) tNil)))) (gName 4))
      tNext D [some (.ref P), m, d1, some (.int k), some (.int z0), d2, d3] H := by
  have go : ∀ H', PenAt H' P c ns k1 g → ∀ Q : VK, Q (.ref c) H' → tOp (rIxL K) (tVar 0) (tC (.int 0)) [some (.ref P), m, d1, some (.int k), some (.int z0), d2, d3] H' Q := fun H' h Q q => vi_ix (n := 0) (val_var rfl) (val_c (v := .int 0)) h.hp rfl Q q
  refine go H hp _ ⟨by show 0 ≤ sizeLine; omega, fun p hpn => ?_⟩
  have hs : Same H (upd H p (.lst [])) := same_upd (Same.refl H) hpn
  have hp2 := hp.same hs
  refine ⟨.list (ns.map PyData.int), .list [], .lst (SqL.of hp2.hc) (dp_ints ns), .lst (SqL.of upd_same) .nil, shaped_ints ns, by decide, _, rfl, ?_⟩
  cases ns with
  | nil =>
    have e : (!PyData.eqv (.list (([] : List Int).map PyData.int)) (.list [])) = false := by decide
    rw [e]
    exact q z0 _ hs
  | cons n ns =>
    have e : (!PyData.eqv (.list ((n :: ns).map PyData.int)) (.list [])) = true := by
      rw [Bool.not_eq_true']
      first
      | rfl
      | simp [PyData.eqv, PyData.eqvAll]
      | (simp [PyData.eqv]; done)
    rw [e]
    rw [if_pos rfl]
    obtain ⟨i, hi⟩ := Int.eq_ofNat_of_zero_le (Int.emod_nonneg k (show (((n :: ns).map V.int).length : Int) ≠ 0 by rw [List.length_map, List.length_cons]; omega))
    have hi2 : i < (n :: ns).length := by
      have := Int.emod_lt_of_pos k (show (0 : Int) < (((n :: ns).map V.int).length : Int) by rw [List.length_map, List.length_cons]; omega)
      rw [hi, List.length_map] at this
      exact Int.ofNat_lt.mp this
    refine st_set (v := .int (n :: ns)[i]) (vi_ix (n := i) (ys := (n :: ns).map V.int) (go _ hp2) ?_ hp2.hc (by rw [List.getElem?_map, List.getElem?_eq_getElem hi2]; rfl)) (q _ _ hs)
    have h3 := vi_mod (σ := [some (.ref P), m, d1, some (.int k), some (.int z0), d2, d3]) (show (0 : Int) < (((n :: ns).map V.int).length : Int) by rw [List.length_map, List.length_cons]; omega) (vi_int (val_var (H := upd H p (.lst [])) (i := 3) (v := .int k) rfl)) (vi_len (K := K) (go _ hp2) hp2.hc)
    rw [hi] at h3
    exact h3
/-- return [list(script[:63]), 0, 0] -/
theorem pen_new {K : PySem.W.Frag} {a : Addr} {ns : List Int} {H : Hp} {Q : VK} {D : Ends} (ha : SqL K H a (ns.map V.int)) (hl : ns.length ≤ 63) (k : ∀ P c H', Same H H' → H P = none → H c = none → PenAt H' P c ns 0 0 → Q (.ref P) H') (hD : D.rt = Q := by rfl) :
    tRet (tLst (tCons (tCB (fun xs H Q => ∃ p ys, xs = [.ref p] ∧ (SqL K H p ys ∨ SqT K H p ys) ∧ ∀ l, H l = none → Q (.ref l) (upd H l (.lst ys))) (tCons (tSl (rSlL K) (tVar 0) tNoPart (tPart (tC (.int 63)))) tNil)) (tCons (tC (.int 0)) (tCons (tC (.int 0)) tNil)))) D [some (.ref a)] H := by
  have cut : cutV (ns.map V.int) none (some 63) = ns.map V.int := by
    unfold cutV
    have h0 : HT.sIx (ns.map V.int).length 0 none = 0 := rfl
    have h1 : (ns.map V.int).length ≤ HT.sIx (ns.map V.int).length (ns.map V.int).length (some 63) := by
      rw [List.length_map]
      unfold HT.sIx
      simp only []
      first
      | omega
      | (split <;> omega)
      | (simp; omega)
    rw [h0, List.drop_zero, List.take_of_length_le (by omega)]
  show tLst _ _ _ _
  rw [hD]
  refine ⟨.ref a, rfl, 63, rfl, a, ns.map V.int, rfl, ha, fun p hp => ?_⟩
  rw [cut]
  have s1 : Same H (upd H p (.lst (ns.map V.int))) := same_upd (Same.refl H) hp
  refine ⟨p, ns.map V.int, rfl, .inl (SqL.of upd_same), fun c hc => ?_⟩
  have s2 := same_upd (o := .lst (ns.map V.int)) s1 (s1.free hc)
  refine ⟨by show 3 ≤ sizeLine; decide, fun P hP => ?_⟩
  have hPc : c ≠ P := ne_of_none (H := upd (upd H p (.lst (ns.map V.int))) c (.lst (ns.map V.int))) upd_same hP
  exact k P c _ (same_upd s2 (s2.free hP)) (s2.free hP) (s1.free hc) ⟨upd_same, by rw [upd_ne hPc]; exact upd_same, hPc, by decide, by decide⟩
/-- return some[draw(pen, len(some))] -/
theorem pick_go {K : PySem.W.Frag} {P c : Addr} {ns : List Int} {k g : Int} {w : V} {G H : Hp} {ds : List Da} {Q : VK} {E : XK} {D : Ends} (hp : PenAt H P c ns k g) (hl : ns.length ≤ 63) (hk : k ≤ 9999) (hs : Same G H) (gP : G P = none) (dr : DR K G w (.lst ds)) (ne : ds ≠ []) (hz : ds.length ≤ 1000)
    (kk : ∀ v d H' k' g', d ∈ ds → But P H H' → PenAt H' P c ns k' g' → k' ≤ k + 1 → DR K G v d → Q v H') (hD : D.rt = Q := by rfl) :
    tRet (tOp (rIxL K) (tVar 1) (tCall (spDraw 1073741824) [] E (tCons (tVar 0) (tCons (tCB (rLen1 K) (tCons (tVar 1) tNil)) tNil)))) D [some (.ref P), some w] H := by
  cases dr with
  | @lst a xs _ h1 h2 =>
    have hx : 0 < xs.length := by
      rw [h2.len]
      exact List.length_pos_iff.mpr ne
    refine ⟨_, rfl, .ref P, rfl, .ref a, rfl, a, xs, rfl, .inl (SqL.of (hs _ _ h1)), P, c, ns, k, g, (xs.length : Int), rfl, hp, hl, hk, by omega, by rw [h2.len]; omega, fun r H' k' g' r0 r1 bt hp' hk' => ?_⟩
    obtain ⟨i, rfl⟩ := Int.eq_ofNat_of_zero_le r0
    have hi : i < xs.length := by omega
    obtain ⟨d, e1, e2⟩ := h2.get (List.getElem?_eq_getElem hi)
    rw [hD]
    exact ⟨a, xs, i, _, rfl, rfl, SqL.of (bt.same hs gP _ _ h1), atI_nat (List.getElem?_eq_getElem hi), kk _ _ _ _ _ (List.mem_of_getElem? e1) bt hp' hk' e2⟩
end GL

set_option Elab.async false
set_option linter.all false
set_option maxRecDepth 100000
set_option maxHeartbeats 4000000
namespace K01
open PySem PySem.Spec PyProof.Rows L2 GL
section
variable {P : Program} {w : World} {K : PySem.W.Frag} {mg : Str → Option Value} {base : Heap} {C I : Nat → Addr} {FD : Nat → FuncData}
theorem sc_law_pen : FnScope ["_law_script"] ["_law_script"] (defScope s__law_pen) := ⟨rfl, rfl, rfl, by decide +kernel, rfl, by decide +kernel, by decide +kernel⟩
theorem ok_law_pen {f : Addr} {fd : FuncData} (F : Fun K "_law_pen" "_law_pen" s__law_pen f fd) (T : TX P w K mg base C I FD) : FnG P w K mg base CX0 2 f fd ["_law_script"] (spPen K) := by
  refine okG F sc_law_pen (fun vs H Q E h => by obtain ⟨a, ns, rfl, _⟩ := h; rfl) fun cdv A outer s H vs Q E hq hr h => ?_
  obtain ⟨a, ns, rfl, ha, hl, k⟩ := h
  refine ⟨_, (pss_one (ps_ret (pe_lst (pa_cons (pe_callTy call_list_of (by rfl) T.n_list (by decide +kernel) (pa_cons (pe_slice sl_list (pv 0) po_none (po_some pe_int)) pa_nil)) (pa_cons pe_int (pa_cons pe_int pa_nil)))))), ?_⟩
  exact pen_new ha hl k
theorem sc_law_draw : FnScope ["_law_pen_here", "_law_many", "_law_digit", "_law_spot", "_law_cell", "_law_great", "_law_mixed"] ["_law_pen_here", "_law_many"] (defScope s__law_draw) := ⟨rfl, rfl, rfl, by decide +kernel, rfl, by decide +kernel, by decide +kernel⟩
theorem ok_law_draw {f : Addr} {fd : FuncData} (F : Fun K "_law_draw" "_law_draw" s__law_draw f fd) (T : TX P w K mg base C I FD) : FnG P w K mg base CX0 2 f fd ["_law_pen_here", "_law_many"] (spDraw 1073741824) := by
  refine okG F sc_law_draw (fun vs H Q E h => by obtain ⟨P, c, ns, k, g, m, rfl, _⟩ := h; rfl) fun cdv A outer s H vs Q E hq hr h => ?_
  obtain ⟨P, c, ns, k, g, m, rfl, hp, hl, hk, hm, hm2, kk⟩ := h
  refine ⟨_, (pss_cons (ps_if (pt_cmpR op_gt (pe_ix (ix_listK (K := K) rfl) (pv 0) pe_int (fun _ _ => rfl)) pe_int (nomark _)) (pss_cons (ps_set (i := 2) sc_law_draw.nd rfl (Or.inl rfl) (pe_op op_mod (pe_callTy call_int1 (by rfl) T.n_int (by decide +kernel) (pa_cons (pe_ix (ix_listK (K := K) rfl) (pv 0) pe_int (fun _ _ => rfl)) pa_nil)) (pv 1)))
      (pss_cons (ps_asg (pe_op op_fdivN (pe_callTy call_int1 (by rfl) T.n_int (by decide +kernel) (pa_cons (pe_ix (ix_listK (K := K) rfl) (pv 0) pe_int (fun _ _ => rfl)) pa_nil)) (pv 1)) (pg_sub (pv 0) pe_int set_list))
      (pss_one (ps_ret (pv 2))))) pss_nil)
      (pss_cons (ps_set (i := 3) sc_law_draw.nd rfl (Or.inl rfl) (pe_ix (ix_listK (K := K) rfl) (pv 0) pe_int (fun _ _ => rfl)))
      (pss_cons (ps_asg (pe_op op_add (pv 3) pe_int) (pg_sub (pv 0) pe_int set_list))
      (pss_cons (ps_set (i := 4) sc_law_draw.nd rfl (Or.inl rfl) (pe_op op_add (pe_op op_mul pe_int (pv 3)) pe_int))
      (pss_cons (ps_if (pt_neD (K := K) rfl hr.units (pe_ix (ix_listK (K := K) rfl) (pv 0) pe_int (fun _ _ => rfl)) (pe_lst pa_nil)) (pss_one (ps_set (i := 4) sc_law_draw.nd rfl (Or.inl rfl) (pe_ix (ix_listK (K := K) rfl) (pe_ix (ix_listK (K := K) rfl) (pv 0) pe_int (fun _ _ => rfl)) (pe_op op_mod (pe_callTy call_int1 (by rfl) T.n_int (by decide +kernel) (pa_cons (pv 3) pa_nil)) (pe_lenK (K := K) rfl T.n_len (by rfl) (pe_ix (ix_listK (K := K) rfl) (pv 0) pe_int (fun _ _ => rfl)))) (fun _ _ => rfl)))) pss_nil)
      (pss_cons (ps_if (PW.pt (pw_and (pt_cmpR op_lt (pv 3) (pe_lenK (K := K) rfl T.n_len (by rfl) (pe_ix (ix_listK (K := K) rfl) (pv 0) pe_int (fun _ _ => rfl))) (nomark _)) (pw_and1 (pt_cmpR op_ge (pe_callB call_abs (by rfl) T.n_abs (by decide +kernel) (pa_cons (pv 4) pa_nil)) (pe_op op_pow pe_int pe_int) (nomark _))))) (pss_cons (ps_set (i := 5) sc_law_draw.nd rfl (Or.inl rfl) (pe_op op_add (pe_op op_mul pe_int (pe_op op_sub (pe_callB call_abs (by rfl) T.n_abs (by decide +kernel) (pa_cons (pv 4) pa_nil)) (pe_op op_pow pe_int pe_int))) (pe_callTy call_int1 (by rfl) T.n_int (by decide +kernel) (pa_cons (pe_cmpR op_lt (pv 4) pe_int (nomark _)) pa_nil))))
      (pss_cons (ps_asg (pe_op op_fdivN (pe_callTy call_int1 (by rfl) T.n_int (by decide +kernel) (pa_cons (pv 5) pa_nil)) (pv 1)) (pg_sub (pv 0) pe_int set_list))
      (pss_one (ps_ret (pe_op op_mod (pe_callTy call_int1 (by rfl) T.n_int (by decide +kernel) (pa_cons (pv 5) pa_nil)) (pv 1)))))) pss_nil)
      (pss_cons (ps_set (i := 6) sc_law_draw.nd rfl (Or.inl rfl) (pe_op op_mod (pe_callTy call_int1 (by rfl) T.n_int (by decide +kernel) (pa_cons (pe_op op_pow (pe_op op_add (pe_op op_add (pe_op op_mod (pe_callTy call_int1 (by rfl) T.n_int (by decide +kernel) (pa_cons (pv 4) pa_nil)) pe_int) (pe_op op_mul pe_int (pv 3))) pe_int) pe_int) pa_nil)) pe_int))
      (pss_cons (ps_set (i := 6) sc_law_draw.nd rfl (Or.inl rfl) (pe_op op_mod (pe_callTy call_int1 (by rfl) T.n_int (by decide +kernel) (pa_cons (pe_op op_pow (pe_op op_add (pe_op op_add (pe_op op_mul (pv 6) (pe_op op_add (pe_op op_mul pe_int (pv 3)) pe_int)) (pe_op op_mul (pe_op op_mul pe_int (pv 3)) (pv 3))) pe_int) pe_int) pa_nil)) pe_int))
      (pss_one (ps_ret (pe_op op_mod (pe_callTy call_int1 (by rfl) T.n_int (by decide +kernel) (pa_cons (pe_op op_fdivN (pv 6) pe_int) pa_nil)) (pv 1)))))))))))), ?_⟩
  have k0 := hp.k0
  by_cases hg : 0 < g
  · refine st_seq (st_yes ((an_gt (vi_ix (n := 2) (val_var rfl) val_c hp.hp rfl) val_c).to (by simp [hg])) ?_)
    refine st_seq (st_set (vi_mod hm (vi_int (vi_ix (n := 2) (val_var rfl) val_c hp.hp rfl)) (val_var rfl)) ?_)
    refine st_seq (st_pen (n := 2) (vi_fdivN ⟨by omega, by omega⟩ (vi_int (vi_ix (n := 2) (val_var rfl) val_c hp.hp rfl)) (val_var rfl)) (val_var rfl) val_c hp.hp (Nat.le_of_ble_eq_true rfl) ?_)
    refine st_ret (val_var rfl) ?_
    exact kk _ _ _ _ (Int.emod_nonneg _ (by omega)) (Int.emod_lt_of_pos _ hm) But.upd (hp.put hp.k0 (fdiv_nn hp.g0 hm)) (by omega)
  refine st_seq (st_no ((an_gt (vi_ix (n := 2) (val_var rfl) val_c hp.hp rfl) val_c).to (by simp [hg])) (st_next ?_))
  refine st_seq (st_set (vi_ix (n := 1) (val_var rfl) val_c hp.hp rfl) ?_)
  refine st_seq (st_pen (n := 1) (vi_add (val_var rfl) val_c) (val_var rfl) val_c hp.hp (Nat.le_of_ble_eq_true rfl) ?_)
  have hp1 : PenAt (upd H P (.lst [.ref c, .int (k + 1), .int g])) P c ns (k + 1) g := hp.put (by omega) hp.g0
  have b1 : But P H (upd H P (.lst [.ref c, .int (k + 1), .int g])) := But.upd
  refine st_seq (st_set (vi_add (vi_mul (.inl (by decide)) val_c (val_var rfl)) val_c) ?_)
  refine st_seq (pen_if hp1 hp.k0 fun z H2 s2 => ?_)
  have hp2 := hp1.same s2
  have b2 : But P H H2 := b1.trans (Same.but s2)
  have lt := an_lt (σ := [some (.ref P), some (.int m), none, some (.int k), some (.int z), none, none]) (val_var (i := 3) rfl) (vi_len (K := K) (vi_ix (K := K) (n := 0) (val_var (i := 0) rfl) (val_c (v := .int 0)) hp2.hp rfl) hp2.hc)
  have e18 : (10 : Int) ^ (18 : Int).toNat = 1000000000000000000 := by decide
  have ge := an_ge (σ := [some (.ref P), some (.int m), none, some (.int k), some (.int z), none, none]) (vi_abs (val_var (H := H2) (i := 4) rfl)) (vi_pow (i := 10) (j := 18) ⟨by decide, by decide, by decide⟩ val_c val_c)
  have tt := ans_and2 lt ge
  cases hb : (decide (k < ((ns.map V.int).length : Int)) && decide ((10 : Int) ^ (18 : Int).toNat ≤ if z < 0 then -z else z)) with
  | true =>
    refine st_seq (st_yes (tt.to hb) ?_)
    have hz : (10 : Int) ^ (18 : Int).toNat ≤ if z < 0 then -z else z := by
      rw [Bool.and_eq_true] at hb
      exact of_decide_eq_true hb.2
    rw [e18] at hz
    refine st_seq (st_set (vi_add (vi_mul (.inl (by decide)) val_c (vi_sub (vi_abs (val_var rfl)) (vi_pow ⟨by decide, by decide, by decide⟩ val_c val_c))) (vi_intb (vb_lt (val_var rfl) val_c))) ?_)
    refine st_seq (st_pen (n := 2) (vi_fdivN ⟨by omega, by omega⟩ (vi_int (val_var rfl)) (val_var rfl)) (val_var rfl) val_c hp2.hp (Nat.le_of_ble_eq_true rfl) ?_)
    refine st_ret (vi_mod hm (vi_int (val_var rfl)) (val_var rfl)) ?_
    refine kk _ _ _ _ (Int.emod_nonneg _ (by omega)) (Int.emod_lt_of_pos _ hm) (b2.trans But.upd) (hp2.put hp2.k0 (fdiv_nn ?_ hm)) (by omega)
    rw [e18]
    split <;> split <;> omega
  | false =>
    refine st_seq (st_no (tt.to hb) (st_next ?_))
    refine st_seq (st_set (vi_mod (by decide) (vi_int (vi_pow ⟨by decide, by decide, ?_⟩ (vi_add (vi_add (vi_mod (by decide) (vi_int (val_var rfl)) val_c) (vi_mul (.inl (by decide)) val_c (val_var rfl))) val_c) val_c)) val_c) ?_)
    · exact pow_b1 ⟨by decide, by decide⟩ ⟨hp.k0, by omega⟩ ⟨by decide, by decide⟩ ⟨by decide, by decide⟩
    generalize hx : ((z % 2147483563 + 48221 * k + 439) ^ (5 : Int).toNat) % 2147483629 = x
    have x0 : 0 ≤ x := by rw [← hx]; exact Int.emod_nonneg _ (by decide)
    have x1 : x < 2147483629 := by rw [← hx]; exact Int.emod_lt_of_pos _ (by decide)
    refine st_seq (st_set (vi_mod (by decide) (vi_int (vi_pow ⟨by decide, by decide, ?_⟩ (vi_add (vi_add (vi_mul (.inl ?_) (val_var rfl) (vi_add (vi_mul (.inl (by decide)) val_c (val_var rfl)) val_c)) (vi_mul (.inr ?_) (vi_mul (.inl (by decide)) val_c (val_var rfl)) (val_var rfl))) val_c) val_c)) val_c) ?_)
    · exact pow_b2 ⟨x0, by omega⟩ ⟨hp.k0, by omega⟩ ⟨by decide, by decide⟩ ⟨by decide, by decide⟩ ⟨by decide, by decide⟩
    · exact ⟨by omega, by omega⟩
    · exact ⟨by omega, by omega⟩
    refine st_ret (vi_mod hm (vi_int (vi_fdivN ⟨by decide, by decide⟩ (val_var rfl) val_c)) (val_var rfl)) ?_
    exact kk _ _ _ _ (Int.emod_nonneg _ (by omega)) (Int.emod_lt_of_pos _ hm) b2 hp2 (by omega)
theorem sc_law_pick : FnScope ["_law_pen_here", "_law_some"] ["_law_pen_here", "_law_some"] (defScope s__law_pick) := ⟨rfl, rfl, rfl, by decide +kernel, rfl, by decide +kernel, by decide +kernel⟩
theorem ok_law_pick {f : Addr} {fd : FuncData} (F : Fun K "_law_pick" "_law_pick" s__law_pick f fd) (T : TX P w K mg base C I FD) (F_law_draw : CalG P w K mg base 2 "_law_draw" ["_law_pen_here", "_law_many"] (spDraw 1073741824)) : FnG P w K mg base CX0 3 f fd ["_law_pen_here", "_law_some"] (spPick K) := by
  refine okG F sc_law_pick (fun vs H Q E h => by obtain ⟨P, c, ns, k, g, w, G, ds, rfl, _⟩ := h; rfl) fun cdv A outer s H vs Q E hq hr h => ?_
  obtain ⟨P, c, ns, k, g, w', G, ds, rfl, hp, hl, hk, hs, gP, dr, ne, hz, kk⟩ := h
  refine ⟨_, (pss_one (ps_ret (pe_ix (ix_listK (K := K) rfl) (pv 1) (pe_cal F_law_draw (hq.deeper _) (hr.mono (by decide)) rfl (pa_cons (pv 0) (pa_cons (pe_lenK (K := K) rfl T.n_len (by rfl) (pv 1)) pa_nil))) (fun _ _ => rfl)))), ?_⟩
  exact pick_go hp hl hk hs gP dr ne hz kk
end
end K01

set_option Elab.async false
set_option linter.all false
set_option maxRecDepth 100000
set_option maxHeartbeats 2000000
namespace GL
open PySem PySem.Spec PyProof.Rows L2
/-! more of what an expression gives as data: -i, i ** j, text * int, {k: v} -/
def rRepS : R2 := fun x y H Q => ∃ (z : Str) (k : Int), x = .str z ∧ y = .int k ∧ z.length ≤ 16 ∧ -(2 ^ 63 : Int) ≤ k ∧ k ≤ 1000 ∧ Q (.str (Txt.mul z k)) H
theorem op_repS {X : Cx} : OpR X (binaryOp .Mult) rRepS := by
  intro pins s σ H x y v u Q I rx ry h
  obtain ⟨z, k, rfl, rfl, hz, h1, h2, q⟩ := h
  obtain ⟨t, rfl⟩ := rx
  obtain ⟨t2, rfl⟩ := ry
  exact SB.mul (mulOk_of 16 1000 hz (by omega) h1 (by decide) (by decide)) fun t' k' => ⟨.str _, H, I.tok k', ⟨t', rfl⟩, q⟩
section
variable {K : PySem.W.Frag} {σ : L2.St} {G : Hp} {te ta tb tk : TE} {d : Da} {i j : Int} {z : Str}
theorem ed_neg (h : Evd K te σ G (.int i)) : Evd K (tUn (rU fun i => .int (-i)) te) σ G (.int (-i)) := fun H e Q q => h H e _ fun v G1 H1 n1 dv => by
  cases dv
  exact ⟨i, rfl, q _ G1 H1 n1 (.int _)⟩
theorem ed_pow (hc : CPow i j) (ha : Evd K ta σ G (.int i)) (hb : Evd K tb σ G (.int j)) : Evd K (tOp (rI CPow fun i j => .int (i ^ j.toNat)) ta tb) σ G (.int (i ^ j.toNat)) :=
  ed_two ha (fun _ s => hb.up s) fun x y G' H' _ e dx dy Q q => by
    cases dx; cases dy
    exact ⟨i, j, rfl, rfl, hc, q _ G' H' (Nw.refl e) (.int _)⟩
theorem ed_repS (hz : z.length ≤ 16) (h1 : -(2 ^ 63 : Int) ≤ i) (h2 : i ≤ 1000) (ha : Evd K ta σ G (.str z)) (hb : Evd K tb σ G (.int i)) : Evd K (tOp rRepS ta tb) σ G (.str (Txt.mul z i)) :=
  ed_two ha (fun _ s => hb.up s) fun x y G' H' _ e dx dy Q q => by
    cases dx; cases dy
    exact ⟨z, i, rfl, rfl, hz, h1, h2, q _ G' H' (Nw.refl e) (.str _)⟩
theorem ed_disp1 (hk : Evd K tk σ G (.str z)) (hv : Evd K te σ G d) : Evd K (tDisp [(tk, te)]) σ G (.dct [.inr z] [d]) := fun H e Q q p hp => by
  have gp : G p = none := e.free hp
  have s1 : Same G (upd H p (.dK [])) := same_upd e gp
  refine hk _ s1 _ fun x G2 H2 n2 dx => hv.up n2.a H2 n2.b _ fun y G3 H3 n3 dy => ?_
  cases dx
  have h2p : H2 p = some (.dK []) := n2.s _ _ upd_same
  have h3p : H3 p = some (.dK []) := n3.s _ _ h2p
  have g2 : G2 p = none := n2.n _ _ upd_same gp
  have g3 : G3 p = none := n3.n _ _ h2p g2
  have up : Same G3 (upd G3 p (.dK [(Sum.inr z, y)])) := same_upd (Same.refl _) g3
  refine ⟨h3p, [(Sum.inr z, y)], rfl, by show 1 ≤ 15; decide, q _ (upd G3 p (.dK [(Sum.inr z, y)])) _ ⟨fun b o hb => ?_, (n2.a.trans n3.a).trans up, fun b o hb => ?_, fun b o hb hg => ?_⟩ (.dct upd_same rfl (.cons (dy.up up) .nil))⟩
  · have hne : b ≠ p := ne_of_none hb hp
    rw [upd_ne hne]
    exact n3.s _ _ (n2.s _ _ (by rw [upd_ne hne]; exact hb))
  · by_cases hne : b = p
    · subst hne; rw [upd_same] at hb ⊢; exact hb
    · rw [upd_ne hne] at hb ⊢; exact n3.b _ _ hb
  · have hne : b ≠ p := ne_of_none hb hp
    rw [upd_ne hne]
    have hb1 : upd H p (.dK []) b = some o := by rw [upd_ne hne]; exact hb
    exact n3.n _ _ (n2.s _ _ hb1) (n2.n _ _ hb1 hg)
end
/-- the promise of a drawn value: one of a written menu, or a small int -/
def spVal (K : PySem.W.Frag) (Ok : Da → Prop) : Sp := fun vs H Q _ => ∃ (P c : Addr) (ns : List Int) (k g : Int) (G : Hp), vs = [.ref P] ∧ PenAt H P c ns k g ∧ ns.length ≤ 63 ∧ k ≤ 9998 ∧ Same G H ∧ G P = none ∧
  ∀ v d G' H' k' g', Ok d → NwP P G H G' H' → PenAt H' P c ns k' g' → k' ≤ k + 2 → DR K G' v d → Q v H'
/-- return pick(pen, some + [draw(pen, a ** b)]) -/
theorem val_go {K : PySem.W.Frag} {Ok : Da → Prop} {P c : Addr} {ns : List Int} {k g : Int} {G H G1 H1 : Hp} {v1 : V} {ds : List Da} {Q : VK} {E E2 : XK} {D : Ends} {tm : TE} {σ : L2.St} {m : Int} (h0 : σ[0]? = some (some (.ref P))) (h1 : σ[1]? = some (some v1))
    (hp : PenAt H P c ns k g) (hl : ns.length ≤ 63) (hk : k ≤ 9998) (hs : Same G H) (gP : G P = none)
    (kk : ∀ v d G' H' k' g', Ok d → NwP P G H G' H' → PenAt H' P c ns k' g' → k' ≤ k + 2 → DR K G' v d → Q v H') (n1 : Nw G H G1 H1) (dr : DR K G1 v1 (.lst ds)) (hz : ds.length ≤ 900) (hm : ∀ H', Val tm σ H' (.int m)) (m0 : 0 < m ∧ m < 1073741824)
    (ok : ∀ d ∈ ds, Ok d) (okI : ∀ r : Int, 0 ≤ r → r < m → Ok (.int r)) (hD : D.rt = Q := by rfl) :
    tRet (tCall (spPick K) [] E (tCons (tVar 0) (tCons (tOp rCat (tVar 1) (tLst (tCons (tCall (spDraw 1073741824) [] E2 (tCons (tVar 0) (tCons tm tNil))) tNil))) tNil))) D σ H1 := by
  have hp1 := hp.same n1.s
  have g1P : G1 P = none := n1.n _ _ hp.hp gP
  cases dr with
  | @lst a xs _ e1 e2 =>
    refine ⟨_, h0, _, h1, _, h0, hm H1 _ ⟨P, c, ns, k, g, m, rfl, hp1, hl, by omega, m0.1, m0.2, fun r H2 k2 g2 r0 r1 bt hp2 hk2 => ⟨by show 1 ≤ sizeLine; decide, fun p hpn => ?_⟩⟩⟩
    have s2 : Same G1 H2 := bt.same n1.b g1P
    have s3 : Same H2 (upd H2 p (.lst [.int r])) := same_upd (Same.refl _) hpn
    refine ⟨a, p, xs, [.int r], rfl, rfl, s3 _ _ (s2 _ _ e1), upd_same, by rw [e2.len]; exact Nat.le_trans (show ds.length + 1 ≤ 1000 by omega) (by decide), fun q hq => ?_⟩
    have hq2 : H2 q = none := s3.free hq
    have gq : G1 q = none := s2.free hq2
    have hqP : P ≠ q := ne_of_none hp2.hp hq2
    have up : Same G1 (upd G1 q (.lst (xs ++ [.int r]))) := same_upd (Same.refl _) gq
    have s4 : Same H2 (upd (upd H2 p (.lst [.int r])) q (.lst (xs ++ [.int r]))) := same_upd s3 hq2
    have sG : Same (upd G1 q (.lst (xs ++ [.int r]))) (upd (upd H2 p (.lst [.int r])) q (.lst (xs ++ [.int r]))) := fun b o hb => by
      by_cases hne : b = q
      · subst hne; rw [upd_same] at hb ⊢; exact hb
      · rw [upd_ne hne] at hb ⊢; exact s3 _ _ (s2 _ _ hb)
    have g3P : upd G1 q (.lst (xs ++ [.int r])) P = none := by rw [upd_ne hqP]; exact g1P
    refine ⟨P, c, ns, k2, g2, .ref q, upd G1 q (.lst (xs ++ [.int r])), ds ++ [.int r], rfl, hp2.same s4, hl, by omega, sG, g3P, .lst upd_same (DRs.app (e2.up up) (.cons (.int r) .nil)), by simp, by rw [List.length_append]; show ds.length + 1 ≤ 1000; omega, fun v d H5 k5 g5 hd bt5 hp5 hk5 dv => ?_⟩
    rw [hD]
    have all : But P H H5 := ((Same.but n1.s).trans (bt.trans (Same.but s4))).trans bt5
    refine kk v d _ H5 k5 g5 ?_ ⟨all, n1.a.trans up, bt5.same sG g3P, fun b o hb hg => ?_⟩ hp5 (by omega) dv
    · rcases List.mem_append.mp hd with h | h
      · exact ok d h
      · rw [List.mem_singleton] at h
        subst h
        exact okI r r0 r1
    · have hne : b ≠ q := by
        by_cases hb2 : b = P
        · rw [hb2]; exact hqP
        · exact ne_of_none (bt _ _ hb2 (n1.s _ _ hb)) hq2
      rw [upd_ne hne]
      exact n1.n _ _ hb hg
end GL

set_option Elab.async false
set_option linter.all false
set_option maxRecDepth 100000
set_option maxHeartbeats 4000000
namespace K01
open PySem PySem.Spec PyProof.Rows L2 GL
def menu : List Da := [.non, .bl false, .int 1, .int (-9), .int (10 ^ (58 : Int).toNat), .str "", .str "yard", .tup [.int 0, .str "b"], .lst [.tup []], .dct [.inr "b"] [.int 2], .str (Txt.mul "y" 30), .lst []]
def thB (x : Da) : Bool := cp 3 x && match x.toP with
  | some p => p.showable && decide (p.shown.length ≤ 1000) && decide (p.depth ≤ 10)
  | none => false
theorem thB_of {x : Da} (h : thB x = true) : Th x := by
  unfold thB at h
  rw [Bool.and_eq_true] at h
  obtain ⟨h1, h2⟩ := h
  refine ⟨h1, ?_⟩
  cases hp : x.toP with
  | none => rw [hp] at h2; cases h2
  | some p =>
    rw [hp] at h2
    simp only [Bool.and_eq_true, decide_eq_true_eq] at h2
    exact ⟨p, rfl, h2.1.1, h2.1.2, h2.2⟩
theorem th_menu : ∀ d ∈ menu, Th d := fun d h => thB_of (List.all_eq_true.mp (show menu.all thB = true by decide +kernel) d h)
theorem th_int {r : Int} (h0 : 0 ≤ r) (h1 : r < 100000000) : Th (.int r) := by
  refine ⟨rfl, .int r, rfl, ?_, ?_, by simp [PyData.depth]⟩
  · show decide (r.natAbs.log2 < 1920) = true
    rw [decide_eq_true_eq]
    by_cases hz : r.natAbs = 0
    · rw [hz]; decide
    · exact (Nat.log2_lt hz).mpr (Nat.lt_of_lt_of_le (show r.natAbs < 2 ^ 27 by omega) (Nat.pow_le_pow_right (by decide) (by decide)))
  · rw [PyData.shown_int]
    exact Nat.le_trans (toString_length_le h0 (show 0 < 9 by decide) (Int.lt_of_lt_of_le h1 (by decide))) (by decide)
section
variable {P : Program} {w : World} {K : PySem.W.Frag} {mg : Str → Option Value} {base : Heap} {C I : Nat → Addr} {FD : Nat → FuncData}
theorem sc_law_value : FnScope ["_law_pen_here", "_law_some"] ["_law_pen_here"] (defScope s__law_value) := ⟨rfl, rfl, rfl, by decide +kernel, rfl, by decide +kernel, by decide +kernel⟩
theorem ok_law_value {f : Addr} {fd : FuncData} (F : Fun K "_law_value" "_law_value" s__law_value f fd) (T : TX P w K mg base C I FD) (F_law_draw : CalG P w K mg base 2 "_law_draw" ["_law_pen_here", "_law_many"] (spDraw 1073741824)) (F_law_pick : CalG P w K mg base 3 "_law_pick" ["_law_pen_here", "_law_some"] (spPick K)) : FnG P w K mg base CX0 4 f fd ["_law_pen_here"] (spVal K Th) := by
  refine okG F sc_law_value (fun vs H Q E h => by obtain ⟨P, c, ns, k, g, G, rfl, _⟩ := h; rfl) fun cdv A outer s H vs Q E hq hr h => ?_
  obtain ⟨P, c, ns, k, g, G, rfl, hp, hl, hk, hs, gP, kk⟩ := h
  refine ⟨_, (pss_cons (ps_set (i := 1) sc_law_value.nd rfl (Or.inl rfl) (pe_lst (pa_cons pe_non (pa_cons pe_bl (pa_cons pe_int (pa_cons (pe_un un_neg pe_int) (pa_cons (pe_op op_pow pe_int pe_int) (pa_cons pe_str (pa_cons pe_str (pa_cons (pe_tup (pa_cons pe_int (pa_cons pe_str pa_nil))) (pa_cons (pe_lst (pa_cons (pe_tup pa_nil) pa_nil)) (pa_cons (pe_disp (pps_cons pe_str pe_int pps_nil) (by rfl) (by rfl) (by simp) (by decide)) (pa_cons (pe_op op_repS pe_str pe_int) (pa_cons (pe_lst pa_nil) pa_nil))))))))))))))
      (pss_one (ps_ret (pe_cal F_law_pick (hq.deeper _) (hr.mono (by decide)) rfl (pa_cons (pv 0) (pa_cons (pe_op op_cat (pv 1) (pe_lst (pa_cons (pe_cal F_law_draw (hq.deeper _) (hr.mono (by decide)) rfl (pa_cons (pv 0) (pa_cons (pe_op op_pow pe_int pe_int) pa_nil))) pa_nil))) pa_nil)))))), ?_⟩
  refine qd_asg (K := K) (d := .lst menu) hs (x_lst (xs_cons xc_non (xs_cons xc_bl (xs_cons xc_int (xs_cons (ed_neg xc_int) (xs_cons (ed_pow ⟨by decide, by decide, by decide⟩ xc_int xc_int) (xs_cons xc_str (xs_cons xc_str
    (xs_cons (x_tup (xs_cons xc_int (xs_cons xc_str es_nil))) (xs_cons (x_lst (xs_cons (x_tup es_nil) es_nil)) (xs_cons (ed_disp1 xc_str xc_int) (xs_cons (ed_repS (by decide) (by decide) (by decide) xc_str xc_int) (xs_cons (x_lst es_nil) es_nil))))))))))))) fun wv G1 H1 n1 dn => ?_
  exact val_go (m := (10 : Int) ^ (8 : Int).toNat) rfl rfl hp hl hk hs gP kk n1 dn (Nat.le_of_ble_eq_true rfl) (fun H' => vi_pow ⟨by decide, by decide, by decide⟩ val_c val_c) (by decide) th_menu (fun r h0 h1 => th_int h0 (Int.lt_of_lt_of_le h1 (by decide)))
end
end K01

set_option Elab.async false
set_option linter.all false
set_option maxRecDepth 100000
set_option maxHeartbeats 2000000
namespace GL
open PySem PySem.Spec PyProof.Rows L2
section
variable {K : PySem.W.Frag} {σ : L2.St} {G H : Hp} {tl te : TE} {tb : TS} {g : TG} {D : Ends} {ds : List Da}
/-- for over a list of data; J speaks of the turn, the names, the data part and the whole heap -/
theorem for_d (s : Same G H) (h : Evd K tl σ G (.lst ds)) (J : Hp → Hp → Nat → L2.St → Hp → Hp → Prop) (h0 : ∀ G1 H1, Nw G H G1 H1 → J G1 H1 0 σ G1 H1)
    (hJ : ∀ G1 H1 i σ' G' H', Nw G H G1 H1 → J G1 H1 i σ' G' H' → Same G1 G' ∧ Same G' H')
    (hs : ∀ G1 H1 i x d σ' G' H', Nw G H G1 H1 → ds[i]? = some d → DR K G' x d → J G1 H1 i σ' G' H' → g x σ' H' fun σ2 H2 => tb { D with nx := fun σ3 H3 => ∃ G3, J G1 H1 (i + 1) σ3 G3 H3, ct := fun σ3 H3 => ∃ G3, J G1 H1 (i + 1) σ3 G3 H3, bk := D.nx } σ2 H2)
    (hd : ∀ G1 H1 σ' G' H', Nw G H G1 H1 → J G1 H1 ds.length σ' G' H' → D.nx σ' H') : tFor (iList K tl) g tb D σ H := h H s _ fun v G1 H1 n1 dv => by
  cases dv with
  | @lst a xs _ h1 h2 =>
    refine ⟨a, rfl, ⟨xs, SqL.of (n1.b _ _ h1)⟩, for_list (xs := xs) (fun i σ' H' => ∃ G', J G1 H1 i σ' G' H') ⟨G1, h0 G1 H1 n1⟩ (fun i σ' H' hi j => ?_) (fun i x σ' H' hx j => ?_) (fun σ' H' j => ?_)⟩
    · obtain ⟨G', j⟩ := j
      obtain ⟨a1, a2⟩ := hJ G1 H1 i σ' G' H' n1 j
      exact SqL.of (a2 _ _ (a1 _ _ h1))
    · obtain ⟨G', j⟩ := j
      obtain ⟨d, hd', dx⟩ := h2.get hx
      exact hs G1 H1 i x d σ' G' H' n1 hd' (dx.up (hJ G1 H1 i σ' G' H' n1 j).1) j
    · obtain ⟨G', j⟩ := j
      rw [h2.len] at j
      exact hd G1 H1 σ' G' H' n1 j
/-- told.append(e), told a list that is not of the data -/
theorem told_app {i : Nat} {T : Addr} {xs : List V} {b : Bool} (hi : σ[i]? = some (some (.ref T))) (hT : H T = some (.lst xs)) (hz : xs.length ≤ 1000) (s : Same G H) (h : Evd K te σ G (.bl b))
    (k : ∀ G1 H1, Nw G H G1 H1 → D.nx σ (upd H1 T (.lst (xs ++ [.bl b])))) : tDrop (tBM K "list" rAppend (tVar i) (tCons te tNil)) D σ H :=
  ⟨.ref T, hi, .inl ⟨rfl, xs, SqL.of hT⟩, h H s _ fun v G1 H1 n1 dv => by
    cases dv
    exact ⟨T, xs, .bl b, rfl, rfl, n1.s _ _ hT, Nat.lt_of_le_of_lt hz (by decide), k G1 H1 n1⟩⟩
theorem NwP.refl {P : Addr} {G H : Hp} (h : Same G H) : NwP P G H G H := (Nw.refl h).p
theorem NwP.put {T : Addr} {G H G' H' G1 H1 : Hp} {o u : HO} (x : NwP T G H G' H') (y : Nw G' H' G1 H1) (hT : H' T = some u) (gT : G' T = none) : NwP T G H G1 (upd H1 T o) :=
  ⟨(x.s.trans (Same.but y.s)).trans But.upd, x.a.trans y.a, fun b v e => by
    rw [upd_ne (ne_of_none e (y.n _ _ hT gT))]
    exact y.b _ _ e, fun p v e z => by
    by_cases q : p = T
    · subst q; exact y.n _ _ hT gT
    · exact y.n _ _ (x.s _ _ q e) (x.n _ _ e z)⟩
/-- a new list T that comes and goes beside the data -/
theorem NwP.out {T : Addr} {G H G' H' : Hp} {o : HO} (hT : H T = none) (x : NwP T G (upd H T o) G' H') : Nw G H G' H' :=
  ⟨fun b v e => x.s _ _ (ne_of_none e hT) (by rw [upd_ne (ne_of_none e hT)]; exact e), x.a, x.b, fun p v e z => x.n p v (by rw [upd_ne (ne_of_none e hT)]; exact e) z⟩
/-- x in a list of truth values, not there -/
theorem told_all {i : Nat} {T : Addr} {n : Nat} {Q : VK} (hi : σ[i]? = some (some (.ref T))) (hT : H T = some (.lst (List.replicate n (.bl true)))) (q : Q (.bl true) H) : tOp (rIn K true) (tC (.bl false)) (tVar i) σ H Q := by
  refine ⟨.ref T, hi, T, _, rfl, .inl (SqL.of hT), rfl, ?_, ?_⟩
  · simp [flatV]
  · have e : inV (.bl false) (List.replicate n (.bl true)) = false := by
      simp [inV, eqV]
    rw [e]
    exact q
end
theorem shown2_len {p q : PyData} (h1 : p.shown.length ≤ 1000) (h2 : q.shown.length ≤ 1000) : (PyData.list [p, q]).shown.length ≤ 2010 := by
  have e : (PyData.list [p, q]).shown = listText [p.shown, q.shown] := by simp [PyData.shown, PyData.shownAll]
  rw [e]
  have e2 : listText [p.shown, q.shown] = (("[" : Str) ++ "" ++ p.shown ++ ", " ++ q.shown) ++ "]" := by simp [listText, textFrom]
  have la : ∀ a b : Str, (a ++ b).length = a.length + b.length := fun a b => by
    first
    | exact Str.length_append a b
    | (show (a.cps ++ b.cps).size = _; exact Array.size_append)
  rw [e2]
  simp only [la]
  have l1 : ("[" : Str).length = 1 := by decide
  have l2 : ("]" : Str).length = 1 := by decide
  have l3 : (", " : Str).length = 2 := by decide
  have l4 : ("" : Str).length = 0 := by decide
  omega
end GL

set_option Elab.async false
set_option linter.all false
set_option maxRecDepth 100000
set_option maxHeartbeats 4000000
namespace K01
open PySem PySem.Spec PyProof.Rows L2 GL
theorem th2 {x y : Da} (hx : Th x) (hy : Th y) : ∃ p, (Da.lst [x, y]).toP = some p ∧ p.showable = true ∧ p.shown.length ≤ sizeLine ∧ p.depth ≤ 60 := by
  obtain ⟨_, p, hp, a1, a2, a3⟩ := hx
  obtain ⟨_, q, hq, b1, b2, b3⟩ := hy
  refine ⟨.list [p, q], by simp [Da.toP, Da.toPs, hp, hq], by simp [PyData.showable, PyData.showableAll, a1, b1], Nat.le_trans (shown2_len a2 b2) (by decide), ?_⟩
  simp only [PyData.depth, PyData.depthAll]
  omega
theorem rep1 (n : Nat) : List.replicate n (V.bl true) ++ [V.bl true] = List.replicate (n + 1) (V.bl true) := List.replicate_succ'.symm
section
variable {P : Program} {w : World} {K : PySem.W.Frag} {mg : Str → Option Value} {base : Heap} {C I : Nat → Addr} {FD : Nat → FuncData}
theorem sc_law_pairs_right : FnScope ["_law_thing", "_law_more", "_law_told", "_law_line_so", "_law_many"] ["_law_thing", "_law_more"] (defScope s__law_pairs_right) := ⟨rfl, rfl, rfl, by decide +kernel, rfl, by decide +kernel, by decide +kernel⟩
theorem ok_law_pairs_right {f : Addr} {fd : FuncData} (F : Fun K "_law_pairs_right" "_law_pairs_right" s__law_pairs_right f fd) (T : TX P w K mg base C I FD) (F_law_kinds : CalG P w K mg base 3 "_law_kinds" ["_law_error"] (Pr K 1 (Rsig C kindsD))) : FnG P w K mg base CX0 7 f fd ["_law_thing", "_law_more"] (Pr K 2 (Rth 2)) := by
  refine okG F sc_law_pairs_right Pr.len fun cdv A outer s H vs Q E hq hr h => ?_
  obtain ⟨G, ds, d, hs, hl, hd, ⟨_, hth, rfl⟩, k⟩ := h
  obtain ⟨x, y, rfl⟩ : ∃ x y, ds = [x, y] := by match ds, hl with | [x, y], _ => exact ⟨x, y, rfl⟩
  have tx := hth x (by simp)
  have ty := hth y (by simp)
  have hx := tx.1
  have hy := ty.1
  obtain ⟨p, pp, p1, p2, p3⟩ := th2 tx ty
  obtain ⟨v, u, rfl, dv, du⟩ := two_of hd
  refine ⟨_, (pss_cons (ps_set (i := 2) sc_law_pairs_right.nd rfl (Or.inl rfl) (pe_lst pa_nil))
      (pss_cons (ps_for PassesOwn.never rfl (pi_list (pe_lst (pa_cons (pe_oex T.mk_BadText T.ok_BadText (hq.deeper _) hr rfl T.m_BadText T.kp_BadText pass0 (by decide) (pa_cons (pv 0) (pa_cons (pv 1) pa_nil))) (pa_cons (pe_oexK0 T.mk_BadText T.ok_BadText (hq.deeper _) hr rfl T.m_BadText T.kk_BadText pass0 (pk_cons (pv 1) (pk_cons (pv 0) pk_nil))) pa_nil)))) (pg_name (i := 3) sc_law_pairs_right.nd rfl (Or.inl rfl)) (pss_cons (ps_expr (pe_bm PySem.F.plainAttrs_list PySem.F.slot_list_append PySem.F.type_list_append mt_append (pv 2) (pa_cons (pe_eqD (K := K) rfl hr.units (pe_cal F_law_kinds (hq.deeper _) (hr.mono (by decide)) rfl (pa_cons (pv 3) pa_nil)) (pe_lst (pa_cons pe_str (pa_cons pe_str pa_nil)))) pa_nil)))
      (pss_one (ps_expr (pe_bm PySem.F.plainAttrs_list PySem.F.slot_list_append PySem.F.type_list_append mt_append (pv 2) (pa_cons (pe_cmpR op_eq (pe_repr (K := K) rfl T.sys (hq.deeper _) hr.units T.n_repr (by rfl) (pe_lst (pa_cons (pe_oflK (K := K) rfl (pv 3)) (pa_cons (pe_oflK (K := K) rfl (pv 3)) pa_nil)))) (pe_repr (K := K) rfl T.sys (hq.deeper _) hr.units T.n_repr (by rfl) (pe_lst (pa_cons (pv 0) (pa_cons (pv 1) pa_nil)))) (nomark _)) pa_nil))))))
      (pss_cons (ps_for PassesOwn.never rfl (pi_list (pe_lst (pa_cons (pe_oex T.mk_TooMany T.ok_TooMany (hq.deeper _) hr rfl T.m_TooMany T.kp_TooMany pass0 (by decide) (pa_cons (pv 0) (pa_cons (pv 1) pa_nil))) (pa_cons (pe_oexK0 T.mk_TooMany T.ok_TooMany (hq.deeper _) hr rfl T.m_TooMany T.kk_TooMany pass0 (pk_cons (pv 1) (pk_cons (pv 0) pk_nil))) pa_nil)))) (pg_name (i := 4) sc_law_pairs_right.nd rfl (Or.inl rfl)) (pss_cons (ps_expr (pe_bm PySem.F.plainAttrs_list PySem.F.slot_list_append PySem.F.type_list_append mt_append (pv 2) (pa_cons (pe_eqD (K := K) rfl hr.units (pe_cal F_law_kinds (hq.deeper _) (hr.mono (by decide)) rfl (pa_cons (pv 4) pa_nil)) (pe_lst (pa_cons pe_str (pa_cons pe_str pa_nil)))) pa_nil)))
      (pss_one (ps_expr (pe_bm PySem.F.plainAttrs_list PySem.F.slot_list_append PySem.F.type_list_append mt_append (pv 2) (pa_cons (pe_cmpR op_eq (pe_repr (K := K) rfl T.sys (hq.deeper _) hr.units T.n_repr (by rfl) (pe_lst (pa_cons (pe_oflK (K := K) rfl (pv 4)) (pa_cons (pe_oflK (K := K) rfl (pv 4)) pa_nil)))) (pe_repr (K := K) rfl T.sys (hq.deeper _) hr.units T.n_repr (by rfl) (pe_lst (pa_cons (pv 0) (pa_cons (pv 1) pa_nil)))) (nomark _)) pa_nil))))))
      (pss_one (ps_ret (pe_cmpR op_notIn_seq pe_bl (pv 2) (by rfl))))))), ?_⟩
  refine ⟨by show 0 ≤ sizeLine; omega, fun T0 hT => ?_⟩
  have gT : G T0 = none := hs.free hT
  have s1 : Same G (upd H T0 (.lst [])) := same_upd hs gT
  refine for_d (K := K) (ds := [.exc (C 14) ["word", "line"] [y, x], .exc (C 14) ["word", "line"] [y, x]]) s1 (x_lst (xs_cons (x_o2 hx hy (ed_var rfl dv) (ed_var rfl du)) (xs_cons (x_k2 hy hx (ed_var rfl du) (ed_var rfl dv)) es_nil))) (fun G1 H1 i σ' G' H' => (∃ a b, σ' = [some v, some u, some (.ref T0), a, b]) ∧ NwP T0 G1 H1 G' H' ∧ H' T0 = some (.lst (List.replicate (0 + 2 * i) (.bl true))) ∧ G' T0 = none) (fun G1 H1 n1 => ⟨⟨_, _, rfl⟩, NwP.refl n1.b, n1.s _ _ upd_same, n1.n _ _ upd_same gT⟩) (fun G1 H1 i σ' G' H' n1 j => ⟨j.2.1.a, j.2.1.b⟩) (fun G1 H1 i z d σ' G' H' n1 hd dz j => ?_) (fun G1 H1 σ' G' H' n1 j => ?_)
  · obtain ⟨⟨a, b, rfl⟩, nw, hT', gT'⟩ := j
    have hi : i < 2 := by rcases i with _ | _ | i; decide; decide; exact absurd hd (by simp)
    have he : d = .exc (C 14) ["word", "line"] [y, x] := by rcases i with _ | _ | i; exact (Option.some.inj hd).symm; exact (Option.some.inj hd).symm; omega
    subst he
    have dv' := dv.up (n1.a.trans nw.a)
    have du' := du.up (n1.a.trans nw.a)
    refine told_app (i := 2) (b := true) rfl hT' (by rw [List.length_replicate]; omega) nw.b (x_eq (d1 := .lst (kindsD 14)) (p := .list [.str "input", .str "text"]) (q := .list [.str "input", .str "text"]) (x_callR (ds := [.exc (C 14) ["word", "line"] [y, x]]) (xs_cons (ed_var rfl dz) es_nil) rfl ⟨14, _, _, by decide, rfl, rfl⟩) (x_lst (xs_cons xc_str (xs_cons xc_str es_nil))) rfl rfl rfl rfl (by decide +kernel) (by decide +kernel) (by decide +kernel)) fun G2 H2 n2 => ?_
    have nw' := nw.put (o := .lst (List.replicate (0 + 2 * i) (V.bl true) ++ [.bl true])) n2 hT' gT'
    have g2 := n2.n _ _ hT' gT'
    have dz2 := dz.up n2.a
    refine told_app (i := 2) (b := true) rfl upd_same (by rw [rep1, List.length_replicate]; omega) nw'.b (x_eqs (ed_repr (x_lst (xs_cons (x_f2b (ed_var rfl dz2) (T.get 14 (by decide)) T.no_BadText_line (by decide)) (xs_cons (x_f2a (ed_var rfl dz2) (T.get 14 (by decide)) T.no_BadText_word) es_nil))) pp p1 p2 p3) (ed_repr (x_lst (xs_cons (ed_var rfl (dv'.up n2.a)) (xs_cons (ed_var rfl (du'.up n2.a)) es_nil))) pp p1 p2 p3) (by simp)) fun G3 H3 n3 => ?_
    exact ⟨G3, ⟨_, _, rfl⟩, nw'.put n3 upd_same g2, by rw [upd_same, rep1, rep1]; rfl, n3.n _ _ upd_same g2⟩
  obtain ⟨⟨a, b, rfl⟩, nw, hT', gT'⟩ := j
  have c1 := n1.p.trans nw fun o _ => ⟨_, n1.s _ _ upd_same⟩
  have dv1 := dv.up (n1.a.trans nw.a)
  have du1 := du.up (n1.a.trans nw.a)
  refine for_d (K := K) (ds := [.exc (C 22) ["most", "what"] [y, x], .exc (C 22) ["most", "what"] [y, x]]) nw.b (x_lst (xs_cons (x_o2 hx hy (ed_var rfl dv1) (ed_var rfl du1)) (xs_cons (x_k2 hy hx (ed_var rfl du1) (ed_var rfl dv1)) es_nil))) (fun G1 H1 i σ' G' H' => (∃ a b, σ' = [some v, some u, some (.ref T0), a, b]) ∧ NwP T0 G1 H1 G' H' ∧ H' T0 = some (.lst (List.replicate (4 + 2 * i) (.bl true))) ∧ G' T0 = none) (fun G1 H1 n1 => ⟨⟨_, _, rfl⟩, NwP.refl n1.b, n1.s _ _ hT', n1.n _ _ hT' gT'⟩) (fun G1 H1 i σ' G' H' n1 j => ⟨j.2.1.a, j.2.1.b⟩) (fun G1 H1 i z d σ' G' H' n1 hd dz j => ?_) (fun G1 H1 σ' G' H' n1 j => ?_)
  · obtain ⟨⟨a, b, rfl⟩, nw, hT', gT'⟩ := j
    have hi : i < 2 := by rcases i with _ | _ | i; decide; decide; exact absurd hd (by simp)
    have he : d = .exc (C 22) ["most", "what"] [y, x] := by rcases i with _ | _ | i; exact (Option.some.inj hd).symm; exact (Option.some.inj hd).symm; omega
    subst he
    have dv' := dv1.up (n1.a.trans nw.a)
    have du' := du1.up (n1.a.trans nw.a)
    refine told_app (i := 2) (b := true) rfl hT' (by rw [List.length_replicate]; omega) nw.b (x_eq (d1 := .lst (kindsD 22)) (p := .list [.str "refused", .str "many"]) (q := .list [.str "refused", .str "many"]) (x_callR (ds := [.exc (C 22) ["most", "what"] [y, x]]) (xs_cons (ed_var rfl dz) es_nil) rfl ⟨22, _, _, by decide, rfl, rfl⟩) (x_lst (xs_cons xc_str (xs_cons xc_str es_nil))) rfl rfl rfl rfl (by decide +kernel) (by decide +kernel) (by decide +kernel)) fun G2 H2 n2 => ?_
    have nw' := nw.put (o := .lst (List.replicate (4 + 2 * i) (V.bl true) ++ [.bl true])) n2 hT' gT'
    have g2 := n2.n _ _ hT' gT'
    have dz2 := dz.up n2.a
    refine told_app (i := 2) (b := true) rfl upd_same (by rw [rep1, List.length_replicate]; omega) nw'.b (x_eqs (ed_repr (x_lst (xs_cons (x_f2b (ed_var rfl dz2) (T.get 22 (by decide)) T.no_TooMany_what (by decide)) (xs_cons (x_f2a (ed_var rfl dz2) (T.get 22 (by decide)) T.no_TooMany_most) es_nil))) pp p1 p2 p3) (ed_repr (x_lst (xs_cons (ed_var rfl (dv'.up n2.a)) (xs_cons (ed_var rfl (du'.up n2.a)) es_nil))) pp p1 p2 p3) (by simp)) fun G3 H3 n3 => ?_
    exact ⟨G3, ⟨_, _, rfl⟩, nw'.put n3 upd_same g2, by rw [upd_same, rep1, rep1]; rfl, n3.n _ _ upd_same g2⟩
  obtain ⟨⟨a, b, rfl⟩, nw2, hT2, gT2⟩ := j
  have c2 := c1.trans (n1.p.trans nw2 fun o _ => ⟨_, n1.s _ _ hT'⟩) fun o _ => ⟨_, hT'⟩
  exact told_all (i := 2) (n := 8) rfl hT2 (k _ _ _ (NwP.out hT c2) (.bl true))
end
end K01

set_option Elab.async false
set_option linter.all false
set_option maxRecDepth 100000
set_option maxHeartbeats 4000000
namespace K01
open PySem PySem.Spec PyProof.Rows L2 GL
def Good (grp : Str) (q : Nat × Str) : Prop := q.1 < 26 ∧ (Da.lst (kindsD q.1)).toP = some (.list [.str grp, .str (sg q.1)]) ∧ SeqAt.shaped (.list [.str grp, .str (sg q.1)]) = true ∧ PyData.eqv (.list [.str grp, .str (sg q.1)]) (.list [.str grp, .str (sg q.1)]) = true
theorem good_ins : ∀ q ∈ insD, Good "input" q := by
  have h1 : insD.all (fun q => decide (q.1 < 26) && SeqAt.shaped (.list [.str "input", .str (sg q.1)]) && PyData.eqv (.list [.str "input", .str (sg q.1)]) (.list [.str "input", .str (sg q.1)])) = true := by decide +kernel
  intro q hq
  have h := List.all_eq_true.mp h1 q hq
  simp only [Bool.and_eq_true, decide_eq_true_eq] at h
  refine ⟨h.1.1, ?_, h.1.2, h.2⟩
  simp only [insD, List.mem_cons, List.not_mem_nil, or_false] at hq
  rcases hq with rfl | rfl | rfl | rfl | rfl | rfl | rfl | rfl | rfl | rfl | rfl | rfl <;> rfl
theorem good_oth : ∀ q ∈ othD, Good "refused" q := by
  have h1 : othD.all (fun q => decide (q.1 < 26) && SeqAt.shaped (.list [.str "refused", .str (sg q.1)]) && PyData.eqv (.list [.str "refused", .str (sg q.1)]) (.list [.str "refused", .str (sg q.1)])) = true := by decide +kernel
  intro q hq
  have h := List.all_eq_true.mp h1 q hq
  simp only [Bool.and_eq_true, decide_eq_true_eq] at h
  refine ⟨h.1.1, ?_, h.1.2, h.2⟩
  simp only [othD, List.mem_cons, List.not_mem_nil, or_false] at hq
  rcases hq with rfl | rfl | rfl | rfl | rfl | rfl <;> rfl
theorem three_of {K : PySem.W.Frag} {H : Hp} {vs : List V} {a b c : Da} (h : DRs K H vs [a, b, c]) : ∃ v u x, vs = [v, u, x] ∧ DR K H v a ∧ DR K H u b ∧ DR K H x c := by
  cases h with | cons h1 h => cases h with | cons h2 h => cases h with | cons h3 h => cases h; exact ⟨_, _, _, rfl, h1, h2, h3⟩
def spLaw (K : PySem.W.Frag) : Sp := fun vs H Q _ => ∃ (a : Addr) (ns : List Int), vs = [.ref a] ∧ SqL K H a (ns.map V.int) ∧ ns.length ≤ 63 ∧ ∀ H', Q (.bl true) H'
section
variable {P : Program} {w : World} {K : PySem.W.Frag} {mg : Str → Option Value} {base : Heap} {C I : Nat → Addr} {FD : Nat → FuncData}
theorem sc_law : FnScope ["_law_script", "_law_pen_here", "_law_turn", "_law_thing", "_law_more", "_law_group", "_law_rows", "_law_error", "_law_sign", "_law_field", "_law_groups"] ["_law_script"] (defScope s_law) := ⟨rfl, rfl, rfl, by decide +kernel, rfl, by decide +kernel, by decide +kernel⟩
theorem ok_law {f : Addr} {fd : FuncData} (F : Fun K "law" "law" s_law f fd) (T : TX P w K mg base C I FD) (F_law_pen : CalG P w K mg base 2 "_law_pen" ["_law_script"] (spPen K)) (F_law_value : CalG P w K mg base 4 "_law_value" ["_law_pen_here"] (spVal K Th)) (F_law_inputs : CalG P w K mg base 7 "_law_inputs" ["_law_thing"] (Pr K 1 (Rrow C insD))) (F_law_others : CalG P w K mg base 7 "_law_others" ["_law_thing"] (Pr K 1 (Rrow C othD))) (F_law_kinds : CalG P w K mg base 3 "_law_kinds" ["_law_error"] (Pr K 1 (Rsig C kindsD))) (F_law_pairs_right : CalG P w K mg base 7 "_law_pairs_right" ["_law_thing", "_law_more"] (Pr K 2 (Rth 2))) (F_law_named_right : CalG P w K mg base 7 "_law_named_right" ["_law_thing"] (Pr K 1 (Rth 1))) : FnG P w K mg base CX0 8 f fd ["_law_script"] (spLaw K) := by
  refine okG F sc_law (fun vs H Q E h => by obtain ⟨a, ns, rfl, _⟩ := h; rfl) fun cdv A outer s H vs Q E hq hr h => ?_
  obtain ⟨a, ns, rfl, ha, hl, fin⟩ := h
  refine ⟨_, (pss_cons (ps_set (i := 1) sc_law.nd rfl (Or.inl rfl) (pe_cal F_law_pen (hq.deeper _) (hr.mono (by decide)) rfl (pa_cons (pv 0) pa_nil)))
      (pss_cons (ps_for PassesOwn.never rfl (pi_range1 rfl T.n_range (pa_cons pe_int pa_nil)) (pg_name (i := 2) sc_law.nd rfl (Or.inl rfl)) (pss_cons (ps_par (i := 3) (j := 4) (by rfl) sc_law.nd rfl rfl (by decide) rfl rfl (pa_cons (pe_cal F_law_value (hq.deeper _) (hr.mono (by decide)) rfl (pa_cons (pv 1) pa_nil)) (pa_cons (pe_cal F_law_value (hq.deeper _) (hr.mono (by decide)) rfl (pa_cons (pv 1) pa_nil)) pa_nil)) (by rfl))
      (pss_cons (ps_for PassesOwn.never rfl (pi_list (pe_lst (pa_cons (pe_tup (pa_cons pe_str (pa_cons (pe_cal F_law_inputs (hq.deeper _) (hr.mono (by decide)) rfl (pa_cons (pv 3) pa_nil)) pa_nil))) (pa_cons (pe_tup (pa_cons pe_str (pa_cons (pe_cal F_law_others (hq.deeper _) (hr.mono (by decide)) rfl (pa_cons (pv 3) pa_nil)) pa_nil))) pa_nil)))) (pg_tup rfl (pgs_cons (pg_name (i := 5) sc_law.nd rfl (Or.inl rfl)) (pgs_cons (pg_name (i := 6) sc_law.nd rfl (Or.inl rfl)) pgs_nil))) (pss_one (ps_for PassesOwn.never rfl (pi_list (pv 6)) (pg_tup rfl (pgs_cons (pg_name (i := 7) sc_law.nd rfl (Or.inl rfl)) (pgs_cons (pg_name (i := 8) sc_law.nd rfl (Or.inl rfl)) (pgs_cons (pg_name (i := 9) sc_law.nd rfl (Or.inl rfl)) pgs_nil)))) (pss_one (ps_if (PW.pt (pw_or (pt_cmpR op_ne (pe_repr (K := K) rfl T.sys (hq.deeper _) hr.units T.n_repr (by rfl) (pv 9)) (pe_repr (K := K) rfl T.sys (hq.deeper _) hr.units T.n_repr (by rfl) (pv 3)) (nomark _)) (pw_or1 (pt_neD (K := K) rfl hr.units (pe_cal F_law_kinds (hq.deeper _) (hr.mono (by decide)) rfl (pa_cons (pv 7) pa_nil)) (pe_lst (pa_cons (pv 5) (pa_cons (pv 8) pa_nil))))))) (pss_one (ps_ret pe_bl)) pss_nil)))))
      (pss_one (ps_if (PW.pt (pw_or (pt_not (pt_val (pe_cal F_law_pairs_right (hq.deeper _) (hr.mono (by decide)) rfl (pa_cons (pv 3) (pa_cons (pv 4) pa_nil))))) (pw_or1 (pt_not (pt_val (pe_cal F_law_named_right (hq.deeper _) (hr.mono (by decide)) rfl (pa_cons (pv 3) pa_nil))))))) (pss_one (ps_ret pe_bl)) pss_nil)))))
      (pss_cons (ps_if (PW.pt (pw_or (pt_neD (K := K) rfl hr.units (pe_cal F_law_kinds (hq.deeper _) (hr.mono (by decide)) rfl (pa_cons (pe_exc0 PySem.F.excBase_ValueError T.e_NoDeed T.m_NoDeed T.kc_NoDeed rfl) pa_nil)) (pe_lst (pa_cons pe_str (pa_cons pe_str pa_nil)))) (pw_or1 (pt_neD (K := K) rfl hr.units (pe_cal F_law_kinds (hq.deeper _) (hr.mono (by decide)) rfl (pa_cons (pe_exc0 PySem.F.excBase_ValueError T.e_NoDepot T.m_NoDepot T.kc_NoDepot rfl) pa_nil)) (pe_lst (pa_cons pe_str (pa_cons pe_str pa_nil))))))) (pss_one (ps_ret pe_bl)) pss_nil)
      (pss_cons (ps_set (i := 10) sc_law.nd rfl (Or.inl rfl) (pe_lst (pa_cons (pe_cal F_law_kinds (hq.deeper _) (hr.mono (by decide)) rfl (pa_cons (pe_exc0 PySem.F.excBase_ValueError T.e_PullError T.m_PullError T.kc_PullError rfl) pa_nil)) (pa_cons (pe_cal F_law_kinds (hq.deeper _) (hr.mono (by decide)) rfl (pa_cons (pe_exc0 PySem.F.excBase_ValueError T.e_BadInput T.m_BadInput T.kc_BadInput rfl) pa_nil)) (pa_cons (pe_cal F_law_kinds (hq.deeper _) (hr.mono (by decide)) rfl (pa_cons (pe_exc0 PySem.F.excBase_ValueError T.e_Refused T.m_Refused T.kc_Refused rfl) pa_nil)) (pa_cons (pe_cal F_law_kinds (hq.deeper _) (hr.mono (by decide)) rfl (pa_cons (pe_exc0 PySem.F.excBase_ValueError T.e_NoAnswer T.m_NoAnswer T.kc_NoAnswer rfl) pa_nil)) pa_nil))))))
      (pss_one (ps_ret (pe_and (pe_eqD (K := K) rfl hr.units (pv 10) (pe_lst (pa_cons (pe_lst pa_nil) (pa_cons (pe_lst (pa_cons pe_str pa_nil)) (pa_cons (pe_lst (pa_cons pe_str pa_nil)) (pa_cons (pe_lst (pa_cons pe_str pa_nil)) pa_nil)))))) (pe_one (pe_isO (K := K) rfl T.n_isinstance (by rfl) (pa_cons (pe_exc0 PySem.F.excBase_ValueError T.e_PullError T.m_PullError T.kc_PullError rfl) (pa_cons (pe_bltn (v := .ty "ValueError") rfl T.n_ValueError (by decide +kernel) rfl) pa_nil))))))))))), ?_⟩
  refine ⟨_, rfl, a, ns, rfl, ha, hl, fun PA c H1 s1 hP hc hp => ?_⟩
  refine ⟨6, rfl, by decide, by decide, for_range (lo := 0) (n := 6) (fun i σ' H' => (∃ x2 x3 x4 x5 x6 x7 x8 x9 x10, σ' = [some (.ref a), some (.ref PA), x2, x3, x4, x5, x6, x7, x8, x9, x10]) ∧ ∃ k g, PenAt H' PA c ns k g ∧ k ≤ 4 * i) ⟨⟨_, _, _, _, _, _, _, _, _, rfl⟩, 0, 0, hp, by decide⟩ (fun i σ' H' hi j => ?_) (fun σ' H' j => ?_)⟩
  · obtain ⟨⟨x2, x3, x4, x5, x6, x7, x8, x9, x10, rfl⟩, k, g, hp, hk⟩ := j
    have k0 := hp.k0
    refine ⟨_, rfl, PA, c, ns, k, g, (fun _ => none), rfl, hp, hl, by omega, (fun _ _ z => nomatch z), rfl, fun v1 d1 G1 H1 k1 g1 t1 nw1 hp1 hk1 dv1 => ?_⟩
    have g1P : G1 PA = none := nw1.n _ _ hp.hp rfl
    refine ⟨_, rfl, PA, c, ns, k1, g1, G1, rfl, hp1, hl, by omega, nw1.b, g1P, fun v2 d2 G2 H2 k2 g2 t2 nw2 hp2 hk2 dv2 => ⟨v1, v2, rfl, ?_⟩⟩
    have dv1 := dv1.up nw2.a
    have s2 := nw2.b
    refine for_d (K := K) (ds := [.tup [.str "input", .lst (insD.map (row C d1))], .tup [.str "refused", .lst (othD.map (row C d1))]]) s2
      (x_lst (xs_cons (x_tup (xs_cons xc_str (xs_cons (x_callR (ds := [d1]) (xs_cons (ed_var rfl dv1) es_nil) rfl ⟨d1, t1.1, rfl, rfl⟩) es_nil))) (xs_cons (x_tup (xs_cons xc_str (xs_cons (x_callR (ds := [d1]) (xs_cons (ed_var rfl dv1) es_nil) rfl ⟨d1, t1.1, rfl, rfl⟩) es_nil))) es_nil)))
      (fun G3 H3 i' σ' G' H' => (∃ x5 x6 x7 x8 x9, σ' = [some (.ref a), some (.ref PA), some (.int (0 + i)), some v1, some v2, x5, x6, x7, x8, x9, x10]) ∧ Nw G3 H3 G' H') (fun G3 H3 n3 => ⟨⟨_, _, _, _, _, rfl⟩, Nw.refl n3.b⟩) (fun G3 H3 i' σ' G' H' n3 j => ⟨j.2.a, j.2.b⟩) (fun G3 H3 i' z d σ' G' H' n3 hd dz j => ?_) (fun G3 H3 σ' G' H' n3 j => ?_)
    · obtain ⟨⟨x5, x6, x7, x8, x9, rfl⟩, nw⟩ := j
      obtain ⟨grp, rows, rfl, good⟩ : ∃ (grp : Str) (rows : List (Nat × Str)), d = .tup [.str grp, .lst (rows.map (row C d1))] ∧ ∀ q ∈ rows, Good grp q := by
        rcases i' with _ | _ | i'
        · exact ⟨_, _, (Option.some.inj hd).symm, good_ins⟩
        · exact ⟨_, _, (Option.some.inj hd).symm, good_oth⟩
        · exact absurd hd (by simp)
      have dv1 := dv1.up (n3.a.trans nw.a)
      cases dz with
      | tup h1 h2 =>
        obtain ⟨y5, y6, rfl, e5, e6⟩ := two_of h2
        refine go_tup2 (nw.b _ _ h1) _ ?_
        refine for_d (K := K) (ds := rows.map (row C d1)) nw.b (ed_var rfl e6)
          (fun G4 H4 i' σ' G' H' => (∃ x7 x8 x9, σ' = [some (.ref a), some (.ref PA), some (.int (0 + i)), some v1, some v2, some y5, some y6, x7, x8, x9, x10]) ∧ Nw G4 H4 G' H') (fun G4 H4 n4 => ⟨⟨_, _, _, rfl⟩, Nw.refl n4.b⟩) (fun G4 H4 i' σ' G' H' n4 j => ⟨j.2.a, j.2.b⟩) (fun G4 H4 i' z d σ' G5 H5 n4 hd dz j => ?_) (fun G4 H4 σ' G5 H5 n4 j => ?_)
        · obtain ⟨⟨x7, x8, x9, rfl⟩, nw4⟩ := j
          obtain ⟨q, hq, rfl⟩ := List.mem_map.mp (List.mem_of_getElem? hd)
          obtain ⟨q1, q2, q3, q4⟩ := good q hq
          have dv1 := dv1.up (n4.a.trans nw4.a)
          have e5 := e5.up (n4.a.trans nw4.a)
          cases dz with
          | tup h1 h2 =>
            obtain ⟨y7, y8, y9, rfl, e7, e8, e9⟩ := three_of h2
            refine go_tup3 (nw4.b _ _ h1) _ ?_
            obtain ⟨z1, hz1, r1⟩ := x_repr (K := K) (σ := [some (.ref a), some (.ref PA), some (.int (0 + i)), some v1, some v2, some y5, some y6, some y7, some y8, some y9, x10]) (te := tVar 9) (ed_var rfl e9) t1
            obtain ⟨z2, hz2, r2⟩ := x_repr (K := K) (σ := [some (.ref a), some (.ref PA), some (.int (0 + i)), some v1, some v2, some y5, some y6, some y7, some y8, some y9, x10]) (te := tVar 3) (ed_var rfl dv1) t1
            rw [hz1] at hz2
            cases hz2
            exact sd_if nw4.b (x_or (et_of (x_nes r1 r2 (b := false) (by simp))) (et_of (x_ne (d1 := .lst (kindsD q.1)) (d2 := .lst [.str grp, .str (sg q.1)]) (b := false) (x_callR (ds := [.exc (C q.1) [q.2] [d1]]) (xs_cons (ed_var rfl e7) es_nil) rfl ⟨q.1, _, _, q1, rfl, rfl⟩) (x_lst (xs_cons (ed_var rfl e5) (xs_cons (ed_var rfl e8) es_nil))) q2 rfl rfl rfl q3 q3 (by rw [q4]; rfl)))) (fun z => nomatch z) (fun _ G6 H6 n6 => ⟨G6, ⟨_, _, _, rfl⟩, nw4.trans n6⟩)
        · obtain ⟨⟨x7, x8, x9, rfl⟩, nw4⟩ := j
          exact ⟨G5, ⟨_, _, _, _, _, rfl⟩, (nw.trans n4).trans nw4⟩
    · obtain ⟨⟨x5, x6, x7, x8, x9, rfl⟩, nw⟩ := j
      have dv1 := dv1.up (n3.a.trans nw.a)
      have dv2 := dv2.up (n3.a.trans nw.a)
      exact sd_if nw.b (x_or (et_not (et_B (b := true) (x_callR (ds := [d1, d2]) (xs_cons (ed_var rfl dv1) (xs_cons (ed_var rfl dv2) es_nil)) rfl ⟨rfl, fun x hx => by rcases List.mem_cons.mp hx with rfl | hx; exact t1; rw [List.mem_singleton.mp hx]; exact t2, rfl⟩)))
        (et_not (et_B (b := true) (x_callR (ds := [d1]) (xs_cons (ed_var rfl dv1) es_nil) rfl ⟨rfl, fun x hx => by rw [List.mem_singleton.mp hx]; exact t1, rfl⟩)))) (fun z => nomatch z)
        (fun _ G6 H6 n6 => ⟨⟨_, _, _, _, _, _, _, _, _, rfl⟩, k2, g2, hp2.same ((n3.s.trans nw.s).trans n6.s), by omega⟩)
  · obtain ⟨⟨x2, x3, x4, x5, x6, x7, x8, x9, x10, rfl⟩, k, g, hp, hk⟩ := j
    have s0 : Same (fun _ => none : Hp) H' := fun _ _ z => nomatch z
    refine qd_if s0 (x_or (et_of (x_ne (d1 := .lst (kindsD 23)) (p := .list [.str "answer", .str "deed"]) (q := .list [.str "answer", .str "deed"]) (K := K) (b := false) (x_callR (ds := [.exc (C 23) [] []]) (xs_cons ed_exc0 es_nil) rfl ⟨23, [], [], by decide, rfl, rfl⟩) (x_lst (xs_cons xc_str (xs_cons xc_str es_nil))) rfl rfl rfl rfl (by decide +kernel) (by decide +kernel) (by decide +kernel))) (et_of (x_ne (d1 := .lst (kindsD 24)) (p := .list [.str "answer", .str "depot"]) (q := .list [.str "answer", .str "depot"]) (K := K) (b := false) (x_callR (ds := [.exc (C 24) [] []]) (xs_cons ed_exc0 es_nil) rfl ⟨24, [], [], by decide, rfl, rfl⟩) (x_lst (xs_cons xc_str (xs_cons xc_str es_nil))) rfl rfl rfl rfl (by decide +kernel) (by decide +kernel) (by decide +kernel)))) (fun z => nomatch z) (fun _ G1 H1 n1 => ?_)
    refine qd_asg (K := K) (d := .lst [.lst (kindsD 25), .lst (kindsD 0), .lst (kindsD 1), .lst (kindsD 2)]) n1.b (x_lst (xs_cons (x_callR (ds := [.exc (C 25) [] []]) (xs_cons ed_exc0 es_nil) rfl ⟨25, [], [], by decide, rfl, rfl⟩) (xs_cons (x_callR (ds := [.exc (C 0) [] []]) (xs_cons ed_exc0 es_nil) rfl ⟨0, [], [], by decide, rfl, rfl⟩) (xs_cons (x_callR (ds := [.exc (C 1) [] []]) (xs_cons ed_exc0 es_nil) rfl ⟨1, [], [], by decide, rfl, rfl⟩) (xs_cons (x_callR (ds := [.exc (C 2) [] []]) (xs_cons ed_exc0 es_nil) rfl ⟨2, [], [], by decide, rfl, rfl⟩) es_nil))))) fun wv G2 H2 n2 dn => ?_
    refine sd_ret (K := K) (d := .bl true) n2.b (x_andV (b := true) (c := true) (x_eq (d1 := .lst [.lst (kindsD 25), .lst (kindsD 0), .lst (kindsD 1), .lst (kindsD 2)]) (p := (.list [.list [], .list [.str "input"], .list [.str "refused"], .list [.str "answer"]])) (q := (.list [.list [], .list [.str "input"], .list [.str "refused"], .list [.str "answer"]])) (b := true) (ed_var rfl dn)
      (x_lst (xs_cons (x_lst es_nil) (xs_cons (x_lst (xs_cons xc_str es_nil)) (xs_cons (x_lst (xs_cons xc_str es_nil)) (xs_cons (x_lst (xs_cons xc_str es_nil)) es_nil))))) rfl rfl rfl rfl (by decide +kernel) (by decide +kernel) (by decide +kernel)) (x_isT ed_exc0 (T.get 25 (by decide)) T.kitV)) fun v G3 H3 n3 dv => ?_
    cases dv
    exact fin H3
end
end K01

set_option Elab.async false
set_option linter.all false
set_option maxRecDepth 100000
set_option maxHeartbeats 2000000
namespace GL
open PySem PySem.Spec PyProof.Rows L2
/-! the facts of a written part of the heap, by one computed answer -/
def fdAt (K : PySem.W.Frag) (f : Addr) : FuncData := match K.lookup f with
  | some ⟨_, _, .func fd, _⟩ => fd
  | _ => PySem.W.fnOf "" "" { posonlyargs := [], args := [], vararg := none, kwonlyargs := [], kw_defaults := [], kwarg := none, defaults := [] } [] { kind := .function, names := [], isGenerator := false, isCoroutine := false } .none .none .none .none none .none .none
theorem fun_at {K : PySem.W.Frag} {f : Addr} {nm qual : Str} {st : Stmt} {oc : Value} {od an : Option Addr} {osl : Array (Option Value)} {kV doc pm cdv ct : Value}
    (e : K.lookup f = some ⟨oc, od, .func (PySem.W.fnOf nm qual (defArgs st) (defBody st) (defScope st) .none kV doc pm an cdv ct), osl⟩) (c : PySem.W.codeIn K cdv qual = true) : Fun K nm qual st f (fdAt K f) := by
  have h : fdAt K f = PySem.W.fnOf nm qual (defArgs st) (defBody st) (defScope st) .none kV doc pm an cdv ct := by
    unfold fdAt
    rw [e]
  rw [h]
  refine fun_mk e c ?_
  unfold PySem.W.keepIn
  show (match K.lookup f with
      | some ⟨_, _, .func _, _⟩ => true
      | some ⟨_, _, .cls _, _⟩ => PySem.W.specialIn K (.ref f) "__call__" == some (some (.builtin "type.__call__"))
      | _ => false) = true
  rw [e]
def getB (K : PySem.W.Frag) (C : Addr) : Bool := decide (PySem.W.findIn K (.ref C) "__getattribute__" = some (some (.builtin "BaseException.__getattribute__"))) && (decide (PySem.W.findIn K (.ref C) "__getattr__" = some none) && (decide (PySem.W.subIn K (.ref C) (.type "BaseException") = some true) &&
  ((PySem.W.clsIn K C).isSome && (PySem.W.hasDictIn K C && (decide (PySem.W.findIn K (.ref C) "__class__" = some (some (.builtin "object.__class__"))) && (decide (PySem.W.specialIn K (.builtin "object.__class__") "__get__" = some (some (.builtin "getset_descriptor.__get__"))) &&
  (decide (PySem.W.takesIn K (.builtin "object.__class__") = some true) && decide (PySem.W.mroIn K C (.type "object") = some true))))))))
theorem getB_of {K : PySem.W.Frag} {C : Addr} (h : getB K C = true) : OGet K C := by
  unfold getB at h
  simp only [Bool.and_eq_true, decide_eq_true_eq] at h
  obtain ⟨h1, h2, h3, h4, h5, h6, h7, h8, h9⟩ := h
  exact ⟨h1, h2, h3, h4, h5, h6, h7, h8, h9⟩
def oexB (K : PySem.W.Frag) (C : Addr) : Bool := (match K.lookup C with
  | some ⟨.type "type", _, .cls cd, sl⟩ => (match cd.mro, sl.toList with
    | .ref C' :: bm, [_, _, _, _, some (.builtin n), _] => C' == C && (n == "ValueError.__new__" && (!cd.hasDel && (cd.hasDict && PySem.HandSPX.refsVE bm)))
    | _, _ => false)
  | _ => false) && (decide (PySem.W.findIn K (.ref C) "__setattr__" = some (some (.builtin "object.__setattr__"))) && (decide (PySem.W.subIn K (.ref C) (.type "BaseException") = some true) && (decide (PySem.W.typeIn K (.ref C) = some (.type "type")) && PySem.W.keepIn K (.ref C))))
theorem oexB_of {K : PySem.W.Frag} {C : Addr} (h : oexB K C = true) : OexC K C := by
  unfold oexB at h
  rw [Bool.and_eq_true] at h
  obtain ⟨q, h⟩ := h
  simp only [Bool.and_eq_true, decide_eq_true_eq] at h
  obtain ⟨h1, h2, h3, h4⟩ := h
  refine ⟨?_, h1, h2, h3, h4⟩
  split at q
  · rename_i dd cd sl ho
    split at q
    · rename_i C' bm k0 k1 k2 k3 n k5 hm hs
      simp only [Bool.and_eq_true, beq_iff_eq, Bool.not_eq_true'] at q
      obtain ⟨rfl, rfl, hdel, hd, ht⟩ := q
      obtain ⟨nm, bs, mro, ns, qn, hdct, sn, sub, ab, col, del⟩ := cd
      dsimp only at hm hdel hd
      subst hm hdel hd
      have hsl : sl = #[k0, k1, k2, k3, some (.builtin "ValueError.__new__"), k5] := by
        obtain ⟨l⟩ := sl
        simp only at hs
        rw [hs]
      subst hsl
      exact ⟨nm, qn, ns, bs, bm, sn, sub, ab, col, dd, k0, k1, k2, k3, k5, ho, ht⟩
    · cases q
  · cases q
/-- the same with its __init__ -/
def omkB (K : PySem.W.Frag) (C I : Addr) : Bool := oexB K C && (decide (PySem.W.findIn K (.ref C) "__init__" = some (some (.ref I))) && decide (PySem.W.typeIn K (.ref I) = some (.type "function")))
theorem omkB_of {K : PySem.W.Frag} {C I : Addr} (h : omkB K C I = true) : OMk K C I := by
  unfold omkB at h
  simp only [Bool.and_eq_true, decide_eq_true_eq] at h
  obtain ⟨h1, h2, h3⟩ := h
  exact ⟨oexB_of h1, h2, h3⟩
end GL

set_option Elab.async false
set_option linter.all false
set_option maxRecDepth 100000
set_option maxHeartbeats 4000000
namespace K01
open PySem PySem.Spec PyProof.Rows L2 GL
/-! where the classes stand, and what is asked of the written part of the heap -/
def cNames : List Str := ["BadInput", "Refused", "NoAnswer", "BadRate", "BadName", "BadTrip", "BadTour", "BadStand", "BadCount", "BadOrder", "BadLoads", "BadWord", "BadRule", "BadLog", "BadText", "BadLine", "NoYard", "Unbalanced", "NoTrailer", "LeftStanding", "Unsafe", "Strands", "TooMany", "NoDeed", "NoDepot", "PullError"]
def Cx (K : PySem.W.Frag) (i : Nat) : Addr := He.ga K (cNames.getD i "")
def freeL : List Str := ["isinstance", "repr", "list", "tuple", "dict", "int", "len", "abs", "range", "ValueError"]
def initL : List Nat := [3, 4, 5, 6, 7, 8, 9, 10, 11, 12, 13, 14, 15, 16, 17, 18, 19, 20, 21, 22]
def bareL : List Nat := [0, 1, 2, 23, 24, 25]
def noL : List (Nat × Str) := [(3, "part"), (4, "value"), (5, "part"), (6, "part"), (7, "part"), (8, "value"), (9, "part"), (10, "at"), (11, "value"), (12, "part"), (13, "at"), (14, "line"), (14, "word"), (15, "word"), (16, "yard"), (17, "yard"), (18, "yard"), (19, "index"), (20, "loads"), (21, "loads"), (22, "what"), (22, "most")]
def Ix (K : PySem.W.Frag) (i : Nat) : Addr := He.ma K (Cx K i) "__init__"
def chkT (K : PySem.W.Frag) : Bool := ((["NoneType", "bool", "int", "str"] : List String).all fun T => decide (PySem.W.kitOne K (.type T) (.ref (He.ga K "Twinned")) = some false)) && decide (PySem.W.nsIn K mainGlobals "Twinned" = some (some (.ref (He.ga K "Twinned"))))
def chk (K : PySem.W.Frag) : Bool := chkT K && ((freeL.all fun x => decide (PySem.W.nsIn K mainGlobals x = some none)) && (((List.range 26).all fun i => decide (PySem.W.nsIn K mainGlobals (cNames.getD i "") = some (some (.ref (Cx K i))))) &&
  (((List.range 26).all fun i => getB K (Cx K i)) && (((List.range 26).all fun i => (List.range 25).all fun j => decide (PySem.W.kitOne K (.ref (Cx K i)) (.ref (Cx K j)) = some (isSub i j))) &&
  (((List.range 26).all fun i => decide (PySem.W.kitOne K (.ref (Cx K i)) (.ref (Cx K 25)) = some true)) && (decide (PySem.W.kitOne K (.ref (Cx K 25)) (.type "ValueError") = some true) && ((initL.all fun i => omkB K (Cx K i) (Ix K i)) &&
  ((noL.all fun p => decide (PySem.W.findIn K (.ref (Cx K p.1)) p.2 = some none)) && (bareL.all fun i => PySem.W.excIn K (Cx K i) [.type "ValueError", .type "Exception", .type "BaseException", .type "object"] "ValueError.__new__" && PySem.W.keepIn K (.ref (Cx K i)))))))))))
def fa : List He.Fa := [.glo "copied", .glo "_law_pen", .glo "_law_draw", .glo "_law_pick", .glo "_law_value", .glo "_law_signs", .glo "_law_kinds", .glo "_law_inputs", .glo "_law_others", .glo "_law_named_right", .glo "_law_pairs_right", .glo "law"]
def fns : List He.FnD := [⟨("copied", none), "copied", "copied", defArgs sCopied, defBody sCopied, defScope sCopied⟩, ⟨("_law_pen", none), "_law_pen", "_law_pen", defArgs s__law_pen, defBody s__law_pen, defScope s__law_pen⟩, ⟨("_law_draw", none), "_law_draw", "_law_draw", defArgs s__law_draw, defBody s__law_draw, defScope s__law_draw⟩, ⟨("_law_pick", none), "_law_pick", "_law_pick", defArgs s__law_pick, defBody s__law_pick, defScope s__law_pick⟩, ⟨("_law_value", none), "_law_value", "_law_value", defArgs s__law_value, defBody s__law_value, defScope s__law_value⟩, ⟨("_law_signs", none), "_law_signs", "_law_signs", defArgs s__law_signs, defBody s__law_signs, defScope s__law_signs⟩, ⟨("_law_kinds", none), "_law_kinds", "_law_kinds", defArgs s__law_kinds, defBody s__law_kinds, defScope s__law_kinds⟩, ⟨("_law_inputs", none), "_law_inputs", "_law_inputs", defArgs s__law_inputs, defBody s__law_inputs, defScope s__law_inputs⟩, ⟨("_law_others", none), "_law_others", "_law_others", defArgs s__law_others, defBody s__law_others, defScope s__law_others⟩, ⟨("_law_named_right", none), "_law_named_right", "_law_named_right", defArgs s__law_named_right, defBody s__law_named_right, defScope s__law_named_right⟩, ⟨("_law_pairs_right", none), "_law_pairs_right", "_law_pairs_right", defArgs s__law_pairs_right, defBody s__law_pairs_right, defScope s__law_pairs_right⟩, ⟨("law", none), "law", "law", defArgs s_law, defBody s_law, defScope s_law⟩, ⟨("BadRate", some "__init__"), "__init__", "BadRate.__init__", defArgs sI_BadRate, defBody sI_BadRate, defScope sI_BadRate⟩, ⟨("BadName", some "__init__"), "__init__", "BadName.__init__", defArgs sI_BadName, defBody sI_BadName, defScope sI_BadName⟩, ⟨("BadTrip", some "__init__"), "__init__", "BadTrip.__init__", defArgs sI_BadTrip, defBody sI_BadTrip, defScope sI_BadTrip⟩, ⟨("BadTour", some "__init__"), "__init__", "BadTour.__init__", defArgs sI_BadTour, defBody sI_BadTour, defScope sI_BadTour⟩, ⟨("BadStand", some "__init__"), "__init__", "BadStand.__init__", defArgs sI_BadStand, defBody sI_BadStand, defScope sI_BadStand⟩, ⟨("BadCount", some "__init__"), "__init__", "BadCount.__init__", defArgs sI_BadCount, defBody sI_BadCount, defScope sI_BadCount⟩, ⟨("BadOrder", some "__init__"), "__init__", "BadOrder.__init__", defArgs sI_BadOrder, defBody sI_BadOrder, defScope sI_BadOrder⟩, ⟨("BadLoads", some "__init__"), "__init__", "BadLoads.__init__", defArgs sI_BadLoads, defBody sI_BadLoads, defScope sI_BadLoads⟩, ⟨("BadWord", some "__init__"), "__init__", "BadWord.__init__", defArgs sI_BadWord, defBody sI_BadWord, defScope sI_BadWord⟩, ⟨("BadRule", some "__init__"), "__init__", "BadRule.__init__", defArgs sI_BadRule, defBody sI_BadRule, defScope sI_BadRule⟩, ⟨("BadLog", some "__init__"), "__init__", "BadLog.__init__", defArgs sI_BadLog, defBody sI_BadLog, defScope sI_BadLog⟩, ⟨("BadText", some "__init__"), "__init__", "BadText.__init__", defArgs sI_BadText, defBody sI_BadText, defScope sI_BadText⟩, ⟨("BadLine", some "__init__"), "__init__", "BadLine.__init__", defArgs sI_BadLine, defBody sI_BadLine, defScope sI_BadLine⟩, ⟨("NoYard", some "__init__"), "__init__", "NoYard.__init__", defArgs sI_NoYard, defBody sI_NoYard, defScope sI_NoYard⟩, ⟨("Unbalanced", some "__init__"), "__init__", "Unbalanced.__init__", defArgs sI_Unbalanced, defBody sI_Unbalanced, defScope sI_Unbalanced⟩, ⟨("NoTrailer", some "__init__"), "__init__", "NoTrailer.__init__", defArgs sI_NoTrailer, defBody sI_NoTrailer, defScope sI_NoTrailer⟩, ⟨("LeftStanding", some "__init__"), "__init__", "LeftStanding.__init__", defArgs sI_LeftStanding, defBody sI_LeftStanding, defScope sI_LeftStanding⟩, ⟨("Unsafe", some "__init__"), "__init__", "Unsafe.__init__", defArgs sI_Unsafe, defBody sI_Unsafe, defScope sI_Unsafe⟩, ⟨("Strands", some "__init__"), "__init__", "Strands.__init__", defArgs sI_Strands, defBody sI_Strands, defScope sI_Strands⟩, ⟨("TooMany", some "__init__"), "__init__", "TooMany.__init__", defArgs sI_TooMany, defBody sI_TooMany, defScope sI_TooMany⟩]
theorem ga_of {K : PySem.W.Frag} {x : Str} {a : Addr} (h : PySem.W.nsIn K mainGlobals x = some (some (.ref a))) : He.ga K x = a := by
  unfold He.ga
  rw [h]
theorem allR {n : Nat} {p : Nat → Bool} (h : (List.range n).all p = true) (i : Nat) (hi : i < n) : p i = true := List.all_eq_true.mp h i (List.mem_range.mpr hi)
theorem all_mk {P : Program} {w : World} {K : PySem.W.Frag} {h : Heap} {mg : Str → Option Value} {f : Addr} (X : K.In h) (G : h.Ns mainGlobals mg) (hfa : mg "law" = some (.ref f)) (c : chk K = true) (cf : He.SaysE fa fns K) :
    ∃ fd : FuncData, (∀ (s : Shared) (u : Value), BindsTo s fd ⟨[u], []⟩ [("_law_script", u)]) ∧ ∀ base : Heap, K.In base → base.Ns mainGlobals mg → SysAt base → FnG P w K mg base CX0 8 f fd ["_law_script"] (spLaw K) := by
  unfold chk at c
  simp only [Bool.and_eq_true] at c
  obtain ⟨ct, c2, c3, c4, c5, c6, c7, c8, c9, c10⟩ := c
  have fr : ∀ i x, freeL[i]? = some x → mg x = none := fun i x hx => PySem.W.mg_none_of X G (of_decide_eq_true (List.all_eq_true.mp c2 x (List.mem_of_getElem? hx)))
  have nsC : ∀ i, i < 26 → PySem.W.nsIn K mainGlobals (cNames.getD i "") = some (some (.ref (Cx K i))) := fun i hi => of_decide_eq_true (allR c3 i hi)
  have gl : ∀ i, i < 26 → mg (cNames.getD i "") = some (.ref (Cx K i)) := fun i hi => PySem.W.mg_of X G (nsC i hi)
  have omk : ∀ i, i ∈ initL → OMk K (Cx K i) (Ix K i) := fun i hi => omkB_of (List.all_eq_true.mp c8 i hi)
  have nos : ∀ p, p ∈ noL → PySem.W.findIn K (.ref (Cx K p.1)) p.2 = some none := fun p hp => of_decide_eq_true (List.all_eq_true.mp c9 p hp)
  have bar : ∀ i, i ∈ bareL → PySem.W.excIn K (Cx K i) [.type "ValueError", .type "Exception", .type "BaseException", .type "object"] "ValueError.__new__" = true ∧ PySem.W.keepIn K (.ref (Cx K i)) = true := fun i hi => by
    have := List.all_eq_true.mp c10 i hi
    rw [Bool.and_eq_true] at this
    exact this
  obtain ⟨_, _, _, _, _, _, _, _, _, e0, k0⟩ := cf.def_ 0 rfl
  have F0 : Fun K "copied" "copied" sCopied (He.ga K "copied") (fdAt K (He.ga K "copied")) := fun_at (st := sCopied) e0 k0
  have m0 : mg "copied" = some (.ref (He.ga K "copied")) := He.glo_ok X G (cf.fact 0 (f := .glo "copied") rfl)
  have b0 : Binds K (fdAt K (He.ga K "copied")) ["value"] [] := F0.binds fun _ _ _ _ _ _ us hl => match us, hl with | [_], _ => rfl
  obtain ⟨_, _, _, _, _, _, _, _, _, e1, k1⟩ := cf.def_ 1 rfl
  have F1 : Fun K "_law_pen" "_law_pen" s__law_pen (He.ga K "_law_pen") (fdAt K (He.ga K "_law_pen")) := fun_at (st := s__law_pen) e1 k1
  have m1 : mg "_law_pen" = some (.ref (He.ga K "_law_pen")) := He.glo_ok X G (cf.fact 1 (f := .glo "_law_pen") rfl)
  have b1 : Binds K (fdAt K (He.ga K "_law_pen")) ["_law_script"] [] := F1.binds fun _ _ _ _ _ _ us hl => match us, hl with | [_], _ => rfl
  obtain ⟨_, _, _, _, _, _, _, _, _, e2, k2⟩ := cf.def_ 2 rfl
  have F2 : Fun K "_law_draw" "_law_draw" s__law_draw (He.ga K "_law_draw") (fdAt K (He.ga K "_law_draw")) := fun_at (st := s__law_draw) e2 k2
  have m2 : mg "_law_draw" = some (.ref (He.ga K "_law_draw")) := He.glo_ok X G (cf.fact 2 (f := .glo "_law_draw") rfl)
  have b2 : Binds K (fdAt K (He.ga K "_law_draw")) ["_law_pen_here", "_law_many"] [] := F2.binds fun _ _ _ _ _ _ us hl => match us, hl with | [_, _], _ => rfl
  obtain ⟨_, _, _, _, _, _, _, _, _, e3, k3⟩ := cf.def_ 3 rfl
  have F3 : Fun K "_law_pick" "_law_pick" s__law_pick (He.ga K "_law_pick") (fdAt K (He.ga K "_law_pick")) := fun_at (st := s__law_pick) e3 k3
  have m3 : mg "_law_pick" = some (.ref (He.ga K "_law_pick")) := He.glo_ok X G (cf.fact 3 (f := .glo "_law_pick") rfl)
  have b3 : Binds K (fdAt K (He.ga K "_law_pick")) ["_law_pen_here", "_law_some"] [] := F3.binds fun _ _ _ _ _ _ us hl => match us, hl with | [_, _], _ => rfl
  obtain ⟨_, _, _, _, _, _, _, _, _, e4, k4⟩ := cf.def_ 4 rfl
  have F4 : Fun K "_law_value" "_law_value" s__law_value (He.ga K "_law_value") (fdAt K (He.ga K "_law_value")) := fun_at (st := s__law_value) e4 k4
  have m4 : mg "_law_value" = some (.ref (He.ga K "_law_value")) := He.glo_ok X G (cf.fact 4 (f := .glo "_law_value") rfl)
  have b4 : Binds K (fdAt K (He.ga K "_law_value")) ["_law_pen_here"] [] := F4.binds fun _ _ _ _ _ _ us hl => match us, hl with | [_], _ => rfl
  obtain ⟨_, _, _, _, _, _, _, _, _, e5, k5⟩ := cf.def_ 5 rfl
  have F5 : Fun K "_law_signs" "_law_signs" s__law_signs (He.ga K "_law_signs") (fdAt K (He.ga K "_law_signs")) := fun_at (st := s__law_signs) e5 k5
  have m5 : mg "_law_signs" = some (.ref (He.ga K "_law_signs")) := He.glo_ok X G (cf.fact 5 (f := .glo "_law_signs") rfl)
  have b5 : Binds K (fdAt K (He.ga K "_law_signs")) ["_law_error"] [] := F5.binds fun _ _ _ _ _ _ us hl => match us, hl with | [_], _ => rfl
  obtain ⟨_, _, _, _, _, _, _, _, _, e6, k6⟩ := cf.def_ 6 rfl
  have F6 : Fun K "_law_kinds" "_law_kinds" s__law_kinds (He.ga K "_law_kinds") (fdAt K (He.ga K "_law_kinds")) := fun_at (st := s__law_kinds) e6 k6
  have m6 : mg "_law_kinds" = some (.ref (He.ga K "_law_kinds")) := He.glo_ok X G (cf.fact 6 (f := .glo "_law_kinds") rfl)
  have b6 : Binds K (fdAt K (He.ga K "_law_kinds")) ["_law_error"] [] := F6.binds fun _ _ _ _ _ _ us hl => match us, hl with | [_], _ => rfl
  obtain ⟨_, _, _, _, _, _, _, _, _, e7, k7⟩ := cf.def_ 7 rfl
  have F7 : Fun K "_law_inputs" "_law_inputs" s__law_inputs (He.ga K "_law_inputs") (fdAt K (He.ga K "_law_inputs")) := fun_at (st := s__law_inputs) e7 k7
  have m7 : mg "_law_inputs" = some (.ref (He.ga K "_law_inputs")) := He.glo_ok X G (cf.fact 7 (f := .glo "_law_inputs") rfl)
  have b7 : Binds K (fdAt K (He.ga K "_law_inputs")) ["_law_thing"] [] := F7.binds fun _ _ _ _ _ _ us hl => match us, hl with | [_], _ => rfl
  obtain ⟨_, _, _, _, _, _, _, _, _, e8, k8⟩ := cf.def_ 8 rfl
  have F8 : Fun K "_law_others" "_law_others" s__law_others (He.ga K "_law_others") (fdAt K (He.ga K "_law_others")) := fun_at (st := s__law_others) e8 k8
  have m8 : mg "_law_others" = some (.ref (He.ga K "_law_others")) := He.glo_ok X G (cf.fact 8 (f := .glo "_law_others") rfl)
  have b8 : Binds K (fdAt K (He.ga K "_law_others")) ["_law_thing"] [] := F8.binds fun _ _ _ _ _ _ us hl => match us, hl with | [_], _ => rfl
  obtain ⟨_, _, _, _, _, _, _, _, _, e9, k9⟩ := cf.def_ 9 rfl
  have F9 : Fun K "_law_named_right" "_law_named_right" s__law_named_right (He.ga K "_law_named_right") (fdAt K (He.ga K "_law_named_right")) := fun_at (st := s__law_named_right) e9 k9
  have m9 : mg "_law_named_right" = some (.ref (He.ga K "_law_named_right")) := He.glo_ok X G (cf.fact 9 (f := .glo "_law_named_right") rfl)
  have b9 : Binds K (fdAt K (He.ga K "_law_named_right")) ["_law_thing"] [] := F9.binds fun _ _ _ _ _ _ us hl => match us, hl with | [_], _ => rfl
  obtain ⟨_, _, _, _, _, _, _, _, _, e10, k10⟩ := cf.def_ 10 rfl
  have F10 : Fun K "_law_pairs_right" "_law_pairs_right" s__law_pairs_right (He.ga K "_law_pairs_right") (fdAt K (He.ga K "_law_pairs_right")) := fun_at (st := s__law_pairs_right) e10 k10
  have m10 : mg "_law_pairs_right" = some (.ref (He.ga K "_law_pairs_right")) := He.glo_ok X G (cf.fact 10 (f := .glo "_law_pairs_right") rfl)
  have b10 : Binds K (fdAt K (He.ga K "_law_pairs_right")) ["_law_thing", "_law_more"] [] := F10.binds fun _ _ _ _ _ _ us hl => match us, hl with | [_, _], _ => rfl
  obtain ⟨_, _, _, _, _, _, _, _, _, e11, k11⟩ := cf.def_ 11 rfl
  have F11 : Fun K "law" "law" s_law (He.ga K "law") (fdAt K (He.ga K "law")) := fun_at (st := s_law) e11 k11
  have m11 : mg "law" = some (.ref (He.ga K "law")) := He.glo_ok X G (cf.fact 11 (f := .glo "law") rfl)
  have b11 : Binds K (fdAt K (He.ga K "law")) ["_law_script"] [] := F11.binds fun _ _ _ _ _ _ us hl => match us, hl with | [_], _ => rfl
  have F_BadRate : Fun K "__init__" "BadRate.__init__" sI_BadRate (Ix K 3) (fdAt K (Ix K 3)) := by
    obtain ⟨_, _, _, _, _, _, _, _, _, e, k⟩ := cf.def_ 12 rfl
    have e2 : He.fAd K ("BadRate", some "__init__") = Ix K 3 := by
      show He.ma K (He.ga K "BadRate") "__init__" = Ix K 3
      rw [show He.ga K "BadRate" = Cx K 3 from ga_of (nsC 3 (by decide))]
      rfl
    have e := e2 ▸ e
    exact fun_at (st := sI_BadRate) e k
  have F_BadName : Fun K "__init__" "BadName.__init__" sI_BadName (Ix K 4) (fdAt K (Ix K 4)) := by
    obtain ⟨_, _, _, _, _, _, _, _, _, e, k⟩ := cf.def_ 13 rfl
    have e2 : He.fAd K ("BadName", some "__init__") = Ix K 4 := by
      show He.ma K (He.ga K "BadName") "__init__" = Ix K 4
      rw [show He.ga K "BadName" = Cx K 4 from ga_of (nsC 4 (by decide))]
      rfl
    have e := e2 ▸ e
    exact fun_at (st := sI_BadName) e k
  have F_BadTrip : Fun K "__init__" "BadTrip.__init__" sI_BadTrip (Ix K 5) (fdAt K (Ix K 5)) := by
    obtain ⟨_, _, _, _, _, _, _, _, _, e, k⟩ := cf.def_ 14 rfl
    have e2 : He.fAd K ("BadTrip", some "__init__") = Ix K 5 := by
      show He.ma K (He.ga K "BadTrip") "__init__" = Ix K 5
      rw [show He.ga K "BadTrip" = Cx K 5 from ga_of (nsC 5 (by decide))]
      rfl
    have e := e2 ▸ e
    exact fun_at (st := sI_BadTrip) e k
  have F_BadTour : Fun K "__init__" "BadTour.__init__" sI_BadTour (Ix K 6) (fdAt K (Ix K 6)) := by
    obtain ⟨_, _, _, _, _, _, _, _, _, e, k⟩ := cf.def_ 15 rfl
    have e2 : He.fAd K ("BadTour", some "__init__") = Ix K 6 := by
      show He.ma K (He.ga K "BadTour") "__init__" = Ix K 6
      rw [show He.ga K "BadTour" = Cx K 6 from ga_of (nsC 6 (by decide))]
      rfl
    have e := e2 ▸ e
    exact fun_at (st := sI_BadTour) e k
  have F_BadStand : Fun K "__init__" "BadStand.__init__" sI_BadStand (Ix K 7) (fdAt K (Ix K 7)) := by
    obtain ⟨_, _, _, _, _, _, _, _, _, e, k⟩ := cf.def_ 16 rfl
    have e2 : He.fAd K ("BadStand", some "__init__") = Ix K 7 := by
      show He.ma K (He.ga K "BadStand") "__init__" = Ix K 7
      rw [show He.ga K "BadStand" = Cx K 7 from ga_of (nsC 7 (by decide))]
      rfl
    have e := e2 ▸ e
    exact fun_at (st := sI_BadStand) e k
  have F_BadCount : Fun K "__init__" "BadCount.__init__" sI_BadCount (Ix K 8) (fdAt K (Ix K 8)) := by
    obtain ⟨_, _, _, _, _, _, _, _, _, e, k⟩ := cf.def_ 17 rfl
    have e2 : He.fAd K ("BadCount", some "__init__") = Ix K 8 := by
      show He.ma K (He.ga K "BadCount") "__init__" = Ix K 8
      rw [show He.ga K "BadCount" = Cx K 8 from ga_of (nsC 8 (by decide))]
      rfl
    have e := e2 ▸ e
    exact fun_at (st := sI_BadCount) e k
  have F_BadOrder : Fun K "__init__" "BadOrder.__init__" sI_BadOrder (Ix K 9) (fdAt K (Ix K 9)) := by
    obtain ⟨_, _, _, _, _, _, _, _, _, e, k⟩ := cf.def_ 18 rfl
    have e2 : He.fAd K ("BadOrder", some "__init__") = Ix K 9 := by
      show He.ma K (He.ga K "BadOrder") "__init__" = Ix K 9
      rw [show He.ga K "BadOrder" = Cx K 9 from ga_of (nsC 9 (by decide))]
      rfl
    have e := e2 ▸ e
    exact fun_at (st := sI_BadOrder) e k
  have F_BadLoads : Fun K "__init__" "BadLoads.__init__" sI_BadLoads (Ix K 10) (fdAt K (Ix K 10)) := by
    obtain ⟨_, _, _, _, _, _, _, _, _, e, k⟩ := cf.def_ 19 rfl
    have e2 : He.fAd K ("BadLoads", some "__init__") = Ix K 10 := by
      show He.ma K (He.ga K "BadLoads") "__init__" = Ix K 10
      rw [show He.ga K "BadLoads" = Cx K 10 from ga_of (nsC 10 (by decide))]
      rfl
    have e := e2 ▸ e
    exact fun_at (st := sI_BadLoads) e k
  have F_BadWord : Fun K "__init__" "BadWord.__init__" sI_BadWord (Ix K 11) (fdAt K (Ix K 11)) := by
    obtain ⟨_, _, _, _, _, _, _, _, _, e, k⟩ := cf.def_ 20 rfl
    have e2 : He.fAd K ("BadWord", some "__init__") = Ix K 11 := by
      show He.ma K (He.ga K "BadWord") "__init__" = Ix K 11
      rw [show He.ga K "BadWord" = Cx K 11 from ga_of (nsC 11 (by decide))]
      rfl
    have e := e2 ▸ e
    exact fun_at (st := sI_BadWord) e k
  have F_BadRule : Fun K "__init__" "BadRule.__init__" sI_BadRule (Ix K 12) (fdAt K (Ix K 12)) := by
    obtain ⟨_, _, _, _, _, _, _, _, _, e, k⟩ := cf.def_ 21 rfl
    have e2 : He.fAd K ("BadRule", some "__init__") = Ix K 12 := by
      show He.ma K (He.ga K "BadRule") "__init__" = Ix K 12
      rw [show He.ga K "BadRule" = Cx K 12 from ga_of (nsC 12 (by decide))]
      rfl
    have e := e2 ▸ e
    exact fun_at (st := sI_BadRule) e k
  have F_BadLog : Fun K "__init__" "BadLog.__init__" sI_BadLog (Ix K 13) (fdAt K (Ix K 13)) := by
    obtain ⟨_, _, _, _, _, _, _, _, _, e, k⟩ := cf.def_ 22 rfl
    have e2 : He.fAd K ("BadLog", some "__init__") = Ix K 13 := by
      show He.ma K (He.ga K "BadLog") "__init__" = Ix K 13
      rw [show He.ga K "BadLog" = Cx K 13 from ga_of (nsC 13 (by decide))]
      rfl
    have e := e2 ▸ e
    exact fun_at (st := sI_BadLog) e k
  have F_BadText : Fun K "__init__" "BadText.__init__" sI_BadText (Ix K 14) (fdAt K (Ix K 14)) := by
    obtain ⟨_, _, _, _, _, _, _, _, _, e, k⟩ := cf.def_ 23 rfl
    have e2 : He.fAd K ("BadText", some "__init__") = Ix K 14 := by
      show He.ma K (He.ga K "BadText") "__init__" = Ix K 14
      rw [show He.ga K "BadText" = Cx K 14 from ga_of (nsC 14 (by decide))]
      rfl
    have e := e2 ▸ e
    exact fun_at (st := sI_BadText) e k
  have F_BadLine : Fun K "__init__" "BadLine.__init__" sI_BadLine (Ix K 15) (fdAt K (Ix K 15)) := by
    obtain ⟨_, _, _, _, _, _, _, _, _, e, k⟩ := cf.def_ 24 rfl
    have e2 : He.fAd K ("BadLine", some "__init__") = Ix K 15 := by
      show He.ma K (He.ga K "BadLine") "__init__" = Ix K 15
      rw [show He.ga K "BadLine" = Cx K 15 from ga_of (nsC 15 (by decide))]
      rfl
    have e := e2 ▸ e
    exact fun_at (st := sI_BadLine) e k
  have F_NoYard : Fun K "__init__" "NoYard.__init__" sI_NoYard (Ix K 16) (fdAt K (Ix K 16)) := by
    obtain ⟨_, _, _, _, _, _, _, _, _, e, k⟩ := cf.def_ 25 rfl
    have e2 : He.fAd K ("NoYard", some "__init__") = Ix K 16 := by
      show He.ma K (He.ga K "NoYard") "__init__" = Ix K 16
      rw [show He.ga K "NoYard" = Cx K 16 from ga_of (nsC 16 (by decide))]
      rfl
    have e := e2 ▸ e
    exact fun_at (st := sI_NoYard) e k
  have F_Unbalanced : Fun K "__init__" "Unbalanced.__init__" sI_Unbalanced (Ix K 17) (fdAt K (Ix K 17)) := by
    obtain ⟨_, _, _, _, _, _, _, _, _, e, k⟩ := cf.def_ 26 rfl
    have e2 : He.fAd K ("Unbalanced", some "__init__") = Ix K 17 := by
      show He.ma K (He.ga K "Unbalanced") "__init__" = Ix K 17
      rw [show He.ga K "Unbalanced" = Cx K 17 from ga_of (nsC 17 (by decide))]
      rfl
    have e := e2 ▸ e
    exact fun_at (st := sI_Unbalanced) e k
  have F_NoTrailer : Fun K "__init__" "NoTrailer.__init__" sI_NoTrailer (Ix K 18) (fdAt K (Ix K 18)) := by
    obtain ⟨_, _, _, _, _, _, _, _, _, e, k⟩ := cf.def_ 27 rfl
    have e2 : He.fAd K ("NoTrailer", some "__init__") = Ix K 18 := by
      show He.ma K (He.ga K "NoTrailer") "__init__" = Ix K 18
      rw [show He.ga K "NoTrailer" = Cx K 18 from ga_of (nsC 18 (by decide))]
      rfl
    have e := e2 ▸ e
    exact fun_at (st := sI_NoTrailer) e k
  have F_LeftStanding : Fun K "__init__" "LeftStanding.__init__" sI_LeftStanding (Ix K 19) (fdAt K (Ix K 19)) := by
    obtain ⟨_, _, _, _, _, _, _, _, _, e, k⟩ := cf.def_ 28 rfl
    have e2 : He.fAd K ("LeftStanding", some "__init__") = Ix K 19 := by
      show He.ma K (He.ga K "LeftStanding") "__init__" = Ix K 19
      rw [show He.ga K "LeftStanding" = Cx K 19 from ga_of (nsC 19 (by decide))]
      rfl
    have e := e2 ▸ e
    exact fun_at (st := sI_LeftStanding) e k
  have F_Unsafe : Fun K "__init__" "Unsafe.__init__" sI_Unsafe (Ix K 20) (fdAt K (Ix K 20)) := by
    obtain ⟨_, _, _, _, _, _, _, _, _, e, k⟩ := cf.def_ 29 rfl
    have e2 : He.fAd K ("Unsafe", some "__init__") = Ix K 20 := by
      show He.ma K (He.ga K "Unsafe") "__init__" = Ix K 20
      rw [show He.ga K "Unsafe" = Cx K 20 from ga_of (nsC 20 (by decide))]
      rfl
    have e := e2 ▸ e
    exact fun_at (st := sI_Unsafe) e k
  have F_Strands : Fun K "__init__" "Strands.__init__" sI_Strands (Ix K 21) (fdAt K (Ix K 21)) := by
    obtain ⟨_, _, _, _, _, _, _, _, _, e, k⟩ := cf.def_ 30 rfl
    have e2 : He.fAd K ("Strands", some "__init__") = Ix K 21 := by
      show He.ma K (He.ga K "Strands") "__init__" = Ix K 21
      rw [show He.ga K "Strands" = Cx K 21 from ga_of (nsC 21 (by decide))]
      rfl
    have e := e2 ▸ e
    exact fun_at (st := sI_Strands) e k
  have F_TooMany : Fun K "__init__" "TooMany.__init__" sI_TooMany (Ix K 22) (fdAt K (Ix K 22)) := by
    obtain ⟨_, _, _, _, _, _, _, _, _, e, k⟩ := cf.def_ 31 rfl
    have e2 : He.fAd K ("TooMany", some "__init__") = Ix K 22 := by
      show He.ma K (He.ga K "TooMany") "__init__" = Ix K 22
      rw [show He.ga K "TooMany" = Cx K 22 from ga_of (nsC 22 (by decide))]
      rfl
    have e := e2 ▸ e
    exact fun_at (st := sI_TooMany) e k
  unfold chkT at ct
  rw [Bool.and_eq_true, decide_eq_true_eq] at ct
  have TCc : TC K mg (He.ga K "copied") := ⟨⟨_, PySem.W.mg_of X G ct.2, ct.1⟩, fr 0 _ rfl, fr 2 _ rfl, fr 3 _ rfl, fr 4 _ rfl, m0⟩
  have e := hfa.symm.trans m11
  cases e
  refine ⟨fdAt K (He.ga K "law"), fun s u => ?_, fun base _ _ hsy => ?_⟩
  · obtain ⟨oc, od, kV, doc, pm, an, cdv, ct, osl, e, lk, hcd⟩ := F11.ex
    rw [e]
    exact .of_eq rfl
  have T : TX P w K mg base (Cx K) (Ix K) (fun i => fdAt K (Ix K i)) := {
    sys := hsy,
    n_isinstance := fr 0 _ rfl,
    n_repr := fr 1 _ rfl,
    n_list := fr 2 _ rfl,
    n_tuple := fr 3 _ rfl,
    n_dict := fr 4 _ rfl,
    n_int := fr 5 _ rfl,
    n_len := fr 6 _ rfl,
    n_abs := fr 7 _ rfl,
    n_range := fr 8 _ rfl,
    n_ValueError := fr 9 _ rfl,
    get := fun i hi => getB_of (allR c4 i hi),
    kit := fun i j hi hj => of_decide_eq_true (allR (allR c5 i hi) j hj),
    kitP := fun i hi => of_decide_eq_true (allR c6 i hi),
    kitV := of_decide_eq_true c7,
    m_BadInput := gl 0 (by decide),
    m_Refused := gl 1 (by decide),
    m_NoAnswer := gl 2 (by decide),
    m_BadRate := gl 3 (by decide),
    m_BadName := gl 4 (by decide),
    m_BadTrip := gl 5 (by decide),
    m_BadTour := gl 6 (by decide),
    m_BadStand := gl 7 (by decide),
    m_BadCount := gl 8 (by decide),
    m_BadOrder := gl 9 (by decide),
    m_BadLoads := gl 10 (by decide),
    m_BadWord := gl 11 (by decide),
    m_BadRule := gl 12 (by decide),
    m_BadLog := gl 13 (by decide),
    m_BadText := gl 14 (by decide),
    m_BadLine := gl 15 (by decide),
    m_NoYard := gl 16 (by decide),
    m_Unbalanced := gl 17 (by decide),
    m_NoTrailer := gl 18 (by decide),
    m_LeftStanding := gl 19 (by decide),
    m_Unsafe := gl 20 (by decide),
    m_Strands := gl 21 (by decide),
    m_TooMany := gl 22 (by decide),
    m_NoDeed := gl 23 (by decide),
    m_NoDepot := gl 24 (by decide),
    m_PullError := gl 25 (by decide),
    mk_BadRate := omk 3 (by decide),
    ok_BadRate := ok_BadRate F_BadRate TCc F0 b0 (omk 3 (by decide)).o (nos (3, "part") (by decide)),
    kp_BadRate := kb_of F_BadRate (fun _ _ _ _ _ _ us ws hl hw => match us, hl, ws, hw with | [_, _], _, [], _ => rfl) (fun r _ => r),
    kk_BadRate := kb_of F_BadRate (fun _ _ _ _ _ _ us ws hl hw => match us, hl, ws, hw with | [_], _, [_], _ => rfl) (fun r z => r.append z),
    no_BadRate_part := nos (3, "part") (by decide),
    mk_BadName := omk 4 (by decide),
    ok_BadName := ok_BadName F_BadName TCc F0 b0 (omk 4 (by decide)).o (nos (4, "value") (by decide)),
    kp_BadName := kb_of F_BadName (fun _ _ _ _ _ _ us ws hl hw => match us, hl, ws, hw with | [_, _], _, [], _ => rfl) (fun r _ => r),
    kk_BadName := kb_of F_BadName (fun _ _ _ _ _ _ us ws hl hw => match us, hl, ws, hw with | [_], _, [_], _ => rfl) (fun r z => r.append z),
    no_BadName_value := nos (4, "value") (by decide),
    mk_BadTrip := omk 5 (by decide),
    ok_BadTrip := ok_BadTrip F_BadTrip TCc F0 b0 (omk 5 (by decide)).o (nos (5, "part") (by decide)),
    kp_BadTrip := kb_of F_BadTrip (fun _ _ _ _ _ _ us ws hl hw => match us, hl, ws, hw with | [_, _], _, [], _ => rfl) (fun r _ => r),
    kk_BadTrip := kb_of F_BadTrip (fun _ _ _ _ _ _ us ws hl hw => match us, hl, ws, hw with | [_], _, [_], _ => rfl) (fun r z => r.append z),
    no_BadTrip_part := nos (5, "part") (by decide),
    mk_BadTour := omk 6 (by decide),
    ok_BadTour := ok_BadTour F_BadTour TCc F0 b0 (omk 6 (by decide)).o (nos (6, "part") (by decide)),
    kp_BadTour := kb_of F_BadTour (fun _ _ _ _ _ _ us ws hl hw => match us, hl, ws, hw with | [_, _], _, [], _ => rfl) (fun r _ => r),
    kk_BadTour := kb_of F_BadTour (fun _ _ _ _ _ _ us ws hl hw => match us, hl, ws, hw with | [_], _, [_], _ => rfl) (fun r z => r.append z),
    no_BadTour_part := nos (6, "part") (by decide),
    mk_BadStand := omk 7 (by decide),
    ok_BadStand := ok_BadStand F_BadStand TCc F0 b0 (omk 7 (by decide)).o (nos (7, "part") (by decide)),
    kp_BadStand := kb_of F_BadStand (fun _ _ _ _ _ _ us ws hl hw => match us, hl, ws, hw with | [_, _], _, [], _ => rfl) (fun r _ => r),
    kk_BadStand := kb_of F_BadStand (fun _ _ _ _ _ _ us ws hl hw => match us, hl, ws, hw with | [_], _, [_], _ => rfl) (fun r z => r.append z),
    no_BadStand_part := nos (7, "part") (by decide),
    mk_BadCount := omk 8 (by decide),
    ok_BadCount := ok_BadCount F_BadCount TCc F0 b0 (omk 8 (by decide)).o (nos (8, "value") (by decide)),
    kp_BadCount := kb_of F_BadCount (fun _ _ _ _ _ _ us ws hl hw => match us, hl, ws, hw with | [_, _], _, [], _ => rfl) (fun r _ => r),
    kk_BadCount := kb_of F_BadCount (fun _ _ _ _ _ _ us ws hl hw => match us, hl, ws, hw with | [_], _, [_], _ => rfl) (fun r z => r.append z),
    no_BadCount_value := nos (8, "value") (by decide),
    mk_BadOrder := omk 9 (by decide),
    ok_BadOrder := ok_BadOrder F_BadOrder TCc F0 b0 (omk 9 (by decide)).o (nos (9, "part") (by decide)),
    kp_BadOrder := kb_of F_BadOrder (fun _ _ _ _ _ _ us ws hl hw => match us, hl, ws, hw with | [_, _], _, [], _ => rfl) (fun r _ => r),
    kk_BadOrder := kb_of F_BadOrder (fun _ _ _ _ _ _ us ws hl hw => match us, hl, ws, hw with | [_], _, [_], _ => rfl) (fun r z => r.append z),
    no_BadOrder_part := nos (9, "part") (by decide),
    mk_BadLoads := omk 10 (by decide),
    ok_BadLoads := ok_BadLoads F_BadLoads TCc F0 b0 (omk 10 (by decide)).o (nos (10, "at") (by decide)),
    kp_BadLoads := kb_of F_BadLoads (fun _ _ _ _ _ _ us ws hl hw => match us, hl, ws, hw with | [_, _], _, [], _ => rfl) (fun r _ => r),
    kk_BadLoads := kb_of F_BadLoads (fun _ _ _ _ _ _ us ws hl hw => match us, hl, ws, hw with | [_], _, [_], _ => rfl) (fun r z => r.append z),
    no_BadLoads_at := nos (10, "at") (by decide),
    mk_BadWord := omk 11 (by decide),
    ok_BadWord := ok_BadWord F_BadWord TCc F0 b0 (omk 11 (by decide)).o (nos (11, "value") (by decide)),
    kp_BadWord := kb_of F_BadWord (fun _ _ _ _ _ _ us ws hl hw => match us, hl, ws, hw with | [_, _], _, [], _ => rfl) (fun r _ => r),
    kk_BadWord := kb_of F_BadWord (fun _ _ _ _ _ _ us ws hl hw => match us, hl, ws, hw with | [_], _, [_], _ => rfl) (fun r z => r.append z),
    no_BadWord_value := nos (11, "value") (by decide),
    mk_BadRule := omk 12 (by decide),
    ok_BadRule := ok_BadRule F_BadRule TCc F0 b0 (omk 12 (by decide)).o (nos (12, "part") (by decide)),
    kp_BadRule := kb_of F_BadRule (fun _ _ _ _ _ _ us ws hl hw => match us, hl, ws, hw with | [_, _], _, [], _ => rfl) (fun r _ => r),
    kk_BadRule := kb_of F_BadRule (fun _ _ _ _ _ _ us ws hl hw => match us, hl, ws, hw with | [_], _, [_], _ => rfl) (fun r z => r.append z),
    no_BadRule_part := nos (12, "part") (by decide),
    mk_BadLog := omk 13 (by decide),
    ok_BadLog := ok_BadLog F_BadLog TCc F0 b0 (omk 13 (by decide)).o (nos (13, "at") (by decide)),
    kp_BadLog := kb_of F_BadLog (fun _ _ _ _ _ _ us ws hl hw => match us, hl, ws, hw with | [_, _], _, [], _ => rfl) (fun r _ => r),
    kk_BadLog := kb_of F_BadLog (fun _ _ _ _ _ _ us ws hl hw => match us, hl, ws, hw with | [_], _, [_], _ => rfl) (fun r z => r.append z),
    no_BadLog_at := nos (13, "at") (by decide),
    mk_BadText := omk 14 (by decide),
    ok_BadText := ok_BadText F_BadText TCc F0 b0 (omk 14 (by decide)).o (nos (14, "line") (by decide)) (nos (14, "word") (by decide)),
    kp_BadText := kb_of F_BadText (fun _ _ _ _ _ _ us ws hl hw => match us, hl, ws, hw with | [_, _, _], _, [], _ => rfl) (fun r _ => r),
    kk_BadText := kb_of F_BadText (fun _ _ _ _ _ _ us ws hl hw => match us, hl, ws, hw with | [_], _, [_, _], _ => rfl) (fun r z => r.append z.reverse),
    no_BadText_line := nos (14, "line") (by decide),
    no_BadText_word := nos (14, "word") (by decide),
    mk_BadLine := omk 15 (by decide),
    ok_BadLine := ok_BadLine F_BadLine TCc F0 b0 (omk 15 (by decide)).o (nos (15, "word") (by decide)),
    kp_BadLine := kb_of F_BadLine (fun _ _ _ _ _ _ us ws hl hw => match us, hl, ws, hw with | [_, _], _, [], _ => rfl) (fun r _ => r),
    kk_BadLine := kb_of F_BadLine (fun _ _ _ _ _ _ us ws hl hw => match us, hl, ws, hw with | [_], _, [_], _ => rfl) (fun r z => r.append z),
    no_BadLine_word := nos (15, "word") (by decide),
    mk_NoYard := omk 16 (by decide),
    ok_NoYard := ok_NoYard F_NoYard TCc F0 b0 (omk 16 (by decide)).o (nos (16, "yard") (by decide)),
    kp_NoYard := kb_of F_NoYard (fun _ _ _ _ _ _ us ws hl hw => match us, hl, ws, hw with | [_, _], _, [], _ => rfl) (fun r _ => r),
    kk_NoYard := kb_of F_NoYard (fun _ _ _ _ _ _ us ws hl hw => match us, hl, ws, hw with | [_], _, [_], _ => rfl) (fun r z => r.append z),
    no_NoYard_yard := nos (16, "yard") (by decide),
    mk_Unbalanced := omk 17 (by decide),
    ok_Unbalanced := ok_Unbalanced F_Unbalanced TCc F0 b0 (omk 17 (by decide)).o (nos (17, "yard") (by decide)),
    kp_Unbalanced := kb_of F_Unbalanced (fun _ _ _ _ _ _ us ws hl hw => match us, hl, ws, hw with | [_, _], _, [], _ => rfl) (fun r _ => r),
    kk_Unbalanced := kb_of F_Unbalanced (fun _ _ _ _ _ _ us ws hl hw => match us, hl, ws, hw with | [_], _, [_], _ => rfl) (fun r z => r.append z),
    no_Unbalanced_yard := nos (17, "yard") (by decide),
    mk_NoTrailer := omk 18 (by decide),
    ok_NoTrailer := ok_NoTrailer F_NoTrailer TCc F0 b0 (omk 18 (by decide)).o (nos (18, "yard") (by decide)),
    kp_NoTrailer := kb_of F_NoTrailer (fun _ _ _ _ _ _ us ws hl hw => match us, hl, ws, hw with | [_, _], _, [], _ => rfl) (fun r _ => r),
    kk_NoTrailer := kb_of F_NoTrailer (fun _ _ _ _ _ _ us ws hl hw => match us, hl, ws, hw with | [_], _, [_], _ => rfl) (fun r z => r.append z),
    no_NoTrailer_yard := nos (18, "yard") (by decide),
    mk_LeftStanding := omk 19 (by decide),
    ok_LeftStanding := ok_LeftStanding F_LeftStanding TCc F0 b0 (omk 19 (by decide)).o (nos (19, "index") (by decide)),
    kp_LeftStanding := kb_of F_LeftStanding (fun _ _ _ _ _ _ us ws hl hw => match us, hl, ws, hw with | [_, _], _, [], _ => rfl) (fun r _ => r),
    kk_LeftStanding := kb_of F_LeftStanding (fun _ _ _ _ _ _ us ws hl hw => match us, hl, ws, hw with | [_], _, [_], _ => rfl) (fun r z => r.append z),
    no_LeftStanding_index := nos (19, "index") (by decide),
    mk_Unsafe := omk 20 (by decide),
    ok_Unsafe := ok_Unsafe F_Unsafe TCc F0 b0 (omk 20 (by decide)).o (nos (20, "loads") (by decide)),
    kp_Unsafe := kb_of F_Unsafe (fun _ _ _ _ _ _ us ws hl hw => match us, hl, ws, hw with | [_, _], _, [], _ => rfl) (fun r _ => r),
    kk_Unsafe := kb_of F_Unsafe (fun _ _ _ _ _ _ us ws hl hw => match us, hl, ws, hw with | [_], _, [_], _ => rfl) (fun r z => r.append z),
    no_Unsafe_loads := nos (20, "loads") (by decide),
    mk_Strands := omk 21 (by decide),
    ok_Strands := ok_Strands F_Strands TCc F0 b0 (omk 21 (by decide)).o (nos (21, "loads") (by decide)),
    kp_Strands := kb_of F_Strands (fun _ _ _ _ _ _ us ws hl hw => match us, hl, ws, hw with | [_, _], _, [], _ => rfl) (fun r _ => r),
    kk_Strands := kb_of F_Strands (fun _ _ _ _ _ _ us ws hl hw => match us, hl, ws, hw with | [_], _, [_], _ => rfl) (fun r z => r.append z),
    no_Strands_loads := nos (21, "loads") (by decide),
    mk_TooMany := omk 22 (by decide),
    ok_TooMany := ok_TooMany F_TooMany TCc F0 b0 (omk 22 (by decide)).o (nos (22, "what") (by decide)) (nos (22, "most") (by decide)),
    kp_TooMany := kb_of F_TooMany (fun _ _ _ _ _ _ us ws hl hw => match us, hl, ws, hw with | [_, _, _], _, [], _ => rfl) (fun r _ => r),
    kk_TooMany := kb_of F_TooMany (fun _ _ _ _ _ _ us ws hl hw => match us, hl, ws, hw with | [_], _, [_, _], _ => rfl) (fun r z => r.append z.reverse),
    no_TooMany_what := nos (22, "what") (by decide),
    no_TooMany_most := nos (22, "most") (by decide),
    e_BadInput := (bar 0 (by decide)).1,
    kc_BadInput := (bar 0 (by decide)).2,
    e_Refused := (bar 1 (by decide)).1,
    kc_Refused := (bar 1 (by decide)).2,
    e_NoAnswer := (bar 2 (by decide)).1,
    kc_NoAnswer := (bar 2 (by decide)).2,
    e_NoDeed := (bar 23 (by decide)).1,
    kc_NoDeed := (bar 23 (by decide)).2,
    e_NoDepot := (bar 24 (by decide)).1,
    kc_NoDepot := (bar 24 (by decide)).2,
    e_PullError := (bar 25 (by decide)).1,
    kc_PullError := (bar 25 (by decide)).2 }
  have G_law_pen : CalG P w K mg base 2 "_law_pen" ["_law_script"] (spPen K) := ⟨⟨_, _, ok_law_pen F1 T , m1, F1.kp, b1⟩⟩
  have G_law_draw : CalG P w K mg base 2 "_law_draw" ["_law_pen_here", "_law_many"] (spDraw 1073741824) := ⟨⟨_, _, ok_law_draw F2 T , m2, F2.kp, b2⟩⟩
  have G_law_pick : CalG P w K mg base 3 "_law_pick" ["_law_pen_here", "_law_some"] (spPick K) := ⟨⟨_, _, ok_law_pick F3 T G_law_draw, m3, F3.kp, b3⟩⟩
  have G_law_value : CalG P w K mg base 4 "_law_value" ["_law_pen_here"] (spVal K Th) := ⟨⟨_, _, ok_law_value F4 T G_law_draw G_law_pick, m4, F4.kp, b4⟩⟩
  have G_law_signs : CalG P w K mg base 2 "_law_signs" ["_law_error"] (Pr K 1 (Rsig (Cx K) signsD)) := ⟨⟨_, _, ok_law_signs F5 T , m5, F5.kp, b5⟩⟩
  have G_law_kinds : CalG P w K mg base 3 "_law_kinds" ["_law_error"] (Pr K 1 (Rsig (Cx K) kindsD)) := ⟨⟨_, _, ok_law_kinds F6 T G_law_signs, m6, F6.kp, b6⟩⟩
  have G_law_inputs : CalG P w K mg base 7 "_law_inputs" ["_law_thing"] (Pr K 1 (Rrow (Cx K) insD)) := ⟨⟨_, _, ok_law_inputs F7 T , m7, F7.kp, b7⟩⟩
  have G_law_others : CalG P w K mg base 7 "_law_others" ["_law_thing"] (Pr K 1 (Rrow (Cx K) othD)) := ⟨⟨_, _, ok_law_others F8 T , m8, F8.kp, b8⟩⟩
  have G_law_named_right : CalG P w K mg base 7 "_law_named_right" ["_law_thing"] (Pr K 1 (Rth 1)) := ⟨⟨_, _, ok_law_named_right F9 T , m9, F9.kp, b9⟩⟩
  have G_law_pairs_right : CalG P w K mg base 7 "_law_pairs_right" ["_law_thing", "_law_more"] (Pr K 2 (Rth 2)) := ⟨⟨_, _, ok_law_pairs_right F10 T G_law_kinds, m10, F10.kp, b10⟩⟩
  exact ok_law F11 T G_law_pen G_law_value G_law_inputs G_law_others G_law_kinds G_law_pairs_right G_law_named_right
end K01

set_option Elab.async false
set_option linter.all false
set_option maxRecDepth 100000
set_option maxHeartbeats 4000000
namespace K01
open PySem PySem.Spec PyProof.Rows L2 GL
/-- the walk of the whole law, from two computed answers of the written part -/
theorem end_k01 {l : PySem.W.OpenLaw} {q : Program} {loose : List Str} {XP : (Str → Option Value) → Heap → Prop} {YP : World → Heap → Prop} {d : DefRec} {K : Params → PySem.W.Frag}
    (hn : l.most = some 63) (hdf : d.params.defaults = []) (hd : d.name = "law") (hi : importsNone q = true) (hY : ∀ (w : World) (h : Heap), YP w h → (K w.params).In h) (c1 : ∀ w : World, chk (K w.params) = true) (c2 : ∀ w : World, He.obsE fa fns (K w.params) = He.valE fns) :
    PySem.W.WalkO q loose XP YP l.row.toRowW d [] (fun f vs => PySem.call f vs) :=
  GL.walk_g (n := 63) (k := 8) (x := "_law_script") (K := K) (CX := fun _ => L2.CX0) (sp := fun w => spLaw (K w.params)) hn (by decide) hdf ⟨rfl, by decide, by decide⟩ hY hi
    (fun w mg f h KX G hmg => all_mk KX G (by rw [hd] at hmg; exact hmg) (c1 w) (c2 w)) (fun w H a ns hl ho hs => ⟨a, ns, rfl, hs, hl, fun _ => rfl⟩) (fun _ _ _ _ _ z => z)
end K01

open PySem PySem.W PyProof.Rows
set_option maxRecDepth 100000 in
set_option maxHeartbeats 0 in
theorem PySem.Challenge.cw_emptypulls_k01_errors_and_their_fields_holds : PySem.Challenge.rw_emptypulls_k01_errors_and_their_fields.Holds := by
  w_on; o_law; k_head; (case hw => w_witness2)
  k_fill
  exact K01.end_k01 rfl rfl rfl (by rfl) (fun w h Y => PySem.W.kIn_of Y) (fun w => by kernel_rfl) (fun w => by kernel_rfl)
