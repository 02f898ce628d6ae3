import PyProof.Rows.All
import Wide.All
import OpenK.AllK
import Wide.FinOn
import HandS.ForMost
import HandS.ForExc
import HandS.ExcInit
import HandS.ExcField
import HandS.IsInst
import HandS.ExcIs
import HandS.HotCalls
import HandS.StrMore
import HandS.Codes
import HandS.Wide
import HandS.Evl
import HandS.TupLe
import HandS.TupAny
import HandS.ClsMeth
import HandS.ReplaceLit
import HandS.ReplaceDef
import HandS.ReplaceList
import HandS.Strs
import HandS.Set
import HandS.SetFor
import HandS.DictComp
import HandS.Style
import HandS.Star
import HandS.WordsDict
import KE.KEqNest
import PyProof.Rows.SortShellAny
import HandS.Zip
import HandS.SetKeys
import KE.KDictZip
import KE.KExcIs
import HandS.ExcValue
import HandS.Defaults
import PySem.Challenge.RW_openroads_k31_errors_made
set_option Elab.async false
set_option linter.all false
set_option maxRecDepth 100000
set_option maxHeartbeats 4000000
namespace Op
open PySem PySem.Spec PyProof.Rows L2
def top (i : Nat) : Stmt := PySem.Challenge.pw_openroads_k31_errors_made.main.body.getD i (.Pass ⟨0, 0, 0, 0⟩)
abbrev s_law_stream : Stmt := (top 25)
abbrev N_law_stream : List Str := ["_law_script", "_law_k", "_law_cell"]
abbrev p_law_stream : List Str := ["_law_script", "_law_k"]
theorem sc_law_stream : FnScope N_law_stream p_law_stream (defScope s_law_stream) := ⟨rfl, rfl, rfl, by decide +kernel, rfl, by decide +kernel, by decide +kernel⟩
abbrev s_law_draw : Stmt := (top 26)
abbrev N_law_draw : List Str := ["_law_stream_here", "_law_many", "_law_digit", "_law_spread"]
abbrev p_law_draw : List Str := ["_law_stream_here", "_law_many"]
theorem sc_law_draw : FnScope N_law_draw p_law_draw (defScope s_law_draw) := ⟨rfl, rfl, rfl, by decide +kernel, rfl, by decide +kernel, by decide +kernel⟩
abbrev s_law_pick : Stmt := (top 27)
abbrev N_law_pick : List Str := ["_law_stream_here", "_law_things"]
abbrev p_law_pick : List Str := ["_law_stream_here", "_law_things"]
theorem sc_law_pick : FnScope N_law_pick p_law_pick (defScope s_law_pick) := ⟨rfl, rfl, rfl, by decide +kernel, rfl, by decide +kernel, by decide +kernel⟩
abbrev s_law_with_text : Stmt := (top 28)
abbrev N_law_with_text : List Str := ["_law_thing", "_law_rows"]
abbrev p_law_with_text : List Str := ["_law_thing"]
theorem sc_law_with_text : FnScope N_law_with_text p_law_with_text (defScope s_law_with_text) := ⟨rfl, rfl, rfl, by decide +kernel, rfl, by decide +kernel, by decide +kernel⟩
abbrev s_law_made : Stmt := (top 29)
abbrev N_law_made : List Str := ["_law_thing", "_law_found"]
abbrev p_law_made : List Str := ["_law_thing"]
theorem sc_law_made : FnScope N_law_made p_law_made (defScope s_law_made) := ⟨rfl, rfl, rfl, by decide +kernel, rfl, by decide +kernel, by decide +kernel⟩
abbrev s_law_kinds : Stmt := (top 30)
abbrev N_law_kinds : List Str := ["_law_one", "_law_first"]
abbrev p_law_kinds : List Str := ["_law_one"]
theorem sc_law_kinds : FnScope N_law_kinds p_law_kinds (defScope s_law_kinds) := ⟨rfl, rfl, rfl, by decide +kernel, rfl, by decide +kernel, by decide +kernel⟩
abbrev s_BadAtom___init__ : Stmt := (inClass (top 2) 0)
abbrev N_BadAtom___init__ : List Str := ["self", "text"]
abbrev p_BadAtom___init__ : List Str := ["self", "text"]
theorem sc_BadAtom___init__ : FnScope N_BadAtom___init__ p_BadAtom___init__ (defScope s_BadAtom___init__) := ⟨rfl, rfl, rfl, by decide +kernel, rfl, by decide +kernel, by decide +kernel⟩
abbrev s_BadForm___init__ : Stmt := (inClass (top 3) 0)
abbrev N_BadForm___init__ : List Str := ["self", "path"]
abbrev p_BadForm___init__ : List Str := ["self", "path"]
theorem sc_BadForm___init__ : FnScope N_BadForm___init__ p_BadForm___init__ (defScope s_BadForm___init__) := ⟨rfl, rfl, rfl, by decide +kernel, rfl, by decide +kernel, by decide +kernel⟩
abbrev s_BadKey___init__ : Stmt := (inClass (top 4) 0)
abbrev N_BadKey___init__ : List Str := ["self", "key"]
abbrev p_BadKey___init__ : List Str := ["self", "key"]
theorem sc_BadKey___init__ : FnScope N_BadKey___init__ p_BadKey___init__ (defScope s_BadKey___init__) := ⟨rfl, rfl, rfl, by decide +kernel, rfl, by decide +kernel, by decide +kernel⟩
abbrev s_BadText___init__ : Stmt := (inClass (top 5) 0)
abbrev N_BadText___init__ : List Str := ["self", "line"]
abbrev p_BadText___init__ : List Str := ["self", "line"]
theorem sc_BadText___init__ : FnScope N_BadText___init__ p_BadText___init__ (defScope s_BadText___init__) := ⟨rfl, rfl, rfl, by decide +kernel, rfl, by decide +kernel, by decide +kernel⟩
abbrev s_BadHeap___init__ : Stmt := (inClass (top 6) 0)
abbrev N_BadHeap___init__ : List Str := ["self", "index"]
abbrev p_BadHeap___init__ : List Str := ["self", "index"]
theorem sc_BadHeap___init__ : FnScope N_BadHeap___init__ p_BadHeap___init__ (defScope s_BadHeap___init__) := ⟨rfl, rfl, rfl, by decide +kernel, rfl, by decide +kernel, by decide +kernel⟩
abbrev s_NoWay___init__ : Stmt := (inClass (top 8) 0)
abbrev N_NoWay___init__ : List Str := ["self", "step"]
abbrev p_NoWay___init__ : List Str := ["self", "step"]
theorem sc_NoWay___init__ : FnScope N_NoWay___init__ p_NoWay___init__ (defScope s_NoWay___init__) := ⟨rfl, rfl, rfl, by decide +kernel, rfl, by decide +kernel, by decide +kernel⟩
abbrev s_BadRole___init__ : Stmt := (inClass (top 10) 0)
abbrev N_BadRole___init__ : List Str := ["self", "field"]
abbrev p_BadRole___init__ : List Str := ["self", "field"]
theorem sc_BadRole___init__ : FnScope N_BadRole___init__ p_BadRole___init__ (defScope s_BadRole___init__) := ⟨rfl, rfl, rfl, by decide +kernel, rfl, by decide +kernel, by decide +kernel⟩
abbrev s_NotFit___init__ : Stmt := (inClass (top 11) 0)
abbrev N_NotFit___init__ : List Str := ["self", "index"]
abbrev p_NotFit___init__ : List Str := ["self", "index"]
theorem sc_NotFit___init__ : FnScope N_NotFit___init__ p_NotFit___init__ (defScope s_NotFit___init__) := ⟨rfl, rfl, rfl, by decide +kernel, rfl, by decide +kernel, by decide +kernel⟩
abbrev s_BadBook___init__ : Stmt := (inClass (top 12) 0)
abbrev N_BadBook___init__ : List Str := ["self", "field"]
abbrev p_BadBook___init__ : List Str := ["self", "field"]
theorem sc_BadBook___init__ : FnScope N_BadBook___init__ p_BadBook___init__ (defScope s_BadBook___init__) := ⟨rfl, rfl, rfl, by decide +kernel, rfl, by decide +kernel, by decide +kernel⟩
abbrev s_BadSitting___init__ : Stmt := (inClass (top 13) 0)
abbrev N_BadSitting___init__ : List Str := ["self", "index"]
abbrev p_BadSitting___init__ : List Str := ["self", "index"]
theorem sc_BadSitting___init__ : FnScope N_BadSitting___init__ p_BadSitting___init__ (defScope s_BadSitting___init__) := ⟨rfl, rfl, rfl, by decide +kernel, rfl, by decide +kernel, by decide +kernel⟩
abbrev s_NoSitting___init__ : Stmt := (inClass (top 14) 0)
abbrev N_NoSitting___init__ : List Str := ["self", "number"]
abbrev p_NoSitting___init__ : List Str := ["self", "number"]
theorem sc_NoSitting___init__ : FnScope N_NoSitting___init__ p_NoSitting___init__ (defScope s_NoSitting___init__) := ⟨rfl, rfl, rfl, by decide +kernel, rfl, by decide +kernel, by decide +kernel⟩
abbrev s_NotWaiting___init__ : Stmt := (inClass (top 16) 0)
abbrev N_NotWaiting___init__ : List Str := ["self", "number"]
abbrev p_NotWaiting___init__ : List Str := ["self", "number"]
theorem sc_NotWaiting___init__ : FnScope N_NotWaiting___init__ p_NotWaiting___init__ (defScope s_NotWaiting___init__) := ⟨rfl, rfl, rfl, by decide +kernel, rfl, by decide +kernel, by decide +kernel⟩
abbrev s_NotDone___init__ : Stmt := (inClass (top 19) 0)
abbrev N_NotDone___init__ : List Str := ["self", "place"]
abbrev p_NotDone___init__ : List Str := ["self", "place"]
theorem sc_NotDone___init__ : FnScope N_NotDone___init__ p_NotDone___init__ (defScope s_NotDone___init__) := ⟨rfl, rfl, rfl, by decide +kernel, rfl, by decide +kernel, by decide +kernel⟩
abbrev s_BadWishes___init__ : Stmt := (inClass (top 21) 0)
abbrev N_BadWishes___init__ : List Str := ["self", "index"]
abbrev p_BadWishes___init__ : List Str := ["self", "index"]
theorem sc_BadWishes___init__ : FnScope N_BadWishes___init__ p_BadWishes___init__ (defScope s_BadWishes___init__) := ⟨rfl, rfl, rfl, by decide +kernel, rfl, by decide +kernel, by decide +kernel⟩
abbrev s_law : Stmt := (top 31)
abbrev N_law : List Str := ["_law_script", "_law_stream_here", "_law_thing", "_law_first", "_law_second", "_law_made_here", "_law_k", "_law_j"]
abbrev p_law : List Str := ["_law_script"]
theorem sc_law : FnScope N_law p_law (defScope s_law) := ⟨rfl, rfl, rfl, by decide +kernel, rfl, by decide +kernel, by decide +kernel⟩
/-- what the top leaves of the built-in names and of its constants -/
structure Bl (K : PySem.W.Frag) (mg : Str → Option Value) : Prop where
  b_ValueError : mg "ValueError" = none
  b_abs : mg "abs" = none
  b_any : mg "any" = none
  b_int : mg "int" = none
  b_isinstance : mg "isinstance" = none
  b_len : mg "len" = none
  b_range : mg "range" = none
end Op
namespace Op
open PySem PySem.Spec PyProof.Rows L2
/-! ## defs of the module, and how they are called -/
/-- a def of the module, under its name -/
structure Df (K : PySem.W.Frag) (mg : Str → Option Value) (x : Str) (st : Stmt) (ps : List Str) : Prop where
  ex : ∃ (f : Addr) (fd : FuncData), Fun K x x st f fd ∧ mg x = some (.ref f) ∧ Binds K fd ps []
/-- a method of the class at C -/
structure Dm (K : PySem.W.Frag) (C : Addr) (m qual : Str) (st : Stmt) (ps : List Str) : Prop where
  ex : ∃ (f : Addr) (fd : FuncData), Fun K m qual st f fd ∧ Meth K C m f ∧ Binds K fd ps []
/-- a def that keeps sp -/
structure Ca (P : Program) (w : World) (K : PySem.W.Frag) (mg : Str → Option Value) (base : Heap) (k : Nat) (x : Str) (sp : Sp) : Prop where
  ex : ∃ (f : Addr) (fd : FuncData) (ps : List Str), FnOk P w K mg base (L2.CX P w) k f fd ps sp ∧ mg x = some (.ref f) ∧ PySem.W.keepIn K (.ref f) = true ∧ Binds K fd ps []
structure Cm (P : Program) (w : World) (K : PySem.W.Frag) (mg : Str → Option Value) (base : Heap) (k : Nat) (C : Addr) (m : Str) (sp : Sp) : Prop where
  ex : ∃ (f : Addr) (fd : FuncData) (ps : List Str), FnOk P w K mg base (L2.CX P w) k f fd ps sp ∧ Meth K C m f ∧ Binds K fd ps []
section
variable {P : Program} {w : World} {K : PySem.W.Frag} {mg : Str → Option Value} {base : Heap}
/-- the body of a def that raises nothing -/
abbrev BodyN (P : Program) (w : World) (K : PySem.W.Frag) (mg : Str → Option Value) (base : Heap) (N : List Str) (qual : Str) (st : Stmt) (k : Nat) (sp : Sp) : Prop :=
  ∀ (f : Addr) (cdv : Value) (A : Around) (outer : List Env) (s : Shared) (H : Hp) (vs : List V) (Q : VK) (E : XK), Room k (A.deeper (envOfC qual (defScope st) s.heap.objs.size f cdv)) → sp vs H Q E →
      ∃ t, PSs (cxOf (L2.CX P w) P w K mg base N qual (defScope st) f cdv A outer s H E).nox (defBody st) t ∧ t { nx := fun _ H' => Q .non H', rt := Q } (start N vs) H
/-- .. of one that may raise -/
abbrev BodyX (P : Program) (w : World) (K : PySem.W.Frag) (mg : Str → Option Value) (base : Heap) (N : List Str) (qual : Str) (st : Stmt) (k : Nat) (sp : Sp) : Prop :=
  ∀ (f : Addr) (cdv : Value) (A : Around) (outer : List Env) (s : Shared) (H : Hp) (vs : List V) (Q : VK) (E : XK), Room k (A.deeper (envOfC qual (defScope st) s.heap.objs.size f cdv)) → sp vs H Q E →
      ∃ t, PSs (cxOf (L2.CX P w) P w K mg base N qual (defScope st) f cdv A outer s H E) (defBody st) t ∧ t { nx := fun _ H' => Q .non H', rt := Q } (start N vs) H
theorem fnX {x qual : Str} {st : Stmt} {f : Addr} {fd : FuncData} {N ps : List Str} {k : Nat} {sp : Sp} (F : Fun K x qual st f fd) (S : FnScope N ps (defScope st)) (len : ∀ vs H Q E, sp vs H Q E → vs.length = ps.length)
    (hb : BodyX P w K mg base N qual st k sp) : FnOk P w K mg base (L2.CX P w) (k + 1) f fd ps sp := by
  obtain ⟨oc, od, kV, doc, pm, an, cdv, ct, osl, rfl, lk, hcd⟩ := F.ex
  exact fn_of lk hcd S len fun A outer s H vs Q E hr hsp => hb f cdv A outer s H vs Q E hr hsp
theorem BodyN.x {N : List Str} {qual : Str} {st : Stmt} {k : Nat} {sp : Sp} (h : BodyN P w K mg base N qual st k sp) : BodyX P w K mg base N qual st k sp := fun f cdv A outer s H vs Q E hr hsp => by
  obtain ⟨t, p, q⟩ := h f cdv A outer s H vs Q E hr hsp
  exact ⟨t, p.nox, q⟩
theorem ca_x {x : Str} {st : Stmt} {N ps : List Str} {k : Nat} {sp : Sp} (D : Df K mg x st ps) (S : FnScope N ps (defScope st)) (len : ∀ vs H Q E, sp vs H Q E → vs.length = ps.length)
    (hb : BodyX P w K mg base N x st k sp) : Ca P w K mg base (k + 1) x sp := by
  obtain ⟨f, fd, F, hm, b⟩ := D.ex
  exact ⟨f, fd, ps, fnX F S len hb, hm, F.kp, b⟩
theorem ca_n {x : Str} {st : Stmt} {N ps : List Str} {k : Nat} {sp : Sp} (D : Df K mg x st ps) (S : FnScope N ps (defScope st)) (len : ∀ vs H Q E, sp vs H Q E → vs.length = ps.length)
    (hb : BodyN P w K mg base N x st k sp) : Ca P w K mg base (k + 1) x sp := ca_x D S len hb.x
theorem cm_x {C : Addr} {m qual : Str} {st : Stmt} {N ps : List Str} {k : Nat} {sp : Sp} (D : Dm K C m qual st ps) (S : FnScope N ps (defScope st)) (len : ∀ vs H Q E, sp vs H Q E → vs.length = ps.length)
    (hb : BodyX P w K mg base N qual st k sp) : Cm P w K mg base (k + 1) C m sp := by
  obtain ⟨f, fd, F, hm, b⟩ := D.ex
  exact ⟨f, fd, ps, fnX F S len hb, hm, b⟩
theorem cm_n {C : Addr} {m qual : Str} {st : Stmt} {N ps : List Str} {k : Nat} {sp : Sp} (D : Dm K C m qual st ps) (S : FnScope N ps (defScope st)) (len : ∀ vs H Q E, sp vs H Q E → vs.length = ps.length)
    (hb : BodyN P w K mg base N qual st k sp) : Cm P w K mg base (k + 1) C m sp := cm_x D S len hb.x
end
section
variable {X : Cx} {k j : Nat} {C : Addr} {x m : Str} {sp : Sp} {p pos apos : Pos} {e o : Expr} {es : List Expr} {ta : TE} {t : TA}
/-- f(..), nothing raised -/
def tCa (sp : Sp) (t : TA) : TE := fun σ H Q => t σ H fun vs H1 => sp vs H1 Q E0
theorem pe_ca (c : Ca X.prog X.w X.K X.mg X.base k x sp) (hr : Room j X.A) (hk : k ≤ j) (hg : Gl X x) (ha : PA X (e :: es) t)
    (hdb : (x == ("__debug__" : Str)) = false := by decide) (he : starEach (e :: es) X.env = (false, eval e X.env) :: starEach es X.env := by rfl) (hpl : (backTo pos (starEach es X.env)).any (·.1) = false := by rfl) :
    PE X (.Call (.Name x p) (e :: es) [] pos) (tCa sp t) := by
  obtain ⟨f, fd, ps, F, hm, kp, b⟩ := c.ex
  have h := pe_call (p := p) (pos := pos) F (hr.mono hk) hg hm kp b .nil passL ha hdb he hpl
  have q : tCall sp [] E0 t = tCa sp t := by
    funext σ H Q
    show (t σ H fun vs H1 => sp (vs ++ []) H1 Q E0) = t σ H fun vs H1 => sp vs H1 Q E0
    congr 1
    funext vs H1
    rw [List.append_nil]
  rw [← q]
  exact h
theorem pe_ca0 (c : Ca X.prog X.w X.K X.mg X.base k x sp) (hr : Room j X.A) (hk : k ≤ j) (hg : Gl X x)
    (hdb : (x == ("__debug__" : Str)) = false := by decide) :
    PE X (.Call (.Name x p) [] [] pos) (tCa sp tNil) := by
  obtain ⟨f, fd, ps, F, hm, kp, b⟩ := c.ex
  exact pe_call0 (p := p) (pos := pos) F (hr.mono hk) hg hm kp b .nil passL hdb
end
/-! ## heaps: all but one object stay -/
/-- all that is tracked stays, but what stands at a -/
def But (a : Addr) (H H' : Hp) : Prop := ∀ b o, b ≠ a → H b = some o → H' b = some o
theorem But.refl {a : Addr} (H : Hp) : But a H H := fun _ _ _ h => h
theorem But.trans {a : Addr} {H H1 H2 : Hp} (x : But a H H1) (y : But a H1 H2) : But a H H2 := fun b o n h => y b o n (x b o n h)
theorem But.of {a : Addr} {H H' : Hp} (x : Same H H') : But a H H' := fun b o _ h => x b o h
theorem But.upd {a : Addr} {H : Hp} {o : HO} : But a H (upd H a o) := fun b u n h => by rw [upd_ne n]; exact h
theorem Same.upd {a : Addr} {H : Hp} {o : HO} (h : H a = none) : Same H (upd H a o) := fun b u e => by rw [upd_ne (ne_of_none e h)]; exact e
theorem But.same {a : Addr} {H H' : Hp} {o : HO} (x : But a H H') (h : H a = some o) (h' : H' a = some o) : Same H H' := fun b u e => by
  by_cases q : b = a
  · rw [q] at e ⊢
    rw [h] at e
    cases e
    exact h'
  · exact x b u q e
theorem But.none {a p : Addr} {H H' : Hp} (x : But a H H') (hp : H' p = Option.none) (n : p ≠ a) : H p = Option.none := by
  cases q : H p with
  | none => rfl
  | some o =>
    rw [x p o n q] at hp
    cases hp
end Op

namespace Op
open PySem PySem.Spec PyProof.Rows L2
/-! ## readings answered from the left, one rule a construct; walk_at "go" tries them -/
/-- named readings -/
def rLenQ (K : PySem.W.Frag) : List V → Hp → VK → Prop := fun xs H Q => ∃ p ys, xs = [.ref p] ∧ (SqL K H p ys ∨ SqT K H p ys) ∧ Q (.int ys.length) H
theorem cq_len {X : Cx} : CallR X (.builtin "len") (rLenQ X.K) := call_len_seq
def rLenS : List V → Hp → VK → Prop := fun xs H Q => ∃ z, xs = [.str z] ∧ z.length ≤ sizeLine ∧ Q (.int z.length) H
theorem cq_lens {X : Cx} : CallR X (.builtin "len") rLenS := call_len_str
def rAbs : List V → Hp → VK → Prop := fun xs H Q => ∃ i, xs = [.int i] ∧ Q (.int (if i < 0 then -i else i)) H
theorem cq_abs {X : Cx} : CallR X (.builtin "abs") rAbs := call_abs
def rInt1 : List V → Hp → VK → Prop := fun xs H Q => (∃ i, xs = [.int i] ∧ Q (.int i) H) ∨ ∃ k, xs = [.bl k] ∧ Q (.int (if k = true then 1 else 0)) H
theorem cq_int {X : Cx} : CallR X (.type "int") rInt1 := call_int1
def rCatS : R2 := fun x y H Q => ∃ i j, x = .str i ∧ y = .str j ∧ i.length + j.length ≤ sizeLine ∧ Q (.str (i ++ j)) H
theorem oq_adds {X : Cx} : OpR X (binaryOp .Add) rCatS := op_add_str
def rInSg : R2 := fun x y H Q => ∃ (c : Nat) (z : Str), x = .str ⟨#[c]⟩ ∧ y = .str z ∧ Q (.bl (decide (c ∈ z.cps.toList))) H
theorem oq_insg {X : Cx} : OpR X (compareOp .In) rInSg := op_in_sign
def rNinSg : R2 := fun x y H Q => ∃ (c : Nat) (z : Str), x = .str ⟨#[c]⟩ ∧ y = .str z ∧ Q (.bl (!decide (c ∈ z.cps.toList))) H
theorem oq_ninsg {X : Cx} : OpR X (compareOp .NotIn) rNinSg := op_notIn_sign
def rIsNn : R2 := fun x y H Q => y = .non ∧ Q (.bl (decide (x = .non))) H
theorem oq_isN {X : Cx} : OpR X (compareOp .Is) rIsNn := op_isN
def rNotNn : R2 := fun x y H Q => y = .non ∧ Q (.bl (!decide (x = .non))) H
theorem oq_notN {X : Cx} : OpR X (compareOp .IsNot) rNotNn := op_notN
def rJoin (K : PySem.W.Frag) : V → List V → Hp → VK → Prop := fun x xs H Q => ∃ a p, ∃ ys : List Str, x = .str a ∧ xs = [.ref p] ∧ (SqL K H p (ys.map V.str) ∨ SqT K H p (ys.map V.str)) ∧ (ys.map (·.length)).sum + ys.length * a.length ≤ 16777216 ∧ Q (.str (Txt.join a ys)) H
theorem pq_join {X : Cx} {o e : Expr} {to te : TE} {apos pos : Pos} (ho : PE X o to) (he : PE X e te) (hs : starEach [e] X.env = [(false, eval e X.env)] := by rfl) (hbase : attributeBase o "join" X.env (eval o X.env) = eval o X.env := by rfl) (hline : (apos.endLine == pos.line) = true := by rfl) :
    PE X (.Call (.Attribute o "join" apos) [e] [] pos) (tM1 (rJoin X.K) to te) := pe_join ho he hs hbase hline
def rStarts : V → List V → Hp → VK → Prop := fun x xs H Q => ∃ a b, x = .str a ∧ xs = [.str b] ∧ Q (.bl (Txt.startswith a b)) H
theorem mq_starts {X : Cx} : MtR X "str.startswith" rStarts := mt_startswith
def rRstrip : V → List V → Hp → VK → Prop := fun x xs H Q => ∃ a b, x = .str a ∧ xs = [.str b] ∧ a.length ≤ sizeLine ∧ Q (.str (Txt.rstripChars a b)) H
theorem mq_rstrip {X : Cx} : MtR X "str.rstrip" rRstrip := mt_rstripChars
def tTruQ (K : PySem.W.Frag) (ta : TE) : TT := fun σ H Q => ta σ H fun x H' => ∃ k, TruV K x H' k ∧ Q k H'
def rTru (K : PySem.W.Frag) (x : V) (H : Hp) (Q : Bool → Hp → Prop) : Prop := ∃ k, TruV K x H k ∧ Q k H
theorem pq_truth {X : Cx} {a : Expr} {ta : TE} (ha : PE X a ta) (he : ∀ whole, isTrue a X.env whole = (do let v ← whole; standAt a.pos; holding [v] (truthy v))) : PT X a (tTruQ X.K ta) := pt_truth ha he
section
variable {K : PySem.W.Frag} {σ : L2.St} {H : Hp} {i : Nat} {v x y z : V} {ta tb te tc : TE} {b : Bool} {a C dx : Addr} {fs : List (Str × V)} {f : Str} {t u c : TT} {Q : VK} {R : Bool → Hp → Prop} {ts us : TS} {D : Ends} {g : TG} {r : R2} {tl tr : TA} {L : List V → Hp → Prop} {S : L2.St → Hp → Prop}
theorem g_var (h : σ[i]? = some (some v)) (k : Q v H) : tVar i σ H Q := ⟨v, h, k⟩
theorem g_c (k : Q v H) : tC v σ H Q := k
theorem g_op (k : ta σ H fun x H1 => tb σ H1 fun y H2 => r x y H2 Q) : tOp r ta tb σ H Q := k
theorem g_un {r : V → Hp → VK → Prop} (k : ta σ H fun x H1 => r x H1 Q) : tUn r ta σ H Q := k
theorem g_if (k : t σ H fun c H1 => if c = true then ta σ H1 Q else tb σ H1 Q) : tIf t ta tb σ H Q := k
theorem g_test (k : te σ H fun x H' => ∃ k, x = .bl k ∧ R k H') : tTest te σ H R := k
theorem g_B (k : te σ H fun x H' => ∃ k, x = .bl k ∧ R k H') : tB te σ H R := k
theorem g_bl {A : Bool → Prop} (k : A b) : ∃ c, V.bl b = V.bl c ∧ A c := ⟨b, rfl, k⟩
theorem g_not (k : t σ H fun c H1 => R (!c) H1) : tNot t σ H R := k
theorem g_and (k : t σ H fun c H1 => if c = true then u σ H1 R else R false H1) : tAnd t u σ H R := k
theorem g_or (k : t σ H fun c H1 => if c = true then R true H1 else u σ H1 R) : tOr t u σ H R := k
theorem g_andV (k : ta σ H fun x H1 => ∃ c, x = .bl c ∧ if c = true then tb σ H1 Q else Q (.bl false) H1) : tAndV ta tb σ H Q := k
theorem g_orV (k : ta σ H fun x H1 => ∃ c, x = .bl c ∧ if c = true then Q (.bl true) H1 else tb σ H1 Q) : tOrV ta tb σ H Q := k
theorem g_notV (k : ta σ H fun x H1 => ∃ c, x = .bl c ∧ Q (.bl (!c)) H1) : tNotV ta σ H Q := k
theorem g_nil (k : L [] H) : tNil σ H L := k
theorem g_cons (k : ta σ H fun x H1 => tr σ H1 fun xs H2 => L (x :: xs) H2) : tCons ta tr σ H L := k
theorem g_CB {r : List V → Hp → VK → Prop} (k : tl σ H fun vs H1 => r vs H1 Q) : tCB r tl σ H Q := k
theorem g_ca {sp : Sp} (k : tl σ H fun vs H1 => sp vs H1 Q E0) : tCa sp tl σ H Q := k
theorem g_seq (k : ts { D with nx := us D } σ H) : tSeq ts us D σ H := k
theorem g_next (k : D.nx σ H) : tNext D σ H := k
theorem g_asg (k : te σ H fun x H1 => g x σ H1 D.nx) : tAsg te g D σ H := k
theorem g_name (k : S (σ.set i (some v)) H) : gName i v σ H S := k
theorem g_ret (k : te σ H D.rt) : tRet te D σ H := k
theorem g_retN (k : D.rt .non H) : tRetN D σ H := k
theorem g_drop (k : te σ H fun _ H1 => D.nx σ H1) : tDrop te D σ H := k
theorem g_ifS (k : c σ H fun b H1 => if b = true then ts D σ H1 else us D σ H1) : tIfS c ts us D σ H := k
theorem g_sub {to ti : TE} {s : TSet} (k : to σ H fun o H1 => ti σ H1 fun i H2 => s o i v H2 fun H3 => S σ H3) : gSub to ti s v σ H S := k
theorem g_I0 {f : Int → Int → V} {i j : Int} (k : Q (f i j) H) : rI0 f (.int i) (.int j) H Q := ⟨i, j, rfl, rfl, k⟩
theorem g_I {A : Int → Int → Prop} {f : Int → Int → V} {i j : Int} (h : A i j) (k : Q (f i j) H) : rI A f (.int i) (.int j) H Q := ⟨i, j, rfl, rfl, h, k⟩
theorem g_U {f : Int → V} {i : Int} (k : Q (f i) H) : rU f (.int i) H Q := ⟨i, rfl, k⟩
theorem g_eq (h : scal x y = true) (k : Q (.bl (decide (x = y))) H) : rEq x y H Q := ⟨h, k⟩
theorem g_ne (h : scal x y = true) (k : Q (.bl (!decide (x = y))) H) : rNe x y H Q := ⟨h, k⟩
theorem g_lenL {xs : List V} (h : SqL K H a xs) (k : Q (.int xs.length) H) : rLenQ K [.ref a] H Q := ⟨a, xs, rfl, .inl h, k⟩
theorem g_lenT {xs : List V} (h : SqT K H a xs) (k : Q (.int xs.length) H) : rLenQ K [.ref a] H Q := ⟨a, xs, rfl, .inr h, k⟩
theorem g_lenS {s : Str} (h : s.length ≤ sizeLine) (k : Q (.int s.length) H) : rLenS [.str s] H Q := ⟨s, rfl, h, k⟩
theorem g_abs {i : Int} (k : ∀ j : Int, 0 ≤ j → (j = i ∨ j = -i) → Q (.int j) H) : rAbs [.int i] H Q := ⟨i, rfl, k _ (by split <;> omega) (by split <;> omega)⟩
theorem g_int {i : Int} (k : Q (.int i) H) : rInt1 [.int i] H Q := .inl ⟨i, rfl, k⟩
theorem g_ixL {xs : List V} {i : Int} (h : SqL K H a xs) (ha : atI xs i = some v) (k : Q v H) : rIxL K (.ref a) (.int i) H Q := ⟨a, xs, i, v, rfl, rfl, h, ha, k⟩
theorem g_ixT {xs : List V} {i : Int} (h : SqT K H a xs) (ha : atI xs i = some v) (k : Q v H) : rIxT K (.ref a) (.int i) H Q := ⟨a, xs, i, v, rfl, rfl, h, ha, k⟩
theorem g_setL {xs : List V} {i : Int} {j : Nat} {S : Hp → Prop} (h : H a = some (.lst xs)) (hi : ixN xs.length i = some j) (k : S (L2.upd H a (.lst (xs.set j v)))) : rSetL (.ref a) (.int i) v H S := ⟨a, xs, i, j, rfl, rfl, h, hi, k⟩
theorem g_catS {s t : Str} (h : s.length + t.length ≤ sizeLine) (k : Q (.str (s ++ t)) H) : rCatS (.str s) (.str t) H Q := ⟨s, t, rfl, rfl, h, k⟩
theorem g_insg {c : Nat} {s : Str} (k : Q (.bl (decide (c ∈ s.cps.toList))) H) : rInSg (.str ⟨#[c]⟩) (.str s) H Q := ⟨c, s, rfl, rfl, k⟩
theorem g_ninsg {c : Nat} {s : Str} (k : Q (.bl (!decide (c ∈ s.cps.toList))) H) : rNinSg (.str ⟨#[c]⟩) (.str s) H Q := ⟨c, s, rfl, rfl, k⟩
theorem g_isN (k : Q (.bl (decide (x = .non))) H) : rIsNn x .non H Q := ⟨rfl, k⟩
theorem g_notN (k : Q (.bl (!decide (x = .non))) H) : rNotNn x .non H Q := ⟨rfl, k⟩
theorem g_lst {L : TA} (k : L σ H fun xs H1 => xs.length ≤ sizeLine ∧ ∀ p, H1 p = none → Q (.ref p) (L2.upd H1 p (.lst xs))) : tLst L σ H Q := k
theorem g_tup {L : TA} (k : L σ H fun xs H1 => xs.length ≤ sizeLine ∧ ∀ p, H1 p = none → Q (.ref p) (L2.upd H1 p (.tup xs))) : tTup L σ H Q := k
theorem g_app {xs : List V} (h : H a = some (.lst xs)) (hl : xs.length < sizeLine) (k : Q .non (L2.upd H a (.lst (xs ++ [y])))) : rAppend (.ref a) [y] H Q := ⟨a, xs, y, rfl, rfl, h, hl, k⟩
theorem g_pop {xs : List V} (h : H a = some (.lst (xs ++ [y]))) (k : Q y (L2.upd H a (.lst xs))) : rPop (.ref a) [] H Q :=
  ⟨a, xs ++ [y], y, rfl, rfl, h, by rw [List.length_append, List.length_singleton, Nat.add_sub_cancel, List.getElem?_append_right (Nat.le_refl _), Nat.sub_self]; rfl, by rw [List.dropLast_concat]; exact k⟩
theorem g_ext {b : Addr} {xs zs : List V} (h : H a = some (.lst xs)) (h2 : H b = some (.lst zs)) (hl : xs.length + zs.length ≤ sizeLine) (k : Q .non (L2.upd H a (.lst (xs ++ zs)))) : rExtend (.ref a) [.ref b] H Q := ⟨a, b, xs, zs, rfl, rfl, h, h2, hl, k⟩
theorem g_BM {T : String} {r : V → List V → Hp → VK → Prop} (k : ta σ H fun x H1 => tyV K T x H1 ∧ tl σ H1 fun xs H2 => r x xs H2 Q) : tBM K T r ta tl σ H Q := k
theorem g_BM0 {T : String} {r : V → List V → Hp → VK → Prop} (k : ta σ H fun x H1 => tyV K T x H1 ∧ r x [] H1 Q) : tBM0 K T r ta σ H Q := k
theorem g_M1 {r : V → List V → Hp → VK → Prop} (k : ta σ H fun x H1 => (∃ a, x = .str a) ∧ te σ H1 fun y H2 => r x [y] H2 Q) : tM1 r ta te σ H Q := k
theorem g_isS {s : Str} {A : Prop} (k : A) : (∃ a, V.str s = V.str a) ∧ A := ⟨⟨s, rfl⟩, k⟩
theorem g_tyS {s : Str} {A : Prop} (k : A) : tyV K "str" (.str s) H ∧ A := ⟨rfl, k⟩
theorem g_tyL {xs : List V} {A : Prop} (h : H a = some (.lst xs)) (k : A) : tyV K "list" (.ref a) H ∧ A := ⟨.inl ⟨rfl, xs, SqL.of h⟩, k⟩
theorem g_join {s : Str} {ys : List Str} (h : SqL K H a (ys.map V.str)) (hl : (ys.map (·.length)).sum + ys.length * s.length ≤ 16777216) (k : Q (.str (Txt.join s ys)) H) : rJoin K (.str s) [.ref a] H Q := ⟨s, a, ys, rfl, rfl, .inl h, hl, k⟩
theorem g_cat {b : Addr} {xs zs : List V} (h : H a = some (.lst xs)) (h2 : H b = some (.lst zs)) (hl : xs.length + zs.length ≤ sizeLine) (k : ∀ p, H p = none → Q (.ref p) (L2.upd H p (.lst (xs ++ zs)))) : rCat (.ref a) (.ref b) H Q := ⟨a, b, xs, zs, rfl, rfl, h, h2, hl, k⟩
theorem g_starts {s t : Str} (k : Q (.bl (Txt.startswith s t)) H) : rStarts (.str s) [.str t] H Q := ⟨s, t, rfl, rfl, k⟩
theorem g_rstrip {s t : Str} (h : s.length ≤ sizeLine) (k : Q (.str (Txt.rstripChars s t)) H) : rRstrip (.str s) [.str t] H Q := ⟨s, t, rfl, rfl, h, k⟩
theorem g_chain {r r' : R2} (k : ta σ H fun x H1 => tb σ H1 fun y H2 => r x y H2 fun z H3 => ∃ k, z = .bl k ∧ (if k = true then tc σ H3 fun w' H4 => r' y w' H4 Q else Q (.bl false) H3)) : tChain r r' ta tb tc σ H Q := k
theorem g_sl {r : V → Option Int → Option Int → Hp → VK → Prop} {lo hi : TO} (k : ta σ H fun x H1 => lo σ H1 fun l H2 => hi σ H2 fun u H3 => r x l u H3 Q) : tSl r ta lo hi σ H Q := k
theorem g_nopart {Q : Option Int → Hp → Prop} (k : Q none H) : tNoPart σ H Q := k
theorem g_part {Q : Option Int → Hp → Prop} (k : te σ H fun x H1 => ∃ i, x = .int i ∧ Q (some i) H1) : tPart te σ H Q := k
theorem g_isI {i : Int} {A : Int → Prop} (k : A i) : ∃ j, V.int i = V.int j ∧ A j := ⟨i, rfl, k⟩
theorem g_inT {xs : List V} (h : SqT K H a xs) (hx : flatV x = true) (ha : xs.all flatV = true) (k : Q (.bl (inV x xs)) H) : rIn K false x (.ref a) H Q := ⟨a, xs, rfl, .inr h, hx, ha, by rw [if_neg Bool.false_ne_true]; exact k⟩
theorem g_ninT {xs : List V} (h : SqT K H a xs) (hx : flatV x = true) (ha : xs.all flatV = true) (k : Q (.bl (!inV x xs)) H) : rIn K true x (.ref a) H Q := ⟨a, xs, rfl, .inr h, hx, ha, by rw [if_pos rfl]; exact k⟩
theorem g_inL {xs : List V} (h : SqL K H a xs) (hx : flatV x = true) (ha : xs.all flatV = true) (k : Q (.bl (inV x xs)) H) : rIn K false x (.ref a) H Q := ⟨a, xs, rfl, .inl h, hx, ha, by rw [if_neg Bool.false_ne_true]; exact k⟩
theorem g_isi {c : V} {t u : Value} {b : Bool} (hc : ClsV c u) (ht : TyX K H x t) (hk : PySem.W.kitOne K t u = some b) (k : Q (.bl b) H) : rIsi K [x, c] H Q := ⟨x, c, t, u, b, rfl, hc, ht, hk, k⟩
theorem g_tru (k : ta σ H fun x H' => rTru K x H' R) : tTruQ K ta σ H R := k
theorem g_truL {xs : List V} (h : SqL K H a xs) (k : R (!xs.isEmpty) H) : rTru K (.ref a) H R := ⟨_, .inl ⟨xs, h, rfl⟩, k⟩
theorem g_while {tb : TS} (W : Nat → L2.St → Hp → Prop) (m0 : Nat) (h0 : W m0 σ H) (hs : ∀ m σ' H', W m σ' H' → c σ' H' fun b H1 => if b = true then ∃ N : L2.St → Hp → Prop, (∀ σ' H', N σ' H' → ∃ m', m' < m ∧ W m' σ' H') ∧ tb { D with nx := N, ct := N, bk := D.nx } σ' H1 else D.nx σ' H1) : tWhile c tb D σ H := ⟨W, ⟨m0, h0⟩, hs⟩
theorem ty_l {xs : List V} (h : H a = some (.lst xs)) : tyV K "list" (.ref a) H := .inl ⟨rfl, xs, SqL.of h⟩
theorem iteD {c A B : Prop} [Decidable c] (h1 : c → A) (h2 : ¬ c → B) : if decide c = true then A else B := by
  by_cases h : c
  · rw [decide_eq_true h]; exact h1 h
  · rw [decide_eq_false h]; exact h2 h
theorem iteND {c A B : Prop} [Decidable c] (h1 : ¬ c → A) (h2 : c → B) : if (!decide c) = true then A else B := by
  by_cases h : c
  · rw [decide_eq_true h]; exact h2 h
  · rw [decide_eq_false h]; exact h1 h
theorem iteDT {c A B : Prop} [Decidable c] (h : c) (k : A) : if decide c = true then A else B := by rw [decide_eq_true h]; exact k
theorem iteDF {c A B : Prop} [Decidable c] (h : ¬ c) (k : B) : if decide c = true then A else B := by rw [decide_eq_false h]; exact k
theorem iteNT {A B : Prop} (h : B) : if (!true) = true then A else B := h
theorem iteNF {A B : Prop} (h : A) : if (!false) = true then A else B := h
theorem iteB {b : Bool} {A B : Prop} (h1 : b = true → A) (h2 : b = false → B) : if b = true then A else B := by
  cases b
  · exact h2 rfl
  · exact h1 rfl
end
/-- [e for x in range(n)]: behind the range's argument -/
def rLcR (j : Nat) (te : TE) (vs : List Nat) (σ : L2.St) (xs : List V) (H : Hp) (Q : VK) : Prop := ∃ n : Int, xs = [.int n] ∧ -(2 ^ 62) ≤ n ∧ n < 2 ^ 62 ∧ ∀ D, H D = none → ∃ W : Nat → Nat → Hp → Prop, (∃ m, W 0 m (L2.upd H D (.lst []))) ∧ ∀ i m H, W i m H →
  ((Itr 0 n.toNat).stop i H ∧ Q (.ref D) H) ∨ ((Itr 0 n.toNat).go i H ∧ ∃ Nx : Hp → Prop, (∀ H', Nx H' → ∃ m', m' < m ∧ W (i + 1) m' H') ∧ ∀ x H', (Itr 0 n.toNat).yld i H x H' → gName j x (wipe σ vs) H' fun σ2 H2 => wipe σ2 vs = wipe σ vs ∧ tYes σ2 H2 fun b H3 =>
    if b = true then te σ2 H3 fun y H4 => ∃ acc, H4 D = some (.lst acc) ∧ acc.length < sizeLine ∧ Nx (L2.upd H4 D (.lst (acc ++ [y]))) else Nx H3)
theorem g_lcR {σ : L2.St} {H : Hp} {Q : VK} {tl : TA} {te : TE} {j : Nat} {vs : List Nat} (k : tl σ H fun xs H1 => rLcR j te vs σ xs H1 Q) : tLc (iRng1 tl) (gName j) tYes te vs σ H Q := k
/-- the tuples stay -/
def Tps (H H' : Hp) : Prop := ∀ b xs, H b = some (.tup xs) → H' b = some (.tup xs)
theorem Tps.refl (H : Hp) : Tps H H := fun _ _ h => h
theorem Tps.trans {H H1 H2 : Hp} (a : Tps H H1) (b : Tps H1 H2) : Tps H H2 := fun x xs h => b x xs (a x xs h)
theorem Tps.new {H : Hp} {p : Addr} {o : HO} (h : H p = none) : Tps H (L2.upd H p o) := fun b ys e => Same.upd h b _ e
theorem Tps.lst {H : Hp} {p : Addr} {o : HO} {xs : List V} (h : H p = some (.lst xs)) : Tps H (L2.upd H p o) := fun b ys e => by
  rw [upd_ne (ne_of e h (by intro z; cases z))]
  exact e
theorem Same.mut {H H' : Hp} {p : Addr} {o : HO} (s : Same H H') (h : H p = none) : Same H (L2.upd H' p o) := fun b u e => by
  rw [upd_ne (ne_of_none e h)]
  exact s b u e
theorem Tps.same {H H' : Hp} (s : Same H H') : Tps H H' := fun b xs h => s b _ h
/-- a turn's end: the new item stands behind those so far -/
def lcPost (J : Addr → Nat → List V → Hp → Prop) (D : Addr) (i : Nat) : VK := fun y H => ∃ acc, H D = some (.lst acc) ∧ acc.length < sizeLine ∧ ∃ acc', (L2.upd H D (.lst (acc ++ [y]))) D = some (.lst acc') ∧ acc'.length = i + 1 ∧ J D (i + 1) acc' (L2.upd H D (.lst (acc ++ [y])))
theorem lcPost.of {J : Addr → Nat → List V → Hp → Prop} {D : Addr} {i : Nat} {acc : List V} {y : V} {H : Hp} (h : H D = some (.lst acc)) (hl : acc.length = i) (hi : i < 1000000) (k : J D (i + 1) (acc ++ [y]) (L2.upd H D (.lst (acc ++ [y])))) : lcPost J D i y H :=
  ⟨acc, h, by rw [sizeLine_eq]; omega, acc ++ [y], upd_same, by rw [List.length_append, hl]; rfl, k⟩
/-- the walk of rLcR: J says what the turns so far have left -/
theorem r_lcR {σ : L2.St} {H : Hp} {Q : VK} {te : TE} {j : Nat} {n : Int} {vs : List Nat} (J : Addr → Nat → List V → Hp → Prop) (hn : 0 ≤ n ∧ n < 1000000) (hw : ∀ x, wipe ((wipe σ vs).set j (some x)) vs = wipe σ vs)
    (h0 : ∀ D, H D = none → J D 0 [] (L2.upd H D (.lst [])))
    (hs : ∀ (D : Addr) (i : Nat) (acc : List V) (H2 : Hp), H D = none → (i : Int) < n → H2 D = some (.lst acc) → acc.length = i → J D i acc H2 → te ((wipe σ vs).set j (some (.int (i : Int)))) H2 (lcPost J D i))
    (hd : ∀ D acc H2, H D = none → H2 D = some (.lst acc) → (acc.length : Int) = n → J D n.toNat acc H2 → Q (.ref D) H2) : rLcR j te vs σ [.int n] H Q := by
  refine ⟨n, rfl, by omega, by omega, fun D hD => ?_⟩
  refine lc_range (lo := 0) (n := n.toNat) (fun i H2 => ∃ acc, H2 D = some (.lst acc) ∧ acc.length = i ∧ J D i acc H2) ⟨[], upd_same, rfl, h0 D hD⟩ (fun i H2 hi p => ?_) (fun H2 p => ?_)
  · obtain ⟨acc, h1, h2, h3⟩ := p
    have e0 : (0 : Int) + (i : Int) = (i : Int) := Int.zero_add _
    have r := hs D i acc H2 hD (by omega) h1 h2 h3
    rw [← e0] at r
    exact ⟨hw _, r⟩
  · obtain ⟨acc, h1, h2, h3⟩ := p
    exact hd D acc H2 hD h1 (by omega) h3
theorem len_le {cs : List Nat} (h : cs.length < 1000000) : (SX.S cs).length ≤ sizeLine := by rw [SX.S_len, sizeLine_eq]; omega
/-! ### comprehensions over the signs of a text, whose tests and items change nothing -/
def rLcS (j : Nat) (tt : TT) (te : TE) (vs : List Nat) (σ : L2.St) (v : V) (H : Hp) (Q : VK) : Prop := ∃ x : Str, v = .str x ∧ ∀ D, H D = none → ∃ W : Nat → Nat → Hp → Prop, (∃ m, W 0 m (L2.upd H D (.lst []))) ∧ ∀ i m H, W i m H →
  ((Its x).stop i H ∧ Q (.ref D) H) ∨ ((Its x).go i H ∧ ∃ Nx : Hp → Prop, (∀ H', Nx H' → ∃ m', m' < m ∧ W (i + 1) m' H') ∧ ∀ x' H', (Its x).yld i H x' H' → gName j x' (wipe σ vs) H' fun σ2 H2 => wipe σ2 vs = wipe σ vs ∧ tt σ2 H2 fun b H3 =>
    if b = true then te σ2 H3 fun y H4 => ∃ acc, H4 D = some (.lst acc) ∧ acc.length < sizeLine ∧ Nx (L2.upd H4 D (.lst (acc ++ [y]))) else Nx H3)
theorem g_lcS {σ : L2.St} {H : Hp} {Q : VK} {tl : TE} {tt : TT} {te : TE} {j : Nat} {vs : List Nat} (k : tl σ H fun v H1 => rLcS j tt te vs σ v H1 Q) : tLc (iStr tl) (gName j) tt te vs σ H Q := k
theorem r_lcS {σ : L2.St} {H : Hp} {Q : VK} {tt : TT} {te : TE} {j : Nat} {cs : List Nat} {vs : List Nat} (b : Nat → Bool) (f : Nat → V) (hn : cs.length < 1000000) (hw : ∀ x, wipe ((wipe σ vs).set j (some x)) vs = wipe σ vs)
    (ht : ∀ c H2 (R : Bool → Hp → Prop), c ∈ cs → Same H H2 → R (b c) H2 → tt ((wipe σ vs).set j (some (.str (SX.S [c])))) H2 R)
    (he : ∀ c H2 (R : VK), c ∈ cs → b c = true → Same H H2 → R (f c) H2 → te ((wipe σ vs).set j (some (.str (SX.S [c])))) H2 R)
    (k : ∀ D, H D = none → Q (.ref D) (L2.upd H D (.lst ((cs.filter b).map f)))) : rLcS j tt te vs σ (.str (SX.S cs)) H Q := by
  refine ⟨SX.S cs, rfl, fun D hD => ?_⟩
  have hsz : (SX.S cs).cps.size = cs.length := by simp [SX.S]
  refine ⟨fun i m H2 => m = cs.length - i ∧ i ≤ cs.length ∧ H2 = L2.upd H D (.lst (((cs.take i).filter b).map f)), ⟨cs.length, by simp, Nat.zero_le _, rfl⟩, ?_⟩
  rintro i m H2 ⟨rfl, hi, rfl⟩
  by_cases hlt : i < cs.length
  · refine .inr ⟨?_, fun H' => H' = L2.upd H D (.lst (((cs.take (i + 1)).filter b).map f)), fun H' e => ⟨cs.length - (i + 1), by omega, rfl, by omega, e⟩, ?_⟩
    · show i < (SX.S cs).cps.size
      rw [hsz]; exact hlt
    · rintro x' H' ⟨rfl, c, hc, rfl⟩
      have hc' : cs[i]? = some c := by
        have : (SX.S cs).cps[i]? = cs[i]? := by simp [SX.S]
        rw [← this]; exact hc
      have hget : cs[i] = c := by
        rw [List.getElem?_eq_getElem hlt] at hc'
        exact Option.some.inj hc'
      have hmem : c ∈ cs := hget ▸ List.getElem_mem hlt
      have htk : cs.take (i + 1) = cs.take i ++ [c] := by rw [List.take_succ, hc']; rfl
      have hS : Same H (L2.upd H D (.lst (((cs.take i).filter b).map f))) := Same.upd hD
      refine ⟨hw _, ?_⟩
      refine ht c _ _ hmem hS ?_
      cases hb : b c with
      | false =>
        rw [if_neg Bool.false_ne_true, htk, List.filter_append, List.filter_cons, if_neg (by rw [hb]; decide), List.filter_nil, List.append_nil]
      | true =>
        rw [if_pos rfl]
        refine he c _ _ hmem hb hS ⟨_, upd_same, ?_, ?_⟩
        · rw [List.length_map, sizeLine_eq]
          have := List.length_filter_le b (cs.take i)
          rw [List.length_take] at this
          omega
        · rw [upd_upd, htk, List.filter_append, List.filter_cons, if_pos hb, List.filter_nil, List.map_append]
          rfl
  · have e : i = cs.length := by omega
    refine .inl ⟨by show (SX.S cs).cps.size ≤ i; rw [hsz]; omega, ?_⟩
    rw [e, List.take_length]
    exact k D hD
/-- .. without a test -/
theorem r_lcS1 {σ : L2.St} {H : Hp} {Q : VK} {te : TE} {j : Nat} {cs : List Nat} {vs : List Nat} (f : Nat → V) (hn : cs.length < 1000000) (hw : ∀ x, wipe ((wipe σ vs).set j (some x)) vs = wipe σ vs)
    (he : ∀ c H2 (R : VK), c ∈ cs → Same H H2 → R (f c) H2 → te ((wipe σ vs).set j (some (.str (SX.S [c])))) H2 R)
    (k : ∀ D, H D = none → Q (.ref D) (L2.upd H D (.lst (cs.map f)))) : rLcS j tYes te vs σ (.str (SX.S cs)) H Q :=
  r_lcS (fun _ => true) f hn hw (fun c H2 R _ _ r => r) (fun c H2 R h1 _ h3 => he c H2 R h1 h3) (fun D hD => by
    have e : cs.filter (fun _ => true) = cs := List.filter_eq_self.mpr fun _ _ => rfl
    rw [e]
    exact k D hD)
def rAllQ (K : PySem.W.Frag) : List V → Hp → VK → Prop := rAll K
theorem g_all {K : PySem.W.Frag} {H : Hp} {Q : VK} {a : Addr} {bs : List Bool} (h : SqL K H a (bs.map V.bl)) (k : Q (.bl (bs.all id)) H) : rAll K [.ref a] H Q := ⟨a, bs, rfl, h, k⟩
theorem g_any {K : PySem.W.Frag} {H : Hp} {Q : VK} {a : Addr} {bs : List Bool} (h : SqL K H a (bs.map V.bl)) (k : Q (.bl (bs.any id)) H) : rAny K [.ref a] H Q := ⟨a, bs, rfl, h, k⟩
theorem g_slX {H : Hp} {Q : VK} {z : Str} {lo hi : Option Int} (h : z.length ≤ sizeLine) (k : Q (.str (Txt.slice z lo hi)) H) : C8.rSlX (.str z) lo hi H Q := ⟨z, rfl, h, k⟩
/-! ### list(text) -/
theorem vals_of_get : ∀ {xs : List V} {us : List Value}, xs.length = us.length → (∀ (j : Nat) (x : V) (u : Value), xs[j]? = some x → us[j]? = some u → RelV x u) → Vals xs us
  | [], [], _, _ => .nil
  | [], _ :: _, h, _ => by simp at h
  | _ :: _, [], h, _ => by simp at h
  | x :: xs, u :: us, h, k => .cons (k 0 x u rfl rfl) (vals_of_get (by simpa using h) fun j y z h1 h2 => k (j + 1) y z (by simpa using h1) (by simpa using h2))
def rListS : List V → Hp → VK → Prop := fun xs H Q => ∃ cs : List Nat, xs = [.str (SX.S cs)] ∧ cs.length ≤ 1000000 ∧ ∀ l, H l = none → Q (.ref l) (L2.upd H l (.lst (cs.map fun c => .str (SX.S [c]))))
theorem cq_list_str {X : Cx} (hc : X.calm = true) : CallR X (.type "list") rListS := by
  intro pins s σ H xs us Q I r h
  obtain ⟨cs, rfl, hl, q⟩ := h
  obtain ⟨u, rfl, t, rfl⟩ := vals1 r
  have hsz : (SX.S cs).cps.size = cs.length := by simp [SX.S]
  refine call_list_str (I.ok.hd hc) (SX.S cs) t (fun h' tk acc' c' kp e items => ?_) (by rw [hsz, sizeLine_eq]; omega)
  have rv : Vals (cs.map fun c => V.str (SX.S [c])) acc'.toList := by
    have h0 : acc'.toList.length = cs.length := by rw [← hsz, ← items.1]; simp
    refine vals_of_get (by rw [List.length_map, h0]) fun j x u h1 h2 => ?_
    obtain ⟨c, tk2, hc1, rfl⟩ := items.2 j u (by simpa using h2)
    have hc2 : cs[j]? = some c := by
      have : (SX.S cs).cps[j]? = cs[j]? := by simp [SX.S]
      rw [← this]; exact hc1
    rw [List.getElem?_map, hc2] at h1
    have e2 : V.str (SX.S [c]) = x := Option.some.inj h1
    rw [← e2]
    exact ⟨tk2, rfl⟩
  exact ⟨.ref s.heap.objs.size, _, I.laid (t' := tk) kp (Nat.le_refl _) (show ObjOk X.prog X.w _ h' _ (.lst _) from ⟨by rw [List.length_map, sizeLine_eq]; omega, acc'.toList, c', rv, by simpa using e⟩), rfl, q _ (I.hok.fresh (Nat.le_refl _))⟩
end Op

namespace Op
open PySem PySem.Spec PyProof.Rows L2
local macro_rules | `(tactic| walk_at "go1") => `(tactic| first
  | ((with_reducible refine' g_var ?h ?_); (case h => rfl)) | with_reducible refine' g_c ?_ | with_reducible refine' g_op ?_ | with_reducible refine' g_un ?_ | with_reducible refine' g_if ?_ | with_reducible refine' g_test ?_ | with_reducible refine' g_B ?_ | with_reducible refine' g_bl ?_
  | with_reducible refine' g_not ?_ | with_reducible refine' g_and ?_ | with_reducible refine' g_or ?_ | with_reducible refine' g_andV ?_ | with_reducible refine' g_orV ?_ | with_reducible refine' g_notV ?_ | with_reducible refine' g_nil ?_ | with_reducible refine' g_cons ?_ | with_reducible refine' g_CB ?_ | with_reducible refine' g_ca ?_
  | with_reducible refine' g_seq ?_ | with_reducible refine' g_next ?_ | with_reducible refine' g_asg ?_ | with_reducible refine' g_name ?_ | with_reducible refine' g_ret ?_ | with_reducible refine' g_retN ?_ | with_reducible refine' g_drop ?_ | with_reducible refine' g_ifS ?_ | with_reducible refine' g_sub ?_
  | with_reducible refine' g_I0 ?_ | with_reducible refine' g_U ?_ | ((with_reducible refine' g_eq ?h ?_); (case h => rfl)) | ((with_reducible refine' g_ne ?h ?_); (case h => rfl))
  | ((with_reducible refine' g_lenL ?h ?_); (case h => first | assumption | exact SqL.of (by assumption) | exact SqL.of upd_same)) | ((with_reducible refine' g_lenT ?h ?_); (case h => first | assumption | exact SqT.of (by assumption) | exact SqT.of upd_same))
  | ((with_reducible refine' g_ixL ?h ?ha ?_); (case h => first | assumption | exact SqL.of (by assumption) | exact SqL.of upd_same); (case ha => rfl)) | ((with_reducible refine' g_ixT ?h ?ha ?_); (case h => first | assumption | exact SqT.of (by assumption) | exact SqT.of upd_same); (case ha => rfl))
  | ((with_reducible refine' g_I ?h ?_); (case h => first | decide | omega | (first | refine' ⟨?_, ?_, ?_⟩ | refine' ⟨?_, ?_⟩ | refine' Or.inl ⟨?_, ?_⟩) <;> omega | (refine' Or.inr ⟨?_, ?_⟩ <;> omega)))
  | ((with_reducible refine' g_setL ?h ?ha ?_); (case h => first | assumption | exact upd_same); (case ha => rfl))
  | with_reducible refine' g_lcR ?_
  | with_reducible refine' g_M1 ?_ | with_reducible refine' g_isS ?_ | with_reducible refine' g_tyS ?_ | ((with_reducible refine' g_tyL ?h ?_); (case h => first | assumption | exact upd_same))
  | ((with_reducible refine' g_cat ?h ?h2 ?hl ?_); (case h => first | assumption | exact upd_same); (case h2 => first | assumption | exact upd_same); (case hl => first | decide | (simp; omega)))
  | with_reducible refine' g_lcS ?_
  | with_reducible refine' g_starts ?_ | with_reducible refine' g_chain ?_
  | ((with_reducible refine' g_lenS ?h ?_); (case h => first | exact len_le (by assumption) | exact len_le (by omega))) | ((with_reducible refine' g_rstrip ?h ?_); (case h => first | exact len_le (by assumption) | exact len_le (by omega))) | ((with_reducible refine' g_slX ?h ?_); (case h => first | exact len_le (by assumption) | exact len_le (by omega)))
  | with_reducible refine' g_sl ?_ | with_reducible refine' g_nopart ?_ | with_reducible refine' g_part ?_ | with_reducible refine' g_isI ?_
  | with_reducible refine' g_tru ?_
  | with_reducible refine' iteT ?_ | with_reducible refine' iteF ?_ | with_reducible refine' iteNT ?_ | with_reducible refine' iteNF ?_
  | with_reducible refine' g_int ?_ | with_reducible refine' g_insg ?_ | with_reducible refine' g_ninsg ?_ | with_reducible refine' g_isN ?_ | with_reducible refine' g_notN ?_ | with_reducible refine' g_lst ?_ | with_reducible refine' g_tup ?_ | with_reducible refine' g_BM ?_ | with_reducible refine' g_BM0 ?_)
local macro_rules | `(tactic| walk_at "go") => `(tactic| repeat' walk_at "go1")
/-! ## the law's stream of draws -/
/-- at st a stream that has been asked at most n times -/
def StAt (H : Hp) (st : Addr) (n : Nat) : Prop := ∃ a b c : Int, H st = some (.lst [.int a, .int b, .int c]) ∧ 0 ≤ a ∧ 0 ≤ b ∧ b < 4294967296 ∧ 0 ≤ c ∧ c ≤ (n : Int)
theorem StAt.mono {H : Hp} {st : Addr} {n m : Nat} (h : StAt H st n) (l : n ≤ m) : StAt H st m := by
  obtain ⟨a, b, c, h0, h1, h2, h3, h4, h5⟩ := h
  exact ⟨a, b, c, h0, h1, h2, h3, h4, by omega⟩
theorem StAt.same {H H' : Hp} {st : Addr} {n : Nat} (h : StAt H st n) (s : Same H H') : StAt H' st n := by
  obtain ⟨a, b, c, h0, h1⟩ := h
  exact ⟨a, b, c, s _ _ h0, h1⟩
theorem StAt.ne {H : Hp} {st p : Addr} {n : Nat} (h : StAt H st n) (hp : H p = none) : st ≠ p := by
  obtain ⟨a, b, c, h0, _⟩ := h
  exact ne_of_none h0 hp
/-- _law_stream(script, k) -/
def spStream (K : PySem.W.Frag) : Sp := fun vs H Q _ => ∃ (a : Addr) (ns : List Int) (k : Nat), vs = [.ref a, .int (k : Int)] ∧ SqL K H a (ns.map V.int) ∧ k < 64 ∧
  ∀ H' st, H st = none → Same H H' → StAt H' st 0 → Q (.ref st) H'
/-- _law_draw(stream, many) -/
def spDraw : Sp := fun vs H Q _ => ∃ (st : Addr) (m n : Nat), vs = [.ref st, .int (m : Int)] ∧ 0 < m ∧ m < 1000000 ∧ StAt H st n ∧ n < 1000000000000 ∧
  ∀ H' (d : Nat), d < m → But st H H' → StAt H' st (n + 1) → Q (.int (d : Int)) H'
/-- _law_pick(stream, things) -/
def spPick (K : PySem.W.Frag) : Sp := fun vs H Q _ => ∃ (st l : Addr) (xs : List V) (n : Nat), vs = [.ref st, .ref l] ∧ SqL K H l xs ∧ l ≠ st ∧ 0 < xs.length ∧ xs.length < 1000000 ∧ StAt H st n ∧ n < 1000000000000 ∧
  ∀ H' v, v ∈ xs → But st H H' → StAt H' st (n + 1) → Q v H'
theorem SqL.but {K : PySem.W.Frag} {H H' : Hp} {a st : Addr} {xs : List V} (h : SqL K H a xs) (n : a ≠ st) (b : But st H H') : SqL K H' a xs := by
  rcases h with (h | ⟨o, h⟩) | h
  · exact .inl (.inl (b _ _ n h))
  · exact .inl (.inr ⟨o, b _ _ n h⟩)
  · exact .inr h
section
variable {P : Program} {w : World} {K : PySem.W.Frag} {mg : Str → Option Value} {base : Heap}
theorem ca_stream (T : Bl K mg) (D : Df K mg "_law_stream" s_law_stream p_law_stream) : Ca P w K mg base 1 "_law_stream" (spStream K) := by
  refine ca_n D sc_law_stream (fun vs H Q E h => ?_) (fun f cdv A outer s H vs Q E hr h => ?_)
  · obtain ⟨a, ns, k, rfl, _⟩ := h
    rfl
  · obtain ⟨a, ns, k, rfl, hS, hk, q⟩ := h
    refine ⟨_, (C8.pss_cut (ps_set (i := 2) sc_law_stream.nd rfl (Or.inl rfl) (pe_ifExp (pt_cmpR op_lt (pv 1) (pe_callB cq_len (by rfl) T.b_len (by decide +kernel) (pa_cons (pv 0) pa_nil)) (nomark _)) (pe_callB cq_abs (by rfl) T.b_abs (by decide +kernel) (pa_cons (pe_ix ix_list (pv 0) (pv 1) (fun _ _ => rfl)) pa_nil)) pe_int))
  (pss_one (ps_ret (pe_lst (pa_cons (pe_ifExp (pt_cmpR op_ge (pv 2) (pe_op op_pow pe_int pe_int) (nomark _)) (pv 2) pe_int) (pa_cons (pe_op op_add (pe_op op_mod (pe_callTy cq_int (by rfl) T.b_int (by decide +kernel) (pa_cons (pv 2) pa_nil)) pe_int) (pe_op op_mul pe_int (pv 1))) (pa_cons pe_int pa_nil))))))), ?_⟩
    refine ⟨fun σ' H' => ∃ z : Int, 0 ≤ z ∧ σ' = [some (.ref a), some (.int (k : Int)), some (.int z)] ∧ H' = H, ?_, ?_⟩
    · walk_at "go"
      refine iteD (fun h => ?_) (fun h => ?_)
      · rw [List.length_map] at h
        have hk2 : k < ns.length := by omega
        have ha : atI (ns.map V.int) ((k : Nat) : Int) = some (.int ns[k]) := atI_nat (by rw [List.getElem?_map, List.getElem?_eq_getElem hk2]; rfl)
        walk_at "go"
        refine g_ixL hS ha ?_
        walk_at "go"
        refine g_abs fun j hj _ => ?_
        walk_at "go"
        exact ⟨j, hj, rfl, rfl⟩
      · walk_at "go"
        exact ⟨0, Int.le_refl _, rfl, rfl⟩
    · rintro σ' H' ⟨z, hz, rfl, rfl⟩
      walk_at "go"
      have e1 : z % 2147483647 < 2147483647 := Int.emod_lt_of_pos z (by decide)
      have e2 : 0 ≤ z % 2147483647 := Int.emod_nonneg z (by decide)
      refine iteD (fun h => ?_) (fun h => ?_)
      all_goals
        walk_at "go"
        refine ⟨by show 3 ≤ sizeLine; decide, fun p hp => ?_⟩
        refine q _ p hp (Same.upd hp) ?_
      · exact ⟨z, _, 0, upd_same, hz, by omega, by omega, by omega, by omega⟩
      · exact ⟨0, _, 0, upd_same, by omega, by omega, by omega, by omega, by omega⟩
theorem fdiv_nonneg {a : Int} {m : Nat} (ha : 0 ≤ a) : 0 ≤ a.fdiv (m : Int) := by
  rw [Int.fdiv_eq_ediv_of_nonneg _ (by omega)]
  exact Int.ediv_nonneg ha (by omega)
theorem ca_draw (T : Bl K mg) (D : Df K mg "_law_draw" s_law_draw p_law_draw) : Ca P w K mg base 1 "_law_draw" spDraw := by
  refine ca_n D sc_law_draw (fun vs H Q E h => ?_) (fun f cdv A outer s H vs Q E hr h => ?_)
  · obtain ⟨st, m, n, rfl, _⟩ := h
    rfl
  · obtain ⟨st, m, n, rfl, hm, hm2, ⟨a, b, c, hs, ha, hb, hb2, hc, hc2⟩, hn, q⟩ := h
    refine ⟨_, (pss_cons (ps_if (pt_cmpR op_gt (pe_ix ix_list (pv 0) pe_int (fun _ _ => rfl)) pe_int (nomark _))
  (pss_cons (ps_set (i := 2) sc_law_draw.nd rfl (Or.inl rfl) (pe_op op_mod (pe_callTy cq_int (by rfl) T.b_int (by decide +kernel) (pa_cons (pe_ix ix_list (pv 0) pe_int (fun _ _ => rfl)) pa_nil)) (pv 1)))
  (pss_cons (ps_asg (pe_op op_fdivN (pe_ix ix_list (pv 0) pe_int (fun _ _ => rfl)) (pv 1)) (pg_sub (pv 0) pe_int set_list))
  (pss_one (ps_ret (pv 2)))))
  pss_nil)
  (pss_cons (ps_asg (pe_op op_add (pe_ix ix_list (pv 0) pe_int (fun _ _ => rfl)) pe_int) (pg_sub (pv 0) pe_int set_list))
  (pss_cons (ps_set (i := 3) sc_law_draw.nd rfl (Or.inl rfl) (pe_op op_mod (pe_op op_pow (pe_callTy cq_int (by rfl) T.b_int (by decide +kernel) (pa_cons (pe_op op_add (pe_op op_add (pe_ix ix_list (pv 0) pe_int (fun _ _ => rfl)) (pe_op op_mul pe_int (pe_ix ix_list (pv 0) pe_int (fun _ _ => rfl)))) pe_int) pa_nil)) pe_int) pe_int))
  (pss_one (ps_ret (pe_op op_mod (pe_op op_fdivN (pe_op op_mod (pe_callTy cq_int (by rfl) T.b_int (by decide +kernel) (pa_cons (pe_op op_mul (pe_op op_add (pv 3) (pe_ix ix_list (pv 0) pe_int (fun _ _ => rfl))) pe_int) pa_nil)) pe_int) pe_int) (pv 1))))))), ?_⟩
    walk_at "go"
    refine iteD (fun h => ?_) (fun h => ?_)
    · walk_at "go"
      have e1 : a % (m : Int) < (m : Int) := Int.emod_lt_of_pos a (by omega)
      have e2 : 0 ≤ a % (m : Int) := Int.emod_nonneg a (by omega)
      have e3 : (((a % (m : Int)).toNat : Nat) : Int) = a % (m : Int) := Int.toNat_of_nonneg e2
      have r := q (L2.upd H st (.lst [.int (a.fdiv (m : Int)), .int b, .int c])) (a % (m : Int)).toNat (by omega) But.upd ⟨_, b, c, upd_same, fdiv_nonneg ha, hb, hb2, hc, by omega⟩
      rw [e3] at r
      exact r
    · walk_at "go"
      generalize hX : ((b + 7919 * (c + 1) + 104729) ^ Int.toNat 5 % 2147483647 + (c + 1)) * 40692 % 2147483629 = X
      have e1 : X.fdiv 7 % (m : Int) < (m : Int) := Int.emod_lt_of_pos _ (by omega)
      have e2 : 0 ≤ X.fdiv 7 % (m : Int) := Int.emod_nonneg _ (by omega)
      have e3 : (((X.fdiv 7 % (m : Int)).toNat : Nat) : Int) = X.fdiv 7 % (m : Int) := Int.toNat_of_nonneg e2
      have r := q (L2.upd H st (.lst [.int a, .int b, .int (c + 1)])) (X.fdiv 7 % (m : Int)).toNat (by omega) But.upd ⟨a, b, c + 1, upd_same, ha, hb, hb2, by omega, by omega⟩
      rw [e3] at r
      exact r
/-- a draw, its many told -/
theorem g_draw {st : Addr} {n m : Nat} {z : Int} {H : Hp} {Q : VK} (hz : z = (m : Int)) (h0 : 0 < m) (h1 : m < 1000000) (hst : StAt H st n) (hn : n < 1000000000000) (k : ∀ H' (d : Nat), d < m → But st H H' → StAt H' st (n + 1) → Q (.int (d : Int)) H') :
    spDraw [.ref st, .int z] H Q E0 := by
  subst hz
  exact ⟨st, m, n, rfl, h0, h1, hst, hn, k⟩
theorem at_lt {xs : List V} {d : Nat} (h : d < xs.length) : ∃ v, v ∈ xs ∧ atI xs ((d : Nat) : Int) = some v := ⟨xs[d], List.getElem_mem h, atI_nat (List.getElem?_eq_getElem h)⟩
theorem ca_pick (T : Bl K mg) (D : Df K mg "_law_pick" s_law_pick p_law_pick) (c_law_draw : Ca P w K mg base 1 "_law_draw" spDraw) : Ca P w K mg base 2 "_law_pick" (spPick K) := by
  refine ca_n D sc_law_pick (fun vs H Q E h => ?_) (fun f cdv A outer s H vs Q E hr h => ?_)
  · obtain ⟨st, l, xs, n, rfl, _⟩ := h
    rfl
  · obtain ⟨st, l, xs, n, rfl, hS, hne, h0, h1, hst, hn, q⟩ := h
    refine ⟨_, (pss_one (ps_ret (pe_ix ix_list (pv 1) (pe_ca c_law_draw hr (by decide) (by rfl) (pa_cons (pv 0) (pa_cons (pe_callB cq_len (by rfl) T.b_len (by decide +kernel) (pa_cons (pv 1) pa_nil)) pa_nil))) (fun _ _ => rfl)))), ?_⟩
    walk_at "go"
    refine ⟨st, xs.length, n, rfl, h0, h1, hst, hn, fun H' d hd hb hst' => ?_⟩
    obtain ⟨v, hv, ha⟩ := at_lt hd
    refine g_ixL (SqL.but hS hne hb) ha ?_
    exact q H' v hv hb hst'
/-- things[draw(stream, n)], the things written there -/
theorem g_pick {st p : Addr} {n : Nat} {xs : List V} {z : Int} {H : Hp} {Q : VK} (hz : z = ((xs.length : Nat) : Int)) (hp : H p = none) (hst : StAt H st n) (hn : n < 1000000000000) (h0 : 0 < xs.length) (h1 : xs.length < 1000000) (k : ∀ H' v, v ∈ xs → But st H H' → StAt H' st (n + 1) → Q v H') :
    spDraw [.ref st, .int z] (L2.upd H p (.lst xs)) (fun y H2 => rIxL K (.ref p) y H2 Q) E0 := by
  subst hz
  refine ⟨st, xs.length, n, rfl, h0, h1, hst.same (Same.upd hp), hn, fun H1 d hd b1 s1 => ?_⟩
  obtain ⟨v, hv, ha⟩ := at_lt hd
  refine g_ixL (SqL.of (b1 _ _ (hst.ne hp).symm upd_same)) ha ?_
  exact k H1 v hv ((But.of (Same.upd hp)).trans b1) s1
end
end Op

namespace Op
open PySem PySem.Spec PyProof.Rows L2
/-! ## methods, makings, errors with one field -/
section
variable {X : Cx} {k j : Nat} {C : Addr} {x m : Str} {sp : Sp} {p pos apos : Pos} {e o : Expr} {es : List Expr} {ta : TE} {t : TA}
/-- o.m(..), nothing raised -/
def rCm (C : Addr) (m : Str) (sp : Sp) (t : TA) (σ : L2.St) (x : V) (H1 : Hp) (Q : VK) : Prop := ∃ a dx fs, x = .ref a ∧ H1 a = some (.ins C dx fs) ∧ fs.lookup m = none ∧ t σ H1 fun vs H2 => sp (x :: vs) H2 Q E0
def tCm (C : Addr) (m : Str) (sp : Sp) (ta : TE) (t : TA) : TE := fun σ H Q => ta σ H fun x H1 => rCm C m sp t σ x H1 Q
theorem g_cm {σ : L2.St} {H : Hp} {Q : VK} (k : ta σ H fun x H1 => rCm C m sp t σ x H1 Q) : tCm C m sp ta t σ H Q := k
theorem g_rcm {σ : L2.St} {H : Hp} {Q : VK} {a dx : Addr} {fs : List (Str × V)} (h : H a = some (.ins C dx fs)) (hl : fs.lookup m = none) (k : t σ H fun vs H2 => sp (.ref a :: vs) H2 Q E0) : rCm C m sp t σ (.ref a) H Q := ⟨a, dx, fs, rfl, h, hl, k⟩
theorem tCm_eq : tMeth C m sp [] E0 ta t = tCm C m sp ta t := by
  funext σ H Q
  unfold tMeth tCm rCm
  simp only [List.append_nil]
theorem pe_cm {pl : Sem Bool} (c : Cm X.prog X.w X.K X.mg X.base k C m sp) (cl : Cls X.K C) (hr : Room j X.A) (hk : k ≤ j) (he : PE X o ta) (ha : PA X (e :: es) t)
    (hs1 : starEach (e :: es) X.env = (false, eval e X.env) :: starEach es X.env := by rfl) (hp1 : (backTo pos (starEach es X.env)).any (·.1) = false := by rfl)
    (ht : eval (.Call (.Attribute o m apos) (e :: es) [] pos) X.env = (do
      let ov ← eval o X.env
      standAt apos.atName
      let (g, first) ← holding [ov] (getMethod ov m pl)
      callWith pos g first (backTo pos (starEach (e :: es) X.env)) (backToKw pos (keywordEach [] X.env))) := by rfl) :
    PE X (.Call (.Attribute o m apos) (e :: es) [] pos) (tCm C m sp ta t) := by
  obtain ⟨f, fd, ps, F, hm, b⟩ := c.ex
  rw [← tCm_eq]
  exact pe_meth (pl := pl) he cl hm F (hr.mono hk) b .nil passL ha hs1 hp1 ht
theorem pe_cm0 {pl : Sem Bool} (c : Cm X.prog X.w X.K X.mg X.base k C m sp) (cl : Cls X.K C) (hr : Room j X.A) (hk : k ≤ j) (he : PE X o ta)
    (ht : eval (.Call (.Attribute o m apos) [] [] pos) X.env = (do
      let ov ← eval o X.env
      standAt apos.atName
      let (g, first) ← holding [ov] (getMethod ov m pl)
      callWith pos g first (backTo pos (starEach [] X.env)) (backToKw pos (keywordEach [] X.env))) := by rfl) :
    PE X (.Call (.Attribute o m apos) [] [] pos) (tCm C m sp ta tNil) := by
  obtain ⟨f, fd, ps, F, hm, b⟩ := c.ex
  rw [← tCm_eq]
  exact pe_meth0 (pl := pl) he cl hm F (hr.mono hk) b .nil passL ht
/-- a class of the module that may be made -/
structure Ck (P : Program) (w : World) (K : PySem.W.Frag) (mg : Str → Option Value) (base : Heap) (k : Nat) (x : Str) (C : Addr) (sp : Sp) : Prop where
  ex : ∃ (f : Addr) (fd : FuncData) (ps : List Str), Mk K C f ∧ FnOk P w K mg base (L2.CX P w) k f fd ps sp ∧ mg x = some (.ref C) ∧ Binds K fd ps []
/-- C(..), where what it raises is wished for at the slots -/
def tMk (C : Addr) (sp : Sp) (E : L2.St → XK) (t : TA) : TE := fun σ H Q => t σ H fun vs H1 => ∀ x dx, H1 x = none → H1 dx = none → dx ≠ x →
  sp (.ref x :: vs) (upd (upd H1 dx (.own x)) x (.ins C dx [])) (fun v H2 => v = .non ∧ Q (.ref x) H2) (E σ)
theorem g_mk {E : L2.St → XK} {σ : L2.St} {H : Hp} {Q : VK} (k : t σ H fun vs H1 => ∀ x dx, H1 x = none → H1 dx = none → dx ≠ x → sp (.ref x :: vs) (upd (upd H1 dx (.own x)) x (.ins C dx [])) (fun v H2 => v = .non ∧ Q (.ref x) H2) (E σ)) : tMk C sp E t σ H Q := k
theorem run_mk {pins : List (Addr × Obj)} {σ : L2.St} {H : Hp} {s : Shared} {Q : VK} {E : XK} {us : List Value} {vs : List V} (c : Ck X.prog X.w X.K X.mg X.base k x C sp) (hr : Room (k + 1) X.A) (hx : PassesAt (L2.CX X.prog X.w) X σ E)
    (I : Inv X pins σ H s) (r : Vals vs us) (h : ∀ x dx, H x = none → H dx = none → dx ≠ x → sp (.ref x :: vs) (upd (upd H dx (.own x)) x (.ins C dx [])) (fun v H2 => v = .non ∧ Q (.ref x) H2) E) : wpAny (model X.prog X.w) X.A (call (.ref C) us) (EP X pins σ Q) X.xe s := by
  obtain ⟨f, fd, ps, M, F, hm, b⟩ := c.ex
  have q := h _ _ (I.hok.fresh (Nat.le_succ s.heap.objs.size)) (I.hok.fresh (Nat.le_refl s.heap.objs.size)) (Nat.ne_of_lt (Nat.lt_succ_self _))
  have J : Inv X pins σ _ _ := Inv.made (C := C) I
  have rr : Vals (V.ref (s.heap.objs.size + 1) :: vs) (Value.ref (s.heap.objs.size + 1) :: us) := .cons rfl r
  have hl : (Value.ref (s.heap.objs.size + 1) :: us).length = ps.length := rr.length.symm.trans (F.len _ _ _ _ q)
  have hb := b _ (Value.ref (s.heap.objs.size + 1) :: us) J.kIn (by rw [List.append_nil]; exact hl)
  rw [List.append_nil] at hb
  have run := F.run _ X.stack _ _ ⟨Value.ref (s.heap.objs.size + 1) :: us, []⟩ _ _ _ E (hr.make C us []) (J.env0.make C us []) hb rr q
  refine wpAny_call (make_map (f := f) I.kIn M.makes M.init (beq_iff_eq.mp M.fn) (codeAny_mono run fun r s' hq => ?_))
  match r, hq with
  | .error e, hq => exact hx pins _ _ e s' J hq
  | .ok (.ret u), hq =>
    obtain ⟨v, H', J', rv, ev, q3⟩ := J.after hq
    subst ev
    exact ⟨rv, V.ref (s.heap.objs.size + 1), H', J', rfl, q3⟩
  | .ok .next, hq => exact False.elim hq
  | .ok .brk, hq => exact False.elim hq
  | .ok .cont, hq => exact False.elim hq
theorem pe_mk {E : L2.St → XK} (c : Ck X.prog X.w X.K X.mg X.base k x C sp) (hr : Room j X.A) (hk : k + 1 ≤ j) (hx : ∀ σ, PassesAt (L2.CX X.prog X.w) X σ (E σ)) (hg : Gl X x) (ha : PA X (e :: es) t)
    (hdb : (x == ("__debug__" : Str)) = false := by decide) (hs1 : starEach (e :: es) X.env = (false, eval e X.env) :: starEach es X.env := by rfl) (hp1 : (backTo pos (starEach es X.env)).any (·.1) = false := by rfl) :
    PE X (.Call (.Name x p) (e :: es) [] pos) (tMk C sp E t) := by
  obtain ⟨_, _, _, M, _, hm, _⟩ := c.ex
  refine ⟨fun pins s σ H Q I h => wpAny_Call_Name_kw (ld_glob I hg hm ?_ hdb)⟩
  refine PySem.W.callWith_K (h₀ := X.base) I.ok.mod.kin M.kp ?_ hs1 hp1
  refine thn (ha.run pos pins s σ H _ I h) fun us s1 hh => ?_
  obtain ⟨vs, H1, I1, r, q⟩ := hh
  exact ⟨I1.kIn, run_mk c (hr.mono hk) (hx σ) I1 r q⟩
/-- nothing raised -/
theorem passE0 : ∀ σ : L2.St, PassesAt (L2.CX X.prog X.w) X σ ((fun _ => E0) σ) := fun σ pins H s e s' I h => passL pins σ H s e s' I h
/-! ### an own error class whose __init__ stores its one parameter -/
def spErr (K : PySem.W.Frag) (f : Str) : Sp := fun vs H Q _ => ∃ (a C : Addr) (y : V), vs = [.ref a, y] ∧ OexC K C ∧ PySem.W.findIn K (.ref C) f = some none ∧ H a = some (exo a C none) ∧
  ∀ dx, H dx = none → dx ≠ a → Q .non (upd (upd H dx (exd dx [(f, y)])) a (exo a C (some dx)))
/-- what is known of such a class, named x, with the field f -/
structure Er (P : Program) (w : World) (K : PySem.W.Frag) (mg : Str → Option Value) (base : Heap) (k : Nat) (x : Str) (C : Addr) (f : Str) : Prop where
  ex : ∃ (fI : Addr) (fd : FuncData) (ps : List Str), FnOk P w K mg base (L2.CX P w) k fI fd ps (spErr K f) ∧ PySem.W.findIn K (.ref C) "__init__" = some (some (.ref fI)) ∧ PySem.W.typeIn K (.ref fI) = some (.type "function") ∧ Binds K fd ps []
  oex : OexC K C
  no : PySem.W.findIn K (.ref C) f = some none
  gC : mg x = some (.ref C)
  xf : XfC K C
  te : PySem.W.exmOne K (.ref C) (.ref C) = some true
/-- arguments' reading, closed under what follows -/
def monA (t : TA) : TA := fun σ H Q => ∃ Q1, t σ H Q1 ∧ ∀ vs H', Q1 vs H' → Q vs H'
theorem pa_mon (h : PA X es t) : PA X es (monA t) := ⟨fun pos pins s σ H Q I q => by
  obtain ⟨Q1, h1, h2⟩ := q
  exact thn (h.run pos pins s σ H Q1 I h1) fun us s' z => by
    obtain ⟨vs, H', I', r, q⟩ := z
    exact ⟨vs, H', I', r, h2 _ _ q⟩⟩
/-- raise X(e) -/
def tRz (C : Addr) (f : Str) (W : WX) (ta : TA) : TS := fun _ σ H => ta σ H fun vs H1 => ∃ y, vs = [y] ∧ ∀ d, H1 d = none → W (.ref C) (some d) σ (upd H1 d (.xd [(f, y)]))
theorem del_back {H1 : Hp} {a dx : Addr} {o o2 u v : HO} (ha : H1 a = none) (n : dx ≠ a) : upd (del (upd (upd (upd H1 a o) dx u) a o2) a) dx v = upd H1 dx v := by
  funext b
  by_cases hb : b = dx
  · subst hb; rw [upd_same, upd_same]
  · rw [upd_ne hb, upd_ne hb]
    by_cases hc : b = a
    · subst hc; rw [del_same, ha]
    · rw [del_ne hc, upd_ne hc, upd_ne hb, upd_ne hc]
theorem ps_rz {f : Str} {W : WX} {pos2 : Pos} (hc : X.calm = true) (c : Er X.prog X.w X.K X.mg X.base k x C f) (hr : Room j X.A) (hk : k + 1 ≤ j) (tk : Takes X W) (hg : Gl X x) (ha : PA X (e :: es) t)
    (hdb : (x == ("__debug__" : Str)) = false := by decide) (hs1 : starEach (e :: es) X.env = (false, eval e X.env) :: starEach es X.env := by rfl) (hp1 : (backTo pos (starEach es X.env)).any (·.1) = false := by rfl) :
    PS X (.Raise (some (.Call (.Name x p) (e :: es) [] pos)) none pos2) (tRz C f W t) := by
  obtain ⟨fI, fd, ps, F, iC, tI, b⟩ := c.ex
  have h := ps_raise (pos := pos2) hc tk (pmk_oex (p := p) (pos := pos) c.oex iC tI F (hr.mono hk) b .nil passL hg c.gC (pa_mon ha) hdb hs1 hp1)
  refine ⟨fun pins s σ H D I hh => h.run pins s σ H D I ⟨_, hh, fun vs H1 q => ?_⟩⟩
  obtain ⟨y, rfl, q⟩ := q
  refine ⟨by show 1 ≤ 1000; decide, fun a hn => ⟨a, C, y, rfl, c.oex, c.no, upd_same, fun dx hdx ne => ⟨rfl, dx, [(f, y)], upd_same, ?_, ?_, ?_⟩⟩⟩
  · rw [upd_ne ne, upd_same]
  · rw [upd_ne ne] at hdx
    exact hdx
  · show W (.ref C) (some dx) σ _
    rw [del_back hn ne]
    rw [upd_ne ne] at hdx
    exact q dx hdx
end
section
variable {P : Program} {w : World} {K : PySem.W.Frag} {mg : Str → Option Value} {base : Heap}
/-- self.f = f, all that such an __init__ does -/
theorem err_body {f qual : Str} {st : Stmt} {C : Addr} {p1 p2 p3 p4 : Pos} (hb : defBody st = [.Assign [.Attribute (.Name "self" p1) f p2] (.Name f p3) p4]) (S : FnScope ["self", f] ["self", f] (defScope st)) (v0 : Vis (defScope st) "self") (v1 : Vis (defScope st) f)
    (hd : (f == ("__debug__" : Str)) = false) (hcd : (f == ("__classdict__" : Str)) = false) : BodyN P w K mg base ["self", f] qual st 0 (spErr K f) := by
  intro g cdv A outer s H vs Q E hr h
  obtain ⟨a, C, y, rfl, T, no, ha, q⟩ := h
  rw [hb]
  refine ⟨_, pss_one (ps_ost (pe_var (i := 0) rfl v0) (pe_var (i := 1) rfl v1 hd hcd) (by rfl)), ?_⟩
  exact ⟨y, rfl, .ref a, rfl, a, C, rfl, T, no, .inl ⟨ha, q⟩⟩
end
/-! ### for x in range(n) -/
def rFor (g : TG) (tb : TS) (D : Ends) (σ : L2.St) (xs : List V) (H : Hp) : Prop := ∃ n : Int, xs = [.int n] ∧ -(2 ^ 62) ≤ n ∧ n < 2 ^ 62 ∧ ∃ W : Nat → Nat → L2.St → Hp → Prop, (∃ m, W 0 m σ H) ∧ ∀ i m σ H, W i m σ H →
  ((Itr 0 n.toNat).stop i H ∧ D.nx σ H) ∨ ((Itr 0 n.toNat).go i H ∧ ∃ N : L2.St → Hp → Prop, (∀ σ' H', N σ' H' → ∃ m', m' < m ∧ W (i + 1) m' σ' H') ∧ ∀ x H', (Itr 0 n.toNat).yld i H x H' → g x σ H' fun σ2 H2 => tb { D with nx := N, ct := N, bk := D.nx } σ2 H2)
theorem g_for {tl : TA} {g : TG} {tb : TS} {D : Ends} {σ : L2.St} {H : Hp} (k : tl σ H fun xs H1 => rFor g tb D σ xs H1) : tFor (iRng1 tl) g tb D σ H := k
theorem r_for {j : Nat} {tb : TS} {D : Ends} {σ : L2.St} {n : Int} {H : Hp} (Pv : Nat → L2.St → Hp → Prop) (hn : -(2 ^ 62) ≤ n ∧ n < 2 ^ 62) (h0 : Pv 0 σ H)
    (hs : ∀ (i : Nat) σ' H', i < n.toNat → Pv i σ' H' → tb { D with nx := Pv (i + 1), ct := Pv (i + 1), bk := D.nx } (σ'.set j (some (.int (i : Int)))) H') (hd : ∀ σ' H', Pv n.toNat σ' H' → D.nx σ' H') : rFor (gName j) tb D σ [.int n] H :=
  ⟨n, rfl, hn.1, hn.2, for_range (lo := 0) (n := n.toNat) Pv h0 (fun i σ' H' hi p => by
    have r := hs i σ' H' hi p
    rw [← Int.zero_add (i : Int)] at r
    exact r) hd⟩
theorem g_par {i j : Nat} {ta : TA} {D : Ends} {σ : L2.St} {H : Hp} (k : ta σ H fun vs H1 => ∃ v w, vs = [v, w] ∧ D.nx ((σ.set i (some v)).set j (some w)) H1) : tPar i j ta D σ H := k
end Op

namespace Op
open PySem PySem.Spec PyProof.Rows L2
/-! ## errors held as values: made by place, by name, their field read, isinstance -/
theorem upd_new2 {H : Hp} {a d : Addr} {o u v : HO} (ne : d ≠ a) : upd (upd (upd H a o) d u) a v = upd (upd H d u) a v := by
  funext b
  by_cases hb : b = a
  · rw [hb, upd_same, upd_same]
  · rw [upd_ne hb, upd_ne hb]
    by_cases hc : b = d
    · rw [hc, upd_same, upd_same]
    · rw [upd_ne hc, upd_ne hc, upd_ne hb]
section
variable {X : Cx} {k j : Nat} {C : Addr} {x f : Str} {p pos : Pos} {e o : Expr} {es : List Expr} {ta : TE} {t : TA}
/-- at a: an error of the class at C that has its dict at d, with the field f = y -/
def ErAt (H : Hp) (a C d : Addr) (f : Str) (y : V) : Prop := H a = some (exo a C (some d)) ∧ H d = some (exd d [(f, y)])
/-- C(e) as a value -/
def tXv (C : Addr) (f : Str) (t : TA) : TE := fun σ H Q => t σ H fun vs H1 => ∃ y, vs = [y] ∧ ∀ a d, H1 a = none → H1 d = none → d ≠ a → Q (.ref a) (upd (upd H1 d (exd d [(f, y)])) a (exo a C (some d)))
theorem pe_xv (c : Er X.prog X.w X.K X.mg X.base k x C f) (hr : Room j X.A) (hk : k + 1 ≤ j) (hg : Gl X x) (ha : PA X (e :: es) t)
    (hdb : (x == ("__debug__" : Str)) = false := by decide) (he : starEach (e :: es) X.env = (false, eval e X.env) :: starEach es X.env := by rfl) (hpl : (backTo pos (starEach es X.env)).any (·.1) = false := by rfl) :
    PE X (.Call (.Name x p) (e :: es) [] pos) (tXv C f t) := by
  obtain ⟨fI, fd, ps, F1, iC, tI, b⟩ := c.ex
  have T := c.oex
  refine ⟨fun pins s σ H Q I h => ?_⟩
  obtain ⟨nm, q, N, bs, bm, sn, sub, ab, col, dd, k0, k1, k2, k3, k5, hC, hbm⟩ := T.cls
  refine wpAny_Call_Name_kw (ld_glob I hg c.gC ?_ hdb)
  refine PySem.W.callWith_K (h₀ := X.base) I.ok.mod.kin T.kC (thn (ha.run pos pins s σ H _ I h) fun us s1 ⟨vs, H1, I1, r1, y, hy, q1⟩ => ⟨I1.kIn, ?_⟩) he hpl
  subst hy
  show wpAny _ _ (call (.ref C) us) _ _ _
  obtain ⟨hp, g, dr, tk, os⟩ := s1
  have hsz : hp.objs.size ≤ hp.objs.size + 1 := Nat.le_succ _
  have hn : H1 (hp.objs.size + 1) = none := I1.hok.fresh hsz
  have hq : spErr X.K f [.ref (hp.objs.size + 1), y] (upd H1 (hp.objs.size + 1) (exo (hp.objs.size + 1) C none)) (fun v H2 => v = .non ∧ Q (.ref (hp.objs.size + 1)) H2) E0 :=
    ⟨hp.objs.size + 1, C, y, rfl, T, c.no, upd_same, fun dx ndx ne => ⟨rfl, by
      rw [upd_ne ne] at ndx
      have z := q1 (hp.objs.size + 1) dx hn ndx ne
      rw [upd_new2 ne]
      exact z⟩⟩
  have kk : ∀ b o, hp.get? b = some o → ((hp.push (PySem.W.kdv_tup us)).push (PySem.HandSPX.excO C hp.objs.size)).get? b = some o := fun b o e => Heap.get?_push_of_some _ (Heap.get?_push_of_some _ e)
  have hget : ((hp.push (PySem.W.kdv_tup us)).push (PySem.HandSPX.excO C hp.objs.size)).get? (hp.objs.size + 1) = some (PySem.HandSPX.excO C hp.objs.size) := by heap_get
  have I2 : Inv X pins σ (upd H1 (hp.objs.size + 1) (exo (hp.objs.size + 1) C none)) ⟨(hp.push (PySem.W.kdv_tup us)).push (PySem.HandSPX.excO C hp.objs.size), g, dr, tk, os⟩ :=
    I1.laid (t' := tk) (a := hp.objs.size + 1) (o := exo (hp.objs.size + 1) C none) (h' := (hp.push (PySem.W.kdv_tup us)).push (PySem.HandSPX.excO C hp.objs.size)) kk hsz (exo_ok hget)
  have r2 : Vals (V.ref (hp.objs.size + 1) :: [y]) (Value.ref (hp.objs.size + 1) :: us) := .cons rfl r1
  have hl : (Value.ref (hp.objs.size + 1) :: us).length = ps.length := r2.length.symm.trans (F1.len _ _ _ _ hq)
  have hus : us.length ≤ sizeLine := by
    rw [← Paired.length r1, sizeLine_eq]
    show 1 ≤ 16777216
    decide
  have hb := b _ (Value.ref (hp.objs.size + 1) :: us) I2.kIn (by rw [List.append_nil]; exact hl)
  rw [List.append_nil] at hb
  refine wpAny_call (PySem.HandSPX.call_own F.excBase_ValueError (fun Y => PySem.HandSPX.refsVE_contains Y bm hbm) (I1.kIn _ _ hC) (PySem.W.looks_findIn I1.kIn iC) (fun self => PySem.W.bind_fn I1.kIn self tI) hus
    (codeAny_mono (F1.run _ X.stack _ _ ⟨Value.ref (hp.objs.size + 1) :: us, []⟩ (Value.ref (hp.objs.size + 1) :: us) _ _ E0 ((hr.mono hk).make C us []) (I2.env0.make C us []) hb r2 hq) fun r s' hq' => ?_))
  match r, hq' with
  | .error er, hq' => exact passL pins σ _ _ er s' I2 hq'
  | .ok (.ret u), hq' =>
    obtain ⟨v, H', J', rv, ev, q3⟩ := I2.after hq'
    subst ev
    exact ⟨rv, V.ref (hp.objs.size + 1), H', J', rfl, q3⟩
  | .ok .next, hq' => exact False.elim hq'
  | .ok .brk, hq' => exact False.elim hq'
  | .ok .cont, hq' => exact False.elim hq'
/-- o.f of an error with a dict -/
def rXf (C : Addr) (f : Str) (x : V) (H : Hp) (Q : VK) : Prop := ∃ (a d : Addr) (y : V), x = .ref a ∧ H a = some (exo a C (some d)) ∧ H d = some (exd d [(f, y)]) ∧ Q y H
def tXvf (C : Addr) (f : Str) (ta : TE) : TE := fun σ H Q => ta σ H fun x H1 => rXf C f x H1 Q
theorem pe_xvf {P : Program} {w : World} {mg : Str → Option Value} {base : Heap} (c : Er P w X.K mg base k x C f) (ho : PE X o ta) (hb : attributeBase o f X.env (eval o X.env) = eval o X.env := by rfl) : PE X (.Attribute o f pos) (tXvf C f ta) := by
  refine ⟨fun pins s σ H Q I h => ?_⟩
  refine attr_of hb (thn (ho.run pins s σ H _ I h) fun u s1 hh => ?_)
  obtain ⟨x, H1, I1, rx, a, d, y, ex, ea, ed, q⟩ := hh
  subst ex
  obtain rfl : u = Value.ref a := rx
  obtain ⟨t1, hoe⟩ := exo_at I1.hok ea
  obtain ⟨mA, hns, hr⟩ := exd_at I1.hok ed
  obtain ⟨od, ho, hl⟩ := lookIn_ns hns
  obtain ⟨u, hu, ru⟩ := RelO.some_of (v := y) (o := mA f) (by have := hr f; rw [lookup_put, if_pos rfl] at this; exact this)
  have J : PySem.W.InstAt s1.heap a { cls := .ref C, dict := some d, data := .fields #[.ref t1, .none, .none, .none, .bool false, .none] } C (some od) := ⟨hoe, rfl, rfl, ho⟩
  exact HandSPX.exc_get I1.kIn J c.xf.ga c.xf.gg c.xf.exC (PySem.W.findObj_own c.xf.hdC c.no rfl (by rw [hl, hu])) (handed_of ru) ⟨y, H1, I1.tok _, ru, q⟩
end
end Op

namespace Op
open PySem PySem.Spec PyProof.Rows L2
/-! ## C(f = e), an own error class with an own __init__, and C() without one; isinstance -/
section
open PySem.HandSPX Builtin
variable {pg : Program} {wd : World} {AR : Around} {EE : Value → Shared → Prop} {RR : Result → Shared → Prop} {hh : Heap} {gg : Array GenState} {dw : Drawn} {tt0 : Nat} {oz : OsState}
variable {n1 n2 : Str} {CC NN : Addr} {b1 b2 bB : List Value} {hD : Bool} {s1 : List Str} {s2 : List Value} {aB : Bool} {cO : Option Bool} {dD : Option Addr} {q0 q1 q2 q3 q5 : Option Value} {BB iN iI : String}
theorem kw_check_new {kw : List (Str × Value)} {M : Model} (F : ExcBaseFacts BB iN iI bB) (hT : ∀ Y : String, b2.contains (.type Y) = bB.contains (.type Y)) {Q : Unit → Shared → Prop}
    (hC : hh.get? CC = some (excClassObj n1 n2 CC NN b1 b2 hD s1 s2 aB cO dD q0 q1 q2 q3 q5 iN)) (hq : Q () ⟨hh, gg, dw, tt0, oz⟩) : wpAny M AR (checkBuiltinCall iN ⟨[.ref CC], kw⟩) Q EE ⟨hh, gg, dw, tt0, oz⟩ := by
  have c1 : (Value.ref CC :: b2).contains (.type BB) = true := by rw [List.contains_cons, hT, F.hasB, Bool.or_true]
  have ns := F.noStar
  simp only [checkBuiltinCall, F.newKind, F.newSplit, F.newRow]
  repeat (first | (refine wpAny_isSubtype_exc hC ?_; rw [c1]) | refine wpAny_loadPart_at hC ?_ | refine wpAny_madeBy_exc hC ?_ | refine wpAny_staticBase_exc hC ?_ | simp only [bne_self_eq_false, Bool.false_eq_true, if_false] | wp_step)
  exact hq
theorem kw_new {kw : List (Str × Value)} (F : ExcBaseFacts BB iN iI bB) (hT : ∀ Y : String, b2.contains (.type Y) = bB.contains (.type Y))
    (hC : hh.get? CC = some (excClassObj n1 n2 CC NN b1 b2 hD s1 s2 aB cO dD q0 q1 q2 q3 q5 iN))
    (hq : RR (.ok (.ret (.ref (hh.objs.size + 1)))) ⟨(hh.push (PySem.W.kdv_tup [])).push (excO CC hh.objs.size), gg, dw, tt0, oz⟩) :
    codeAny (model pg wd) AR (.builtin iN ⟨[.ref CC], kw⟩) RR ⟨hh, gg, dw, tt0, oz⟩ := by
  have he := F.ends
  have c1 : (Value.ref CC :: b2).contains (.type BB) = true := by rw [List.contains_cons, hT, F.hasB, Bool.or_true]
  have c2 : (Value.ref CC :: b2).contains (.type "AttributeError") = false := by rw [List.contains_cons, hT, F.noAttr]; rfl
  have c3 : (Value.ref CC :: b2).contains (.type "NameError") = false := by rw [List.contains_cons, hT, F.noName]; rfl
  have hz : ([] : List Value).length ≤ sizeLine := Nat.zero_le _
  refine codeAny_builtinAt F.entry ?_
  unfold Builtin.«BaseException.__new__»
  refine PyProof.Rows.wpAt_bind ?_
  show PyProof.Rows.wpAt _ _ _ (stack >>= _) _ _ _
  refine PyProof.Rows.wpAt_bind (PyProof.Rows.wpAt_stack fun p below => wpAt_of_wpAny ?_)
  wp_walk
  refine wpAt_of_wpAny ?_
  rw [F.owner]
  repeat (first | with_reducible refine wpAny_loadPart_at hC ?_ | with_reducible refine wpAny_madeHere_exc F.canon hC ?_ | (with_reducible refine wpAny_isSubtype_exc hC ?_; first | rw [c1] | rw [c2] | rw [c3]) | wp_step)
  show RR _ _
  rw [Heap.size_push]
  exact hq
theorem kw_type_call {kw : List (Str × Value)} (F : ExcBaseFacts BB iN iI bB) (hT : ∀ Y : String, b2.contains (.type Y) = bB.contains (.type Y)) {fI : Addr} {Q : Fin → Shared → Prop}
    (hC : hh.get? CC = some (excClassObj n1 n2 CC NN b1 b2 hD s1 s2 aB cO dD q0 q1 q2 q3 q5 iN))
    (hi : PySem.W.Looks (model pg wd) hh (typeLookup (.ref CC) "__init__") (some (.ref fI))) (hb : ∀ me, PySem.W.Looks (model pg wd) hh (bindSpecial (.ref fI) me) (.ref fI, [me]))
    (hq : codeAny (model pg wd) AR (.call (.ref fI) ⟨[.ref (hh.objs.size + 1)], kw⟩)
      (fun r s' => match r with | .ok (.ret v) => v = .none ∧ Q (.done (.ret (.ref (hh.objs.size + 1)))) s' | .ok _ => False | .error e => EE e s')
      ⟨(hh.push (PySem.W.kdv_tup [])).push (excO CC hh.objs.size), gg, dw, tt0, oz⟩) :
    wpAny (model pg wd) AR (Builtin.«type.__call__» ⟨[.ref CC], kw⟩) Q EE ⟨hh, gg, dw, tt0, oz⟩ := by
  repeat (first | with_reducible refine wpAny_madeBy_exc hC ?_ | with_reducible refine wpAny_loadPart_at hC ?_ | wp_step)
  refine codeAny_call_builtin_code (Code.quiet_builtin _ F.quiet) (kw_check_new F hT hC ?_)
  refine kw_new F hT hC ?_
  show wpAny _ _ _ _ _ _
  have k2 : ∀ c u, hh.get? c = some u → ((hh.push (PySem.W.kdv_tup [])).push (excO CC hh.objs.size)).get? c = some u := fun c u z => Heap.get?_push_of_some _ (Heap.get?_push_of_some _ z)
  have hC2 := k2 _ _ hC
  have hg2 : ((hh.push (PySem.W.kdv_tup [])).push (excO CC hh.objs.size)).get? (hh.objs.size + 1) = some (excO CC hh.objs.size) := by heap_get
  have c9 : (Value.ref CC :: b2).contains (.ref CC) = true := by simp
  have j1 := hi.keeps k2
  have j2 := (hb (.ref (hh.objs.size + 1))).keeps k2
  unfold isInstance
  repeat (first | with_reducible refine wpAny_loadPart_at hg2 ?_ | (with_reducible refine wpAny_isSubtype_exc hC2 ?_; rw [c9]) | wp_step)
  show wpAny _ _ (typeLookup (.ref CC) _) _ _ _
  refine j1.at ?_
  refine wpAny_holding (wpAny_bind (j2.at ?_))
  refine wpAny_bind (wpAny_call (codeAny_mono hq fun r s' z => ?_))
  rcases r with e | (v | _ | _ | _) <;> first | exact z | exact z.elim | skip
  obtain ⟨rfl, z⟩ := z
  first | exact wpAny_pure (wpAny_pure z) | (wp_walk; exact z)
theorem kw_call {kw : List (Str × Value)} (F : ExcBaseFacts BB iN iI bB) (hT : ∀ Y : String, b2.contains (.type Y) = bB.contains (.type Y)) {fI : Addr}
    (hC : hh.get? CC = some (excClassObj n1 n2 CC NN b1 b2 hD s1 s2 aB cO dD q0 q1 q2 q3 q5 iN))
    (hi : PySem.W.Looks (model pg wd) hh (typeLookup (.ref CC) "__init__") (some (.ref fI))) (hb : ∀ me, PySem.W.Looks (model pg wd) hh (bindSpecial (.ref fI) me) (.ref fI, [me]))
    (hq : codeAny (model pg wd) (AR.under (.builtin "type.__call__" ⟨[.ref CC], kw⟩)) (.call (.ref fI) ⟨[.ref (hh.objs.size + 1)], kw⟩) (PySem.W.InitBack (hh.objs.size + 1) RR)
      ⟨(hh.push (PySem.W.kdv_tup [])).push (excO CC hh.objs.size), gg, dw, tt0, oz⟩) :
    codeAny (model pg wd) AR (.call (.ref CC) ⟨[], kw⟩) RR ⟨hh, gg, dw, tt0, oz⟩ := by
  have g1 := tc_lookup
  have g2 := tc_bind (.ref CC)
  have g3 := tc_sub
  have hTy : (⟨hh, gg, dw, tt0, oz⟩ : Shared).TypeIs (.ref CC) "type" := ⟨_, hC, rfl⟩
  refine codeAny_of_tree ?_
  show wpAny _ _ (callAny (.ref CC) _) _ _ _
  repeat (any_goals (first | assumption | with_reducible refine wpAny_loadPart_at hC ?_ | wp_step))
  refine ⟨rfl, ?_⟩
  have ck : ∀ AZ : Around, wpAny (model pg wd) AZ (checkBuiltinCall "type.__call__" ⟨[.ref CC], kw⟩) (fun _ s' => s' = ⟨hh, gg, dw, tt0, oz⟩) (fun _ _ => False) ⟨hh, gg, dw, tt0, oz⟩ := by
    intro AZ
    simp only [checkBuiltinCall, tc_kind, tc_split]
    repeat (any_goals (first | assumption | with_reducible refine wpAny_loadPart_at hC ?_ | with_reducible refine wpAny_onRaise ?_ | with_reducible refine wpAny_map ?_ | wp_step))
    all_goals rfl
  refine codeAny_call_builtin_at (Code.quiet_builtin _ (by decide +kernel)) entry_typeCall (wpAny_mono (ck _) (fun _ s' e => ?_) (fun _ _ (e : False) => False.elim e))
  subst e
  refine kw_type_call F hT hC hi hb (codeAny_mono hq fun r s' z => ?_)
  rcases r with e | (v | _ | _ | _) <;> exact z
end
section
variable {X : Cx} {k j : Nat} {C : Addr} {x f : Str} {p pos : Pos} {kws : List Keyword} {tk : TA}
/-- such a class, called by the name of its parameter -/
structure Erk (P : Program) (w : World) (K : PySem.W.Frag) (mg : Str → Option Value) (base : Heap) (k : Nat) (x : Str) (C : Addr) (f : Str) : Prop where
  ex : ∃ (fI : Addr) (fd : FuncData) (ps : List Str), FnOk P w K mg base (L2.CX P w) k fI fd ps (spErr K f) ∧ PySem.W.findIn K (.ref C) "__init__" = some (some (.ref fI)) ∧ PySem.W.typeIn K (.ref fI) = some (.type "function") ∧ KBn K fd ps 1 [f] (fun us ws => us ++ ws) (fun vs zs => vs ++ zs)
  er : Er P w K mg base k x C f
/-- C(f = e) -/
theorem pe_xvk (ck : Erk X.prog X.w X.K X.mg X.base k x C f) (hr : Room j X.A) (hk : k + 1 ≤ j) (hg : Gl X x) (hkw : PK X kws tk)
    (hall : (backToKw pos (keywordEach kws X.env)).all (·.1.isSome) = true := by rfl) (hks : (backToKw pos (keywordEach kws X.env)).filterMap (·.1) = [f] := by rfl) (hdb : (x == ("__debug__" : Str)) = false := by decide)
    (hpl : ((backTo pos (starEach [] X.env)).any (·.1) || (backToKw pos (keywordEach kws X.env)).any (·.1.isNone)) = false := by rfl) :
    PE X (.Call (.Name x p) [] kws pos) (tXv C f tk) := by
  obtain ⟨fI, fd, ps, F1, iC, tI, b⟩ := ck.ex
  have c := ck.er
  have T := c.oex
  refine ⟨fun pins s σ H Q I h => ?_⟩
  obtain ⟨n1, n2, NN, b1, b2, s1, s2, aB, cO, dD, q0, q1, q2, q3, q5, hC, hbm⟩ := T.cls
  refine wpAny_Call_Name_kw (ld_glob I hg c.gC ?_ hdb)
  refine PySem.W.callWith_KW0 (h₀ := X.base) I.ok.mod.kin T.kC hall ?_ hpl
  refine thn (hkw.run pos pins s σ H _ I h) fun ws s1 ⟨zs, H1, I1, r1, y, hy, q1⟩ => ⟨I1.kIn, ?_⟩
  rw [hks]
  subst hy
  obtain ⟨hp, g, dr, tk, os⟩ := s1
  have hsz : hp.objs.size ≤ hp.objs.size + 1 := Nat.le_succ _
  have hn : H1 (hp.objs.size + 1) = none := I1.hok.fresh hsz
  have hq : spErr X.K f [.ref (hp.objs.size + 1), y] (upd H1 (hp.objs.size + 1) (exo (hp.objs.size + 1) C none)) (fun v H2 => v = .non ∧ Q (.ref (hp.objs.size + 1)) H2) E0 :=
    ⟨hp.objs.size + 1, C, y, rfl, T, c.no, upd_same, fun dx ndx ne => ⟨rfl, by
      rw [upd_ne ne] at ndx
      have z := q1 (hp.objs.size + 1) dx hn ndx ne
      rw [upd_new2 ne]
      exact z⟩⟩
  have kk : ∀ c u, hp.get? c = some u → ((hp.push (PySem.W.kdv_tup [])).push (PySem.HandSPX.excO C hp.objs.size)).get? c = some u := fun c u z => Heap.get?_push_of_some _ (Heap.get?_push_of_some _ z)
  have hg2 : ((hp.push (PySem.W.kdv_tup [])).push (PySem.HandSPX.excO C hp.objs.size)).get? (hp.objs.size + 1) = some (PySem.HandSPX.excO C hp.objs.size) := by heap_get
  have I2 : Inv X pins σ (upd H1 (hp.objs.size + 1) (exo (hp.objs.size + 1) C none)) ⟨(hp.push (PySem.W.kdv_tup [])).push (PySem.HandSPX.excO C hp.objs.size), g, dr, tk, os⟩ :=
    I1.laid kk hsz (exo_ok hg2)
  have r2 : Vals [V.ref (hp.objs.size + 1)] [Value.ref (hp.objs.size + 1)] := .cons rfl .nil
  have hb := b.to _ [Value.ref (hp.objs.size + 1)] ws I2.kIn rfl r1.length.symm
  refine wpAny_call (kw_call F.excBase_ValueError (fun Y => PySem.HandSPX.refsVE_contains Y b2 hbm) (I1.kIn _ _ hC) (PySem.W.looks_findIn I1.kIn iC) (fun me => PySem.W.bind_fn I1.kIn me tI)
    (codeAny_mono (F1.run _ X.stack _ _ ⟨[Value.ref (hp.objs.size + 1)], [f].zip ws⟩ _ _ _ E0 ((hr.mono hk).make C [] ([f].zip ws)) (I2.env0.make C [] ([f].zip ws)) hb (b.rel r2 r1) hq) fun r s' hq' => ?_))
  match r, hq' with
  | .error er, hq' => exact passL pins σ _ _ er s' I2 hq'
  | .ok (.ret u), hq' =>
    obtain ⟨v, H', J', rv, ev, q3⟩ := I2.after hq'
    subst ev
    exact ⟨rv, V.ref (hp.objs.size + 1), H', J', rfl, q3⟩
  | .ok .next, hq' => exact False.elim hq'
  | .ok .brk, hq' => exact False.elim hq'
  | .ok .cont, hq' => exact False.elim hq'
/-- an own error class without an own __init__ -/
structure Ez (K : PySem.W.Frag) (mg : Str → Option Value) (x : Str) (C : Addr) : Prop where
  ex : PySem.W.excIn K C PySem.HandSPX.veTail "ValueError.__new__" = true
  gC : mg x = some (.ref C)
  kC : PySem.W.keepIn K (.ref C) = true
def tXv0 (C : Addr) : TE := fun _ H Q => ∀ a, H a = none → Q (.ref a) (upd H a (exo a C none))
theorem pe_xv0 (c : Ez X.K X.mg x C) (hg : Gl X x) (hdb : (x == ("__debug__" : Str)) = false := by decide) : PE X (.Call (.Name x p) [] [] pos) (tXv0 C) := by
  refine ⟨fun pins s σ H Q I h => ?_⟩
  refine wpAny_Call_Name_kw (ld_glob I hg c.gC ?_ hdb)
  refine PySem.W.callWith_K0 I.kIn c.kC ?_
  obtain ⟨bm, N, nm, qn, bs, hdct, sn, sub, ab, col, dd, k0, k1, k2, k3, k5, mN, hC, hN, hni, T⟩ := exc_obj I.kIn c.ex
  refine wpAny_call_exc_subT F.excBase_ValueError T hC hN hni (fun h' a hm => ?_) (Nat.zero_le _)
  have hn : H a = none := I.hok.gone hm.new
  obtain ⟨t, ht, _, _⟩ := hm.there
  exact ⟨.ref a, upd H a (exo a C none), I.laidN hm.keeps hm.new hn (exo_ok ht), rfl, h a hn⟩
/-- what isinstance asks of such a class -/
structure Xc (K : PySem.W.Frag) (C : Addr) : Prop where
  cl : (PySem.W.clsIn K C).isSome = true
  ga : PySem.W.findIn K (.ref C) "__getattribute__" = some (some (.builtin "BaseException.__getattribute__"))
  gg : PySem.W.findIn K (.ref C) "__getattr__" = some none
  sb : PySem.W.subIn K (.ref C) (.type "BaseException") = some true
  ac : PySem.W.findIn K (.ref C) "__class__" = some (some (.builtin "object.__class__"))
  hn : PySem.W.specialIn K (.builtin "object.__class__") "__get__" = some (some (.builtin "getset_descriptor.__get__"))
  ht : PySem.W.takesIn K (.builtin "object.__class__") = some true
  hm : PySem.W.mroIn K C (.type "object") = some true
/-- at a: an error of the class at C -/
def XcAt (H : Hp) (a C : Addr) : Prop := H a = some (exo a C none) ∨ ∃ d f y, H a = some (exo a C (some d)) ∧ H d = some (exd d [(f, y)])
def rIsX (K : PySem.W.Frag) : List V → Hp → VK → Prop := fun xs H Q => ∃ (a C : Addr) (c : V) (cv : Value) (b : Bool), xs = [.ref a, c] ∧ XcAt H a C ∧ Xc K C ∧ ClsV c cv ∧ PySem.W.kitOne K (.ref C) cv = some b ∧ Q (.bl b) H
theorem call_isX : CallR X (.builtin "isinstance") (rIsX X.K) := by
  intro pins s σ H xs us Q I r h
  obtain ⟨a, C, c, cv, b, rfl, hX, T, kc, e, q⟩ := h
  obtain ⟨u1, u2, rfl, r1, r2⟩ := vals2 r
  have e2 := kc.eq r2
  subst e2
  obtain rfl : u1 = Value.ref a := r1
  have J : ∃ ox od, PySem.W.InstAt s.heap a ox C od := by
    rcases hX with ea | ⟨d, f, y, ea, ed⟩
    · obtain ⟨t1, ho⟩ := exo_at I.hok ea
      exact ⟨_, none, ho, rfl, rfl, trivial⟩
    · obtain ⟨t1, ho⟩ := exo_at I.hok ea
      obtain ⟨mA, ⟨od, _, _, hd, _⟩, _⟩ := exd_at I.hok ed
      exact ⟨_, some od, ho, rfl, rfl, hd⟩
  obtain ⟨ox, od, J⟩ := J
  exact PySem.W.kia_one (PySem.W.kitx_exc (od := od) T.cl T.ga T.gg T.sb T.ac T.hn T.ht T.hm) I.kIn J e (fun z => nomatch z) fun tk => ⟨.bl b, H, I.tok tk, rfl, q⟩
end
end Op

namespace Op
open PySem PySem.Spec PyProof.Rows L2
/-! ## != of a thing and itself -/
/-- what reads as data, and a dict of one item that does -/
def SelfAt (K : PySem.W.Frag) (H : Hp) (x : V) : Prop := (∃ d, Dp K H x d ∧ SeqAt.shaped d = true) ∨ ∃ (a : Addr) (k : Key) (v : V) (d : PyData), x = .ref a ∧ H a = some (.dK [(k, v)]) ∧ Dp K H v d ∧ SeqAt.shaped d = true ∧ d.depth ≤ 60
def rNeSelf (K : PySem.W.Frag) : R2 := fun x y H Q => x = y ∧ SelfAt K H x ∧ Q (.bl false) H
theorem op_neSelf {X : Cx} {K : PySem.W.Frag} (hK : X.K = K) (hu : X.A.units + 64 < cLine) : OpR X (compareOp .NotEq) (rNeSelf K) := by
  intro pins s σ H x y v u Q I rx ry h
  obtain ⟨rfl, h, q⟩ := h
  rw [← hK] at h
  rcases h with ⟨d, hd, sd⟩ | ⟨a, k, z, d, rfl, ea, hd, sd, d60⟩
  · obtain ⟨as, r1⟩ := Dp.reads I d x v hd rx
    obtain ⟨bs, r2⟩ := Dp.reads I d x u hd ry
    refine SeqAt.compareNe_shaped r1 r2 sd sd hu ⟨.bl false, H, I, ?_, q⟩
    rw [SeqAt.eqv_refl _ (SeqAt.canLay_of_shaped sd)]
    rfl
  · cases rx
    cases ry
    obtain ⟨za, ya, va, ra, da⟩ := (show ObjOk X.prog X.w H s.heap a (.dK [(k, z)]) from I.hok a _ ea)
    have hits : PySem.W.KeqHits X.A.in1 s va va true := by
      have rv := ra
      unfold KV at rv
      cases rv with
      | @cons p w ps ws h t =>
        cases t
        obtain ⟨k2, v2⟩ := w
        obtain ⟨h1, h2⟩ := h
        have rr : RelO (some z) (valueAt [(k2, v2)] k) := by
          have := ra.val k
          rw [show valV [(k, z)] k = some z from by simp [valV]] at this
          exact this
        obtain ⟨y, hy, ry⟩ := rr.some_of
        obtain ⟨as, r1⟩ := Dp.reads I _ _ v2 hd h2
        obtain ⟨bs, r2⟩ := Dp.reads I _ _ y hd ry
        have dd := SeqAt.canLay_of_shaped sd
        have eq := SeqAt.eqAt_reads d d X.A.in1 s v2 y as bs r1 r2 dd dd (by rw [Nat.min_self]; show X.A.units + 1 + d.depth < cLine; omega)
        rw [SeqAt.eqv_refl _ dd] at eq
        have hk : k = k2 := h1
        rw [hk] at hy
        show PySem.W.KeqHits X.A.in1 s [(k2, v2)] ((k2, v2) :: []) (true && true)
        exact .hit hy eq .nil
    exact PySem.W.keq_ne (knd := mixKind X.prog X.w) (r := true) ya ya da da (by omega) (fun _ => hits) (fin_bl I q (by simp))
end Op

namespace Op
open PySem PySem.Spec PyProof.Rows L2
local macro_rules | `(tactic| walk_at "go1") => `(tactic| first
  | ((with_reducible refine' g_var ?h ?_); (case h => rfl)) | with_reducible refine' g_c ?_ | with_reducible refine' g_op ?_ | with_reducible refine' g_un ?_ | with_reducible refine' g_if ?_ | with_reducible refine' g_test ?_ | with_reducible refine' g_B ?_ | with_reducible refine' g_bl ?_
  | with_reducible refine' g_not ?_ | with_reducible refine' g_and ?_ | with_reducible refine' g_or ?_ | with_reducible refine' g_andV ?_ | with_reducible refine' g_orV ?_ | with_reducible refine' g_notV ?_ | with_reducible refine' g_nil ?_ | with_reducible refine' g_cons ?_ | with_reducible refine' g_CB ?_ | with_reducible refine' g_ca ?_
  | with_reducible refine' g_seq ?_ | with_reducible refine' g_next ?_ | with_reducible refine' g_asg ?_ | with_reducible refine' g_name ?_ | with_reducible refine' g_ret ?_ | with_reducible refine' g_retN ?_ | with_reducible refine' g_drop ?_ | with_reducible refine' g_ifS ?_ | with_reducible refine' g_sub ?_
  | with_reducible refine' g_I0 ?_ | with_reducible refine' g_U ?_ | ((with_reducible refine' g_eq ?h ?_); (case h => rfl)) | ((with_reducible refine' g_ne ?h ?_); (case h => rfl))
  | ((with_reducible refine' g_lenL ?h ?_); (case h => first | assumption | exact SqL.of (by assumption) | exact SqL.of upd_same)) | ((with_reducible refine' g_lenT ?h ?_); (case h => first | assumption | exact SqT.of (by assumption) | exact SqT.of upd_same))
  | ((with_reducible refine' g_ixL ?h ?ha ?_); (case h => first | assumption | exact SqL.of (by assumption) | exact SqL.of upd_same); (case ha => rfl)) | ((with_reducible refine' g_ixT ?h ?ha ?_); (case h => first | assumption | exact SqT.of (by assumption) | exact SqT.of upd_same); (case ha => rfl))
  | ((with_reducible refine' g_I ?h ?_); (case h => first | decide | omega | (first | refine' ⟨?_, ?_, ?_⟩ | refine' ⟨?_, ?_⟩ | refine' Or.inl ⟨?_, ?_⟩) <;> omega | (refine' Or.inr ⟨?_, ?_⟩ <;> omega)))
  | ((with_reducible refine' g_setL ?h ?ha ?_); (case h => first | assumption | exact upd_same); (case ha => rfl))
  | with_reducible refine' g_lcR ?_
  | with_reducible refine' g_M1 ?_ | with_reducible refine' g_isS ?_ | with_reducible refine' g_tyS ?_ | ((with_reducible refine' g_tyL ?h ?_); (case h => first | assumption | exact upd_same))
  | ((with_reducible refine' g_cat ?h ?h2 ?hl ?_); (case h => first | assumption | exact upd_same); (case h2 => first | assumption | exact upd_same); (case hl => first | decide | (simp; omega)))
  | with_reducible refine' g_lcS ?_
  | with_reducible refine' g_starts ?_ | with_reducible refine' g_chain ?_
  | ((with_reducible refine' g_lenS ?h ?_); (case h => first | exact len_le (by assumption) | exact len_le (by omega))) | ((with_reducible refine' g_rstrip ?h ?_); (case h => first | exact len_le (by assumption) | exact len_le (by omega))) | ((with_reducible refine' g_slX ?h ?_); (case h => first | exact len_le (by assumption) | exact len_le (by omega)))
  | with_reducible refine' g_sl ?_ | with_reducible refine' g_nopart ?_ | with_reducible refine' g_part ?_ | with_reducible refine' g_isI ?_
  | with_reducible refine' g_tru ?_
  | with_reducible refine' iteT ?_ | with_reducible refine' iteF ?_ | with_reducible refine' iteNT ?_ | with_reducible refine' iteNF ?_
  | with_reducible refine' g_int ?_ | with_reducible refine' g_insg ?_ | with_reducible refine' g_ninsg ?_ | with_reducible refine' g_isN ?_ | with_reducible refine' g_notN ?_ | with_reducible refine' g_lst ?_ | with_reducible refine' g_tup ?_ | with_reducible refine' g_BM ?_ | with_reducible refine' g_BM0 ?_)
local macro_rules | `(tactic| walk_at "go") => `(tactic| repeat' walk_at "go1")
/-! ## lists of errors, of what they tell, of what isinstance tells -/
theorem exo_lst {e C : Addr} {d : Option Addr} {xs : List V} : exo e C d ≠ .lst xs := fun z => by
  have z2 : HO.ext _ = HO.lst xs := z
  cases z2
theorem exd_lst {e : Addr} {fs : List (Str × V)} {xs : List V} : exd e fs ≠ .lst xs := fun z => by
  have z2 : HO.ext _ = HO.lst xs := z
  cases z2
theorem XcAt.same {H H' : Hp} {a C : Addr} (h : XcAt H a C) (s : Same H H') : XcAt H' a C := by
  rcases h with h | ⟨d, f, y, h1, h2⟩
  · exact .inl (s _ _ h)
  · exact .inr ⟨d, f, y, s _ _ h1, s _ _ h2⟩
theorem XcAt.lst {H : Hp} {a C p : Addr} {xs : List V} {o : HO} (h : XcAt H a C) (e : H p = some (.lst xs)) : XcAt (upd H p o) a C := by
  have ne : ∀ {b : Addr} {u : HO}, H b = some u → u ≠ .lst xs → b ≠ p := fun hb hu z => by
    rw [z, e] at hb
    exact hu (Option.some.inj hb).symm
  rcases h with h | ⟨d, f, y, h1, h2⟩
  · exact .inl (by rw [upd_ne (ne h exo_lst)]; exact h)
  · exact .inr ⟨d, f, y, by rw [upd_ne (ne h1 exo_lst)]; exact h1, by rw [upd_ne (ne h2 exd_lst)]; exact h2⟩
theorem non31 {H H1 : Hp} {st : Addr} (s : Same H H1) (n : H1 st = none) : H st = none := by
  cases e : H st with
  | none => rfl
  | some o =>
    rw [s _ _ e] at n
    cases n
/-- items of a list, and what they are -/
def Its {α : Type} (R : Hp → V → α → Prop) (H : Hp) (xs : List V) (cs : List α) : Prop := Paired (R H) xs cs
def RowR (v : V) (H : Hp) (x : V) (_ : Unit) : Prop := ∃ t, x = .ref t ∧ H t = some (.tup [v, v])
def ErrR (H : Hp) (x : V) (C : Addr) : Prop := ∃ a, x = .ref a ∧ XcAt H a C
class Stays {α : Type} (R : Hp → V → α → Prop) : Prop where
  same : ∀ {H H' x c}, R H x c → Same H H' → R H' x c
  lst : ∀ {H x c p xs o}, R H x c → H p = some (.lst xs) → R (upd H p o) x c
instance {v : V} : Stays (RowR v) := ⟨fun {H H' x c} h s => by
    obtain ⟨t, e, h⟩ := h
    exact ⟨t, e, s _ _ h⟩, fun {H x c p xs o} h e => by
    obtain ⟨t, e1, h⟩ := h
    exact ⟨t, e1, Tps.lst e _ _ h⟩⟩
instance : Stays ErrR := ⟨fun {H H' x c} h s => by
    obtain ⟨t, e, h⟩ := h
    exact ⟨t, e, h.same s⟩, fun {H x c p xs o} h e => by
    obtain ⟨t, e1, h⟩ := h
    exact ⟨t, e1, h.lst e⟩⟩
section
variable {α : Type} {R : Hp → V → α → Prop} [Stays R] {H H' N : Hp} {p l : Addr} {xs zs : List V} {cs ds : List α} {Q : VK}
theorem Its.same (h : Its R H xs cs) (s : Same H H') : Its R H' xs cs := by
  unfold Its at *
  induction h with
  | nil => exact .nil
  | cons a t ih => exact .cons (Stays.same a s) ih
theorem Its.lst {o : HO} {ys : List V} (h : Its R H xs cs) (e : H p = some (.lst ys)) : Its R (upd H p o) xs cs := by
  unfold Its at *
  induction h with
  | nil => exact .nil
  | cons a t ih => exact .cons (Stays.lst a e) ih
theorem Its.append (h : Its R H xs cs) (g : Its R H zs ds) : Its R H (xs ++ zs) (cs ++ ds) := by
  unfold Its at *
  induction h with
  | nil => exact g
  | cons a t ih => exact .cons a ih
theorem ext31 {X : Hp} (ep : X p = some (.lst xs)) (el : X l = some (.lst zs)) (hz : xs.length + zs.length ≤ 1000) (h1 : Its R X xs cs) (h2 : Its R X zs ds) (sH : Same H X) (np : H p = none)
    (k : ∀ N, Same H N → N p = some (.lst (xs ++ zs)) → Its R N (xs ++ zs) (cs ++ ds) → Q .non N) : rExtend (.ref p) [.ref l] X Q :=
  g_ext ep el (by rw [sizeLine_eq]; omega) (k _ (Same.mut sH np) upd_same ((h1.append h2).lst ep))
theorem cat31 {X : Hp} (ep : X p = some (.lst xs)) (el : X l = some (.lst zs)) (hz : xs.length + zs.length ≤ 1000) (h1 : Its R X xs cs) (h2 : Its R X zs ds) (sH : Same H X)
    (k : ∀ N o, Same H N → H o = none → N o = some (.lst (xs ++ zs)) → Its R N (xs ++ zs) (cs ++ ds) → Q (.ref o) N) : rCat (.ref p) (.ref l) X Q :=
  g_cat ep el (by rw [sizeLine_eq]; omega) fun o ho => k _ o (sH.trans (Same.upd ho)) (non31 sH ho) upd_same ((h1.append h2).same (Same.upd ho))
theorem lst31 (h : Its R H xs cs) (k : ∀ N l, Same H N → H l = none → N l = some (.lst xs) → Its R N xs cs → Q (.ref l) N) : ∀ l, H l = none → Q (.ref l) (upd H l (.lst xs)) :=
  fun l hl => k _ l (Same.upd hl) hl upd_same (h.same (Same.upd hl))
theorem extB {X : Hp} (ep : X p = some (.lst xs)) (el : X l = some (.lst zs)) (hz : xs.length + zs.length ≤ 1000) (sH : Same H X) (np : H p = none)
    (k : ∀ N, Same H N → N p = some (.lst (xs ++ zs)) → Q .non N) : rExtend (.ref p) [.ref l] X Q :=
  g_ext ep el (by rw [sizeLine_eq]; omega) (k _ (Same.mut sH np) upd_same)
theorem appB {X : Hp} {y : V} (ep : X p = some (.lst xs)) (hz : xs.length ≤ 1000) (sH : Same H X) (np : H p = none)
    (k : ∀ N, Same H N → N p = some (.lst (xs ++ [y])) → Q .non N) : rAppend (.ref p) [y] X Q :=
  g_app ep (by rw [sizeLine_eq]; omega) (k _ (Same.mut sH np) upd_same)
theorem lstB (k : ∀ N l, Same H N → H l = none → N l = some (.lst xs) → Q (.ref l) N) : ∀ l, H l = none → Q (.ref l) (upd H l (.lst xs)) :=
  fun l hl => k _ l (Same.upd hl) hl upd_same
end
section
variable {σ : L2.St} {H : Hp} {Q : VK} {C : Addr} {f : Str} {v : V} {i : Nat}
/-- X(thing) -/
theorem g_err (hv : σ[i]? = some (some v)) (k : ∀ N x, Same H N → ErrR N x C → Q x N) : tXv C f (tCons (tVar i) tNil) σ H Q := by
  refine ⟨v, hv, v, rfl, fun a d ha hd ne => ?_⟩
  have s1 : Same H (upd (upd H d (exd d [(f, v)])) a (exo a C (some d))) := Same.mut (Same.upd hd) ha
  exact k _ _ s1 ⟨a, rfl, .inr ⟨d, f, v, upd_same, by rw [upd_ne ne, upd_same]⟩⟩
theorem g_err0 (k : ∀ N x, Same H N → ErrR N x C → Q x N) : tXv0 C σ H Q := fun a ha => k _ _ (Same.upd ha) ⟨a, rfl, .inl upd_same⟩
/-- X(thing).f -/
theorem g_errf (hv : σ[i]? = some (some v)) (k : ∀ N, Same H N → Q v N) : tXvf C f (tXv C f (tCons (tVar i) tNil)) σ H Q := by
  refine ⟨v, hv, v, rfl, fun a d ha hd ne => ?_⟩
  have s1 : Same H (upd (upd H d (exd d [(f, v)])) a (exo a C (some d))) := Same.mut (Same.upd hd) ha
  exact ⟨a, d, v, rfl, upd_same, by rw [upd_ne ne, upd_same], k _ s1⟩
theorem g_row (hv : σ[i]? = some (some v)) (k : ∀ N x, Same H N → RowR v N x () → Q x N) : tTup (tCons (tXvf C f (tXv C f (tCons (tVar i) tNil))) (tCons (tXvf C f (tXv C f (tCons (tVar i) tNil))) tNil)) σ H Q := by
  refine g_tup ?_
  refine g_cons ?_
  refine g_errf hv fun N1 s1 => ?_
  refine g_cons ?_
  refine g_errf hv fun N2 s2 => ?_
  refine g_nil ⟨by show 2 ≤ sizeLine; decide, fun p hp => ?_⟩
  exact k _ _ ((s1.trans s2).trans (Same.upd hp)) ⟨p, rfl, upd_same⟩
theorem g_isX {K : PySem.W.Frag} {a Cj : Addr} {b : Bool} (h : XcAt H a C) (T : Xc K C) (e : PySem.W.kitOne K (.ref C) (.ref Cj) = some b) (k : Q (.bl b) H) : rIsX K [.ref a, .ref Cj] H Q := ⟨a, C, _, _, b, rfl, h, T, .own Cj, e, k⟩
theorem g_isT {K : PySem.W.Frag} {a : Addr} {n : String} {b : Bool} (h : XcAt H a C) (T : Xc K C) (e : PySem.W.kitOne K (.ref C) (.type n) = some b) (k : Q (.bl b) H) : rIsX K [.ref a, .ty n] H Q := ⟨a, C, _, _, b, rfl, h, T, .ty n, e, k⟩
end
end Op

namespace Op
open PySem PySem.Spec PyProof.Rows L2
local macro_rules | `(tactic| walk_at "go1") => `(tactic| first
  | ((with_reducible refine' g_var ?h ?_); (case h => rfl)) | with_reducible refine' g_c ?_ | with_reducible refine' g_op ?_ | with_reducible refine' g_un ?_ | with_reducible refine' g_if ?_ | with_reducible refine' g_test ?_ | with_reducible refine' g_B ?_ | with_reducible refine' g_bl ?_
  | with_reducible refine' g_not ?_ | with_reducible refine' g_and ?_ | with_reducible refine' g_or ?_ | with_reducible refine' g_andV ?_ | with_reducible refine' g_orV ?_ | with_reducible refine' g_notV ?_ | with_reducible refine' g_nil ?_ | with_reducible refine' g_cons ?_ | with_reducible refine' g_CB ?_ | with_reducible refine' g_ca ?_
  | with_reducible refine' g_seq ?_ | with_reducible refine' g_next ?_ | with_reducible refine' g_asg ?_ | with_reducible refine' g_name ?_ | with_reducible refine' g_ret ?_ | with_reducible refine' g_retN ?_ | with_reducible refine' g_drop ?_ | with_reducible refine' g_ifS ?_ | with_reducible refine' g_sub ?_
  | with_reducible refine' g_I0 ?_ | with_reducible refine' g_U ?_ | ((with_reducible refine' g_eq ?h ?_); (case h => rfl)) | ((with_reducible refine' g_ne ?h ?_); (case h => rfl))
  | ((with_reducible refine' g_lenL ?h ?_); (case h => first | assumption | exact SqL.of (by assumption) | exact SqL.of upd_same)) | ((with_reducible refine' g_lenT ?h ?_); (case h => first | assumption | exact SqT.of (by assumption) | exact SqT.of upd_same))
  | ((with_reducible refine' g_ixL ?h ?ha ?_); (case h => first | assumption | exact SqL.of (by assumption) | exact SqL.of upd_same); (case ha => rfl)) | ((with_reducible refine' g_ixT ?h ?ha ?_); (case h => first | assumption | exact SqT.of (by assumption) | exact SqT.of upd_same); (case ha => rfl))
  | ((with_reducible refine' g_I ?h ?_); (case h => first | decide | omega | (first | refine' ⟨?_, ?_, ?_⟩ | refine' ⟨?_, ?_⟩ | refine' Or.inl ⟨?_, ?_⟩) <;> omega | (refine' Or.inr ⟨?_, ?_⟩ <;> omega)))
  | ((with_reducible refine' g_setL ?h ?ha ?_); (case h => first | assumption | exact upd_same); (case ha => rfl))
  | with_reducible refine' g_lcR ?_
  | with_reducible refine' g_M1 ?_ | with_reducible refine' g_isS ?_ | with_reducible refine' g_tyS ?_ | ((with_reducible refine' g_tyL ?h ?_); (case h => first | assumption | exact upd_same))
  | ((with_reducible refine' g_cat ?h ?h2 ?hl ?_); (case h => first | assumption | exact upd_same); (case h2 => first | assumption | exact upd_same); (case hl => first | decide | (simp; omega)))
  | with_reducible refine' g_lcS ?_
  | with_reducible refine' g_starts ?_ | with_reducible refine' g_chain ?_
  | ((with_reducible refine' g_lenS ?h ?_); (case h => first | exact len_le (by assumption) | exact len_le (by omega))) | ((with_reducible refine' g_rstrip ?h ?_); (case h => first | exact len_le (by assumption) | exact len_le (by omega))) | ((with_reducible refine' g_slX ?h ?_); (case h => first | exact len_le (by assumption) | exact len_le (by omega)))
  | with_reducible refine' g_sl ?_ | with_reducible refine' g_nopart ?_ | with_reducible refine' g_part ?_ | with_reducible refine' g_isI ?_
  | with_reducible refine' g_tru ?_
  | with_reducible refine' iteT ?_ | with_reducible refine' iteF ?_ | with_reducible refine' iteNT ?_ | with_reducible refine' iteNF ?_
  | with_reducible refine' g_int ?_ | with_reducible refine' g_insg ?_ | with_reducible refine' g_ninsg ?_ | with_reducible refine' g_isN ?_ | with_reducible refine' g_notN ?_ | with_reducible refine' g_lst ?_ | with_reducible refine' g_tup ?_ | with_reducible refine' g_BM ?_ | with_reducible refine' g_BM0 ?_)
local macro_rules | `(tactic| walk_at "go") => `(tactic| repeat' walk_at "go1")
local macro_rules | `(tactic| walk_at "go6") => `(tactic| repeat' walk_at "go1")
def spWith : Sp := fun vs H Q _ => ∃ v : V, vs = [v] ∧ ∀ N o xs, Same H N → H o = none → N o = some (.lst xs) → Its (RowR v) N xs (List.replicate 14 ()) → Q (.ref o) N
def spMade (Cs : List Addr) : Sp := fun vs H Q _ => ∃ v : V, vs = [v] ∧ ∀ N o xs, Same H N → H o = none → N o = some (.lst xs) → Its ErrR N xs Cs → Q (.ref o) N
def spKinds (Cs : List Addr) : Sp := fun vs H Q _ => ∃ (a C : Addr), vs = [.ref a] ∧ XcAt H a C ∧ C ∈ Cs ∧ ∀ N o, Same H N → H o = none → N o = some (.lst (Cs.map fun C' => V.bl (C == C'))) → Q (.ref o) N
section
variable {P : Program} {w : World} {K : PySem.W.Frag} {mg : Str → Option Value} {base : Heap} {C_BadAtom C_BadForm C_BadKey C_BadText C_BadHeap C_BadRecipe C_NoWay C_BadHeaps C_BadRole C_NotFit C_BadBook C_BadSitting C_NoSitting C_NotPlain C_NotWaiting C_NotHeld C_NoMatch C_NotDone C_BadFilling C_BadWishes C_BadGoal C_BadCommand : Addr}
theorem ca_law_with_text (T : Bl K mg)
    (k_BadAtom : Erk P w K mg base 1 "BadAtom" C_BadAtom "text")
    (k_BadForm : Erk P w K mg base 1 "BadForm" C_BadForm "path")
    (k_BadKey : Erk P w K mg base 1 "BadKey" C_BadKey "key")
    (k_BadText : Erk P w K mg base 1 "BadText" C_BadText "line")
    (k_BadHeap : Erk P w K mg base 1 "BadHeap" C_BadHeap "index")
    (k_NoWay : Erk P w K mg base 1 "NoWay" C_NoWay "step")
    (k_BadRole : Erk P w K mg base 1 "BadRole" C_BadRole "field")
    (k_NotFit : Erk P w K mg base 1 "NotFit" C_NotFit "index")
    (k_BadBook : Erk P w K mg base 1 "BadBook" C_BadBook "field")
    (k_BadSitting : Erk P w K mg base 1 "BadSitting" C_BadSitting "index")
    (k_NoSitting : Erk P w K mg base 1 "NoSitting" C_NoSitting "number")
    (k_NotWaiting : Erk P w K mg base 1 "NotWaiting" C_NotWaiting "number")
    (k_NotDone : Erk P w K mg base 1 "NotDone" C_NotDone "place")
    (k_BadWishes : Erk P w K mg base 1 "BadWishes" C_BadWishes "index")
    (D : Df K mg "_law_with_text" s_law_with_text p_law_with_text) : Ca P w K mg base 3 "_law_with_text" spWith := by
  refine ca_n D sc_law_with_text (fun vs H Q E h => ?_) (fun f cdv A outer s H vs Q E hr h => ?_)
  · obtain ⟨v, rfl, _⟩ := h
    rfl
  · obtain ⟨v, rfl, q⟩ := h
    have c_BadAtom := k_BadAtom.er
    have c_BadForm := k_BadForm.er
    have c_BadKey := k_BadKey.er
    have c_BadText := k_BadText.er
    have c_BadHeap := k_BadHeap.er
    have c_NoWay := k_NoWay.er
    have c_BadRole := k_BadRole.er
    have c_NotFit := k_NotFit.er
    have c_BadBook := k_BadBook.er
    have c_BadSitting := k_BadSitting.er
    have c_NoSitting := k_NoSitting.er
    have c_NotWaiting := k_NotWaiting.er
    have c_NotDone := k_NotDone.er
    have c_BadWishes := k_BadWishes.er
    refine ⟨_, (pss_cons (ps_set (i := 1) sc_law_with_text.nd rfl (Or.inl rfl) (pe_lst (pa_cons (pe_tup (pa_cons (pe_xvf c_BadAtom (pe_xv c_BadAtom hr (by decide) (by rfl) (pa_cons (pv 0) pa_nil))) (pa_cons (pe_xvf c_BadAtom (pe_xvk k_BadAtom hr (by decide) (by rfl) (pk_cons (pv 0) pk_nil))) pa_nil))) (pa_cons (pe_tup (pa_cons (pe_xvf c_BadForm (pe_xv c_BadForm hr (by decide) (by rfl) (pa_cons (pv 0) pa_nil))) (pa_cons (pe_xvf c_BadForm (pe_xvk k_BadForm hr (by decide) (by rfl) (pk_cons (pv 0) pk_nil))) pa_nil))) pa_nil))))
  (pss_cons (ps_expr (pe_bm PySem.F.plainAttrs_list PySem.F.slot_list_extend PySem.F.type_list_extend mt_extend (pv 1) (pa_cons (pe_lst (pa_cons (pe_tup (pa_cons (pe_xvf c_BadKey (pe_xv c_BadKey hr (by decide) (by rfl) (pa_cons (pv 0) pa_nil))) (pa_cons (pe_xvf c_BadKey (pe_xvk k_BadKey hr (by decide) (by rfl) (pk_cons (pv 0) pk_nil))) pa_nil))) (pa_cons (pe_tup (pa_cons (pe_xvf c_BadText (pe_xv c_BadText hr (by decide) (by rfl) (pa_cons (pv 0) pa_nil))) (pa_cons (pe_xvf c_BadText (pe_xvk k_BadText hr (by decide) (by rfl) (pk_cons (pv 0) pk_nil))) pa_nil))) pa_nil))) pa_nil)))
  (pss_cons (ps_expr (pe_bm PySem.F.plainAttrs_list PySem.F.slot_list_extend PySem.F.type_list_extend mt_extend (pv 1) (pa_cons (pe_lst (pa_cons (pe_tup (pa_cons (pe_xvf c_BadHeap (pe_xv c_BadHeap hr (by decide) (by rfl) (pa_cons (pv 0) pa_nil))) (pa_cons (pe_xvf c_BadHeap (pe_xvk k_BadHeap hr (by decide) (by rfl) (pk_cons (pv 0) pk_nil))) pa_nil))) pa_nil)) pa_nil)))
  (pss_cons (ps_expr (pe_bm PySem.F.plainAttrs_list PySem.F.slot_list_extend PySem.F.type_list_extend mt_extend (pv 1) (pa_cons (pe_lst (pa_cons (pe_tup (pa_cons (pe_xvf c_NoWay (pe_xv c_NoWay hr (by decide) (by rfl) (pa_cons (pv 0) pa_nil))) (pa_cons (pe_xvf c_NoWay (pe_xvk k_NoWay hr (by decide) (by rfl) (pk_cons (pv 0) pk_nil))) pa_nil))) pa_nil)) pa_nil)))
  (pss_cons (ps_expr (pe_bm PySem.F.plainAttrs_list PySem.F.slot_list_extend PySem.F.type_list_extend mt_extend (pv 1) (pa_cons (pe_lst (pa_cons (pe_tup (pa_cons (pe_xvf c_BadRole (pe_xv c_BadRole hr (by decide) (by rfl) (pa_cons (pv 0) pa_nil))) (pa_cons (pe_xvf c_BadRole (pe_xvk k_BadRole hr (by decide) (by rfl) (pk_cons (pv 0) pk_nil))) pa_nil))) pa_nil)) pa_nil)))
  (pss_cons (ps_expr (pe_bm PySem.F.plainAttrs_list PySem.F.slot_list_extend PySem.F.type_list_extend mt_extend (pv 1) (pa_cons (pe_lst (pa_cons (pe_tup (pa_cons (pe_xvf c_NotFit (pe_xv c_NotFit hr (by decide) (by rfl) (pa_cons (pv 0) pa_nil))) (pa_cons (pe_xvf c_NotFit (pe_xvk k_NotFit hr (by decide) (by rfl) (pk_cons (pv 0) pk_nil))) pa_nil))) pa_nil)) pa_nil)))
  (pss_cons (ps_expr (pe_bm PySem.F.plainAttrs_list PySem.F.slot_list_extend PySem.F.type_list_extend mt_extend (pv 1) (pa_cons (pe_lst (pa_cons (pe_tup (pa_cons (pe_xvf c_BadBook (pe_xv c_BadBook hr (by decide) (by rfl) (pa_cons (pv 0) pa_nil))) (pa_cons (pe_xvf c_BadBook (pe_xvk k_BadBook hr (by decide) (by rfl) (pk_cons (pv 0) pk_nil))) pa_nil))) pa_nil)) pa_nil)))
  (pss_cons (ps_expr (pe_bm PySem.F.plainAttrs_list PySem.F.slot_list_extend PySem.F.type_list_extend mt_extend (pv 1) (pa_cons (pe_lst (pa_cons (pe_tup (pa_cons (pe_xvf c_BadSitting (pe_xv c_BadSitting hr (by decide) (by rfl) (pa_cons (pv 0) pa_nil))) (pa_cons (pe_xvf c_BadSitting (pe_xvk k_BadSitting hr (by decide) (by rfl) (pk_cons (pv 0) pk_nil))) pa_nil))) pa_nil)) pa_nil)))
  (pss_cons (ps_expr (pe_bm PySem.F.plainAttrs_list PySem.F.slot_list_extend PySem.F.type_list_extend mt_extend (pv 1) (pa_cons (pe_lst (pa_cons (pe_tup (pa_cons (pe_xvf c_NoSitting (pe_xv c_NoSitting hr (by decide) (by rfl) (pa_cons (pv 0) pa_nil))) (pa_cons (pe_xvf c_NoSitting (pe_xvk k_NoSitting hr (by decide) (by rfl) (pk_cons (pv 0) pk_nil))) pa_nil))) pa_nil)) pa_nil)))
  (pss_cons (ps_expr (pe_bm PySem.F.plainAttrs_list PySem.F.slot_list_extend PySem.F.type_list_extend mt_extend (pv 1) (pa_cons (pe_lst (pa_cons (pe_tup (pa_cons (pe_xvf c_NotWaiting (pe_xv c_NotWaiting hr (by decide) (by rfl) (pa_cons (pv 0) pa_nil))) (pa_cons (pe_xvf c_NotWaiting (pe_xvk k_NotWaiting hr (by decide) (by rfl) (pk_cons (pv 0) pk_nil))) pa_nil))) pa_nil)) pa_nil)))
  (pss_cons (ps_expr (pe_bm PySem.F.plainAttrs_list PySem.F.slot_list_extend PySem.F.type_list_extend mt_extend (pv 1) (pa_cons (pe_lst (pa_cons (pe_tup (pa_cons (pe_xvf c_NotDone (pe_xv c_NotDone hr (by decide) (by rfl) (pa_cons (pv 0) pa_nil))) (pa_cons (pe_xvf c_NotDone (pe_xvk k_NotDone hr (by decide) (by rfl) (pk_cons (pv 0) pk_nil))) pa_nil))) pa_nil)) pa_nil)))
  (pss_one (ps_ret (pe_op op_cat (pv 1) (pe_lst (pa_cons (pe_tup (pa_cons (pe_xvf c_BadWishes (pe_xv c_BadWishes hr (by decide) (by rfl) (pa_cons (pv 0) pa_nil))) (pa_cons (pe_xvf c_BadWishes (pe_xvk k_BadWishes hr (by decide) (by rfl) (pk_cons (pv 0) pk_nil))) pa_nil))) pa_nil)))))))))))))))), ?_⟩
    walk_at "go6"
    refine g_errf rfl fun A0 sA0 => ?_
    walk_at "go6"
    refine g_errf rfl fun B0 sB0 => ?_
    walk_at "go6"
    refine ⟨by show 2 ≤ sizeLine; decide, fun t0 ht0 => ?_⟩
    have m0 := (sA0.trans sB0).trans (Same.upd (o := .tup [v, v]) ht0)
    have r0 : RowR v (upd B0 t0 (.tup [v, v])) (.ref t0) () := ⟨t0, rfl, upd_same⟩
    generalize upd B0 t0 (.tup [v, v]) = M0 at m0 r0 ⊢
    clear sA0 sB0 ht0
    walk_at "go6"
    refine g_errf rfl fun A1 sA1 => ?_
    walk_at "go6"
    refine g_errf rfl fun B1 sB1 => ?_
    walk_at "go6"
    refine ⟨by show 2 ≤ sizeLine; decide, fun t1 ht1 => ?_⟩
    have m1 := (sA1.trans sB1).trans (Same.upd (o := .tup [v, v]) ht1)
    have r1 : RowR v (upd B1 t1 (.tup [v, v])) (.ref t1) () := ⟨t1, rfl, upd_same⟩
    generalize upd B1 t1 (.tup [v, v]) = M1 at m1 r1 ⊢
    clear sA1 sB1 ht1
    walk_at "go6"
    refine ⟨by show 2 ≤ sizeLine; decide, fun l2 hl => ?_⟩
    have sX : Same M1 (upd M1 l2 (.lst [.ref t0, .ref t1])) := Same.upd hl
    have el : upd M1 l2 (.lst [.ref t0, .ref t1]) l2 = some (.lst [.ref t0, .ref t1]) := upd_same
    have RL : Its (RowR v) (upd M1 l2 (.lst [.ref t0, .ref t1])) [.ref t0, .ref t1] [(), ()] := Its.same (.cons (Stays.same (r0) m1) (.cons (r1) .nil)) sX
    have sL := (m0.trans m1).trans sX
    have nl : H l2 = none := non31 (m0.trans m1) hl
    generalize upd M1 l2 (.lst [.ref t0, .ref t1]) = X2 at sL el RL ⊢
    clear sX hl m0 r0 m1 r1
    have sH := sL; have np := nl; have ep := el; have RR := RL; clear sL nl el RL
    walk_at "go6"
    walk_at "go6"
    refine g_errf rfl fun A2 sA2 => ?_
    walk_at "go6"
    refine g_errf rfl fun B2 sB2 => ?_
    walk_at "go6"
    refine ⟨by show 2 ≤ sizeLine; decide, fun t2 ht2 => ?_⟩
    have m2 := (sA2.trans sB2).trans (Same.upd (o := .tup [v, v]) ht2)
    have r2 : RowR v (upd B2 t2 (.tup [v, v])) (.ref t2) () := ⟨t2, rfl, upd_same⟩
    generalize upd B2 t2 (.tup [v, v]) = M2 at m2 r2 ⊢
    clear sA2 sB2 ht2
    walk_at "go6"
    refine g_errf rfl fun A3 sA3 => ?_
    walk_at "go6"
    refine g_errf rfl fun B3 sB3 => ?_
    walk_at "go6"
    refine ⟨by show 2 ≤ sizeLine; decide, fun t3 ht3 => ?_⟩
    have m3 := (sA3.trans sB3).trans (Same.upd (o := .tup [v, v]) ht3)
    have r3 : RowR v (upd B3 t3 (.tup [v, v])) (.ref t3) () := ⟨t3, rfl, upd_same⟩
    generalize upd B3 t3 (.tup [v, v]) = M3 at m3 r3 ⊢
    clear sA3 sB3 ht3
    walk_at "go6"
    refine ⟨by show 2 ≤ sizeLine; decide, fun l4 hl => ?_⟩
    have sX : Same M3 (upd M3 l4 (.lst [.ref t2, .ref t3])) := Same.upd hl
    have el : upd M3 l4 (.lst [.ref t2, .ref t3]) l4 = some (.lst [.ref t2, .ref t3]) := upd_same
    have RL : Its (RowR v) (upd M3 l4 (.lst [.ref t2, .ref t3])) [.ref t2, .ref t3] [(), ()] := Its.same (.cons (Stays.same (r2) m3) (.cons (r3) .nil)) sX
    have sL := (m2.trans m3).trans sX
    have nl : X2 l4 = none := non31 (m2.trans m3) hl
    generalize upd M3 l4 (.lst [.ref t2, .ref t3]) = X4 at sL el RL ⊢
    clear sX hl m2 r2 m3 r3
    walk_at "go6"
    refine ext31 (sL _ _ ep) el (by show 2 + 2 ≤ 1000; decide) (RR.same sL) RL (sH.trans sL) np fun N0 sN eN RN => ?_
    clear ep sH RR sL el RL nl
    have ep := eN; have sH := sN; have RR := RN; clear eN sN RN
    walk_at "go6"
    walk_at "go6"
    refine g_errf rfl fun A4 sA4 => ?_
    walk_at "go6"
    refine g_errf rfl fun B4 sB4 => ?_
    walk_at "go6"
    refine ⟨by show 2 ≤ sizeLine; decide, fun t4 ht4 => ?_⟩
    have m4 := (sA4.trans sB4).trans (Same.upd (o := .tup [v, v]) ht4)
    have r4 : RowR v (upd B4 t4 (.tup [v, v])) (.ref t4) () := ⟨t4, rfl, upd_same⟩
    generalize upd B4 t4 (.tup [v, v]) = M4 at m4 r4 ⊢
    clear sA4 sB4 ht4
    walk_at "go6"
    refine ⟨by show 1 ≤ sizeLine; decide, fun l5 hl => ?_⟩
    have sX : Same M4 (upd M4 l5 (.lst [.ref t4])) := Same.upd hl
    have el : upd M4 l5 (.lst [.ref t4]) l5 = some (.lst [.ref t4]) := upd_same
    have RL : Its (RowR v) (upd M4 l5 (.lst [.ref t4])) [.ref t4] [()] := Its.same (.cons (r4) .nil) sX
    have sL := m4.trans sX
    have nl : N0 l5 = none := non31 m4 hl
    generalize upd M4 l5 (.lst [.ref t4]) = X5 at sL el RL ⊢
    clear sX hl m4 r4
    walk_at "go6"
    refine ext31 (sL _ _ ep) el (by show 4 + 1 ≤ 1000; decide) (RR.same sL) RL (sH.trans sL) np fun N1 sN eN RN => ?_
    clear ep sH RR sL el RL nl
    have ep := eN; have sH := sN; have RR := RN; clear eN sN RN
    walk_at "go6"
    walk_at "go6"
    refine g_errf rfl fun A5 sA5 => ?_
    walk_at "go6"
    refine g_errf rfl fun B5 sB5 => ?_
    walk_at "go6"
    refine ⟨by show 2 ≤ sizeLine; decide, fun t5 ht5 => ?_⟩
    have m5 := (sA5.trans sB5).trans (Same.upd (o := .tup [v, v]) ht5)
    have r5 : RowR v (upd B5 t5 (.tup [v, v])) (.ref t5) () := ⟨t5, rfl, upd_same⟩
    generalize upd B5 t5 (.tup [v, v]) = M5 at m5 r5 ⊢
    clear sA5 sB5 ht5
    walk_at "go6"
    refine ⟨by show 1 ≤ sizeLine; decide, fun l6 hl => ?_⟩
    have sX : Same M5 (upd M5 l6 (.lst [.ref t5])) := Same.upd hl
    have el : upd M5 l6 (.lst [.ref t5]) l6 = some (.lst [.ref t5]) := upd_same
    have RL : Its (RowR v) (upd M5 l6 (.lst [.ref t5])) [.ref t5] [()] := Its.same (.cons (r5) .nil) sX
    have sL := m5.trans sX
    have nl : N1 l6 = none := non31 m5 hl
    generalize upd M5 l6 (.lst [.ref t5]) = X6 at sL el RL ⊢
    clear sX hl m5 r5
    walk_at "go6"
    refine ext31 (sL _ _ ep) el (by show 5 + 1 ≤ 1000; decide) (RR.same sL) RL (sH.trans sL) np fun N2 sN eN RN => ?_
    clear ep sH RR sL el RL nl
    have ep := eN; have sH := sN; have RR := RN; clear eN sN RN
    walk_at "go6"
    walk_at "go6"
    refine g_errf rfl fun A6 sA6 => ?_
    walk_at "go6"
    refine g_errf rfl fun B6 sB6 => ?_
    walk_at "go6"
    refine ⟨by show 2 ≤ sizeLine; decide, fun t6 ht6 => ?_⟩
    have m6 := (sA6.trans sB6).trans (Same.upd (o := .tup [v, v]) ht6)
    have r6 : RowR v (upd B6 t6 (.tup [v, v])) (.ref t6) () := ⟨t6, rfl, upd_same⟩
    generalize upd B6 t6 (.tup [v, v]) = M6 at m6 r6 ⊢
    clear sA6 sB6 ht6
    walk_at "go6"
    refine ⟨by show 1 ≤ sizeLine; decide, fun l7 hl => ?_⟩
    have sX : Same M6 (upd M6 l7 (.lst [.ref t6])) := Same.upd hl
    have el : upd M6 l7 (.lst [.ref t6]) l7 = some (.lst [.ref t6]) := upd_same
    have RL : Its (RowR v) (upd M6 l7 (.lst [.ref t6])) [.ref t6] [()] := Its.same (.cons (r6) .nil) sX
    have sL := m6.trans sX
    have nl : N2 l7 = none := non31 m6 hl
    generalize upd M6 l7 (.lst [.ref t6]) = X7 at sL el RL ⊢
    clear sX hl m6 r6
    walk_at "go6"
    refine ext31 (sL _ _ ep) el (by show 6 + 1 ≤ 1000; decide) (RR.same sL) RL (sH.trans sL) np fun N3 sN eN RN => ?_
    clear ep sH RR sL el RL nl
    have ep := eN; have sH := sN; have RR := RN; clear eN sN RN
    walk_at "go6"
    walk_at "go6"
    refine g_errf rfl fun A7 sA7 => ?_
    walk_at "go6"
    refine g_errf rfl fun B7 sB7 => ?_
    walk_at "go6"
    refine ⟨by show 2 ≤ sizeLine; decide, fun t7 ht7 => ?_⟩
    have m7 := (sA7.trans sB7).trans (Same.upd (o := .tup [v, v]) ht7)
    have r7 : RowR v (upd B7 t7 (.tup [v, v])) (.ref t7) () := ⟨t7, rfl, upd_same⟩
    generalize upd B7 t7 (.tup [v, v]) = M7 at m7 r7 ⊢
    clear sA7 sB7 ht7
    walk_at "go6"
    refine ⟨by show 1 ≤ sizeLine; decide, fun l8 hl => ?_⟩
    have sX : Same M7 (upd M7 l8 (.lst [.ref t7])) := Same.upd hl
    have el : upd M7 l8 (.lst [.ref t7]) l8 = some (.lst [.ref t7]) := upd_same
    have RL : Its (RowR v) (upd M7 l8 (.lst [.ref t7])) [.ref t7] [()] := Its.same (.cons (r7) .nil) sX
    have sL := m7.trans sX
    have nl : N3 l8 = none := non31 m7 hl
    generalize upd M7 l8 (.lst [.ref t7]) = X8 at sL el RL ⊢
    clear sX hl m7 r7
    walk_at "go6"
    refine ext31 (sL _ _ ep) el (by show 7 + 1 ≤ 1000; decide) (RR.same sL) RL (sH.trans sL) np fun N4 sN eN RN => ?_
    clear ep sH RR sL el RL nl
    have ep := eN; have sH := sN; have RR := RN; clear eN sN RN
    walk_at "go6"
    walk_at "go6"
    refine g_errf rfl fun A8 sA8 => ?_
    walk_at "go6"
    refine g_errf rfl fun B8 sB8 => ?_
    walk_at "go6"
    refine ⟨by show 2 ≤ sizeLine; decide, fun t8 ht8 => ?_⟩
    have m8 := (sA8.trans sB8).trans (Same.upd (o := .tup [v, v]) ht8)
    have r8 : RowR v (upd B8 t8 (.tup [v, v])) (.ref t8) () := ⟨t8, rfl, upd_same⟩
    generalize upd B8 t8 (.tup [v, v]) = M8 at m8 r8 ⊢
    clear sA8 sB8 ht8
    walk_at "go6"
    refine ⟨by show 1 ≤ sizeLine; decide, fun l9 hl => ?_⟩
    have sX : Same M8 (upd M8 l9 (.lst [.ref t8])) := Same.upd hl
    have el : upd M8 l9 (.lst [.ref t8]) l9 = some (.lst [.ref t8]) := upd_same
    have RL : Its (RowR v) (upd M8 l9 (.lst [.ref t8])) [.ref t8] [()] := Its.same (.cons (r8) .nil) sX
    have sL := m8.trans sX
    have nl : N4 l9 = none := non31 m8 hl
    generalize upd M8 l9 (.lst [.ref t8]) = X9 at sL el RL ⊢
    clear sX hl m8 r8
    walk_at "go6"
    refine ext31 (sL _ _ ep) el (by show 8 + 1 ≤ 1000; decide) (RR.same sL) RL (sH.trans sL) np fun N5 sN eN RN => ?_
    clear ep sH RR sL el RL nl
    have ep := eN; have sH := sN; have RR := RN; clear eN sN RN
    walk_at "go6"
    walk_at "go6"
    refine g_errf rfl fun A9 sA9 => ?_
    walk_at "go6"
    refine g_errf rfl fun B9 sB9 => ?_
    walk_at "go6"
    refine ⟨by show 2 ≤ sizeLine; decide, fun t9 ht9 => ?_⟩
    have m9 := (sA9.trans sB9).trans (Same.upd (o := .tup [v, v]) ht9)
    have r9 : RowR v (upd B9 t9 (.tup [v, v])) (.ref t9) () := ⟨t9, rfl, upd_same⟩
    generalize upd B9 t9 (.tup [v, v]) = M9 at m9 r9 ⊢
    clear sA9 sB9 ht9
    walk_at "go6"
    refine ⟨by show 1 ≤ sizeLine; decide, fun l10 hl => ?_⟩
    have sX : Same M9 (upd M9 l10 (.lst [.ref t9])) := Same.upd hl
    have el : upd M9 l10 (.lst [.ref t9]) l10 = some (.lst [.ref t9]) := upd_same
    have RL : Its (RowR v) (upd M9 l10 (.lst [.ref t9])) [.ref t9] [()] := Its.same (.cons (r9) .nil) sX
    have sL := m9.trans sX
    have nl : N5 l10 = none := non31 m9 hl
    generalize upd M9 l10 (.lst [.ref t9]) = X10 at sL el RL ⊢
    clear sX hl m9 r9
    walk_at "go6"
    refine ext31 (sL _ _ ep) el (by show 9 + 1 ≤ 1000; decide) (RR.same sL) RL (sH.trans sL) np fun N6 sN eN RN => ?_
    clear ep sH RR sL el RL nl
    have ep := eN; have sH := sN; have RR := RN; clear eN sN RN
    walk_at "go6"
    walk_at "go6"
    refine g_errf rfl fun A10 sA10 => ?_
    walk_at "go6"
    refine g_errf rfl fun B10 sB10 => ?_
    walk_at "go6"
    refine ⟨by show 2 ≤ sizeLine; decide, fun t10 ht10 => ?_⟩
    have m10 := (sA10.trans sB10).trans (Same.upd (o := .tup [v, v]) ht10)
    have r10 : RowR v (upd B10 t10 (.tup [v, v])) (.ref t10) () := ⟨t10, rfl, upd_same⟩
    generalize upd B10 t10 (.tup [v, v]) = M10 at m10 r10 ⊢
    clear sA10 sB10 ht10
    walk_at "go6"
    refine ⟨by show 1 ≤ sizeLine; decide, fun l11 hl => ?_⟩
    have sX : Same M10 (upd M10 l11 (.lst [.ref t10])) := Same.upd hl
    have el : upd M10 l11 (.lst [.ref t10]) l11 = some (.lst [.ref t10]) := upd_same
    have RL : Its (RowR v) (upd M10 l11 (.lst [.ref t10])) [.ref t10] [()] := Its.same (.cons (r10) .nil) sX
    have sL := m10.trans sX
    have nl : N6 l11 = none := non31 m10 hl
    generalize upd M10 l11 (.lst [.ref t10]) = X11 at sL el RL ⊢
    clear sX hl m10 r10
    walk_at "go6"
    refine ext31 (sL _ _ ep) el (by show 10 + 1 ≤ 1000; decide) (RR.same sL) RL (sH.trans sL) np fun N7 sN eN RN => ?_
    clear ep sH RR sL el RL nl
    have ep := eN; have sH := sN; have RR := RN; clear eN sN RN
    walk_at "go6"
    walk_at "go6"
    refine g_errf rfl fun A11 sA11 => ?_
    walk_at "go6"
    refine g_errf rfl fun B11 sB11 => ?_
    walk_at "go6"
    refine ⟨by show 2 ≤ sizeLine; decide, fun t11 ht11 => ?_⟩
    have m11 := (sA11.trans sB11).trans (Same.upd (o := .tup [v, v]) ht11)
    have r11 : RowR v (upd B11 t11 (.tup [v, v])) (.ref t11) () := ⟨t11, rfl, upd_same⟩
    generalize upd B11 t11 (.tup [v, v]) = M11 at m11 r11 ⊢
    clear sA11 sB11 ht11
    walk_at "go6"
    refine ⟨by show 1 ≤ sizeLine; decide, fun l12 hl => ?_⟩
    have sX : Same M11 (upd M11 l12 (.lst [.ref t11])) := Same.upd hl
    have el : upd M11 l12 (.lst [.ref t11]) l12 = some (.lst [.ref t11]) := upd_same
    have RL : Its (RowR v) (upd M11 l12 (.lst [.ref t11])) [.ref t11] [()] := Its.same (.cons (r11) .nil) sX
    have sL := m11.trans sX
    have nl : N7 l12 = none := non31 m11 hl
    generalize upd M11 l12 (.lst [.ref t11]) = X12 at sL el RL ⊢
    clear sX hl m11 r11
    walk_at "go6"
    refine ext31 (sL _ _ ep) el (by show 11 + 1 ≤ 1000; decide) (RR.same sL) RL (sH.trans sL) np fun N8 sN eN RN => ?_
    clear ep sH RR sL el RL nl
    have ep := eN; have sH := sN; have RR := RN; clear eN sN RN
    walk_at "go6"
    walk_at "go6"
    refine g_errf rfl fun A12 sA12 => ?_
    walk_at "go6"
    refine g_errf rfl fun B12 sB12 => ?_
    walk_at "go6"
    refine ⟨by show 2 ≤ sizeLine; decide, fun t12 ht12 => ?_⟩
    have m12 := (sA12.trans sB12).trans (Same.upd (o := .tup [v, v]) ht12)
    have r12 : RowR v (upd B12 t12 (.tup [v, v])) (.ref t12) () := ⟨t12, rfl, upd_same⟩
    generalize upd B12 t12 (.tup [v, v]) = M12 at m12 r12 ⊢
    clear sA12 sB12 ht12
    walk_at "go6"
    refine ⟨by show 1 ≤ sizeLine; decide, fun l13 hl => ?_⟩
    have sX : Same M12 (upd M12 l13 (.lst [.ref t12])) := Same.upd hl
    have el : upd M12 l13 (.lst [.ref t12]) l13 = some (.lst [.ref t12]) := upd_same
    have RL : Its (RowR v) (upd M12 l13 (.lst [.ref t12])) [.ref t12] [()] := Its.same (.cons (r12) .nil) sX
    have sL := m12.trans sX
    have nl : N8 l13 = none := non31 m12 hl
    generalize upd M12 l13 (.lst [.ref t12]) = X13 at sL el RL ⊢
    clear sX hl m12 r12
    walk_at "go6"
    refine ext31 (sL _ _ ep) el (by show 12 + 1 ≤ 1000; decide) (RR.same sL) RL (sH.trans sL) np fun N9 sN eN RN => ?_
    clear ep sH RR sL el RL nl
    have ep := eN; have sH := sN; have RR := RN; clear eN sN RN
    walk_at "go6"
    walk_at "go6"
    refine g_errf rfl fun A13 sA13 => ?_
    walk_at "go6"
    refine g_errf rfl fun B13 sB13 => ?_
    walk_at "go6"
    refine ⟨by show 2 ≤ sizeLine; decide, fun t13 ht13 => ?_⟩
    have m13 := (sA13.trans sB13).trans (Same.upd (o := .tup [v, v]) ht13)
    have r13 : RowR v (upd B13 t13 (.tup [v, v])) (.ref t13) () := ⟨t13, rfl, upd_same⟩
    generalize upd B13 t13 (.tup [v, v]) = M13 at m13 r13 ⊢
    clear sA13 sB13 ht13
    walk_at "go6"
    refine ⟨by show 1 ≤ sizeLine; decide, fun l14 hl => ?_⟩
    have sX : Same M13 (upd M13 l14 (.lst [.ref t13])) := Same.upd hl
    have el : upd M13 l14 (.lst [.ref t13]) l14 = some (.lst [.ref t13]) := upd_same
    have RL : Its (RowR v) (upd M13 l14 (.lst [.ref t13])) [.ref t13] [()] := Its.same (.cons (r13) .nil) sX
    have sL := m13.trans sX
    have nl : N9 l14 = none := non31 m13 hl
    generalize upd M13 l14 (.lst [.ref t13]) = X14 at sL el RL ⊢
    clear sX hl m13 r13
    walk_at "go6"
    refine cat31 (sL _ _ ep) el (by show 13 + 1 ≤ 1000; decide) (RR.same sL) RL (sH.trans sL) fun N o sN no eN RN => ?_
    walk_at "go6"
    exact q N o _ sN no eN RN
theorem ca_law_made (T : Bl K mg)
    (k_BadAtom : Erk P w K mg base 1 "BadAtom" C_BadAtom "text")
    (k_BadForm : Erk P w K mg base 1 "BadForm" C_BadForm "path")
    (k_BadKey : Erk P w K mg base 1 "BadKey" C_BadKey "key")
    (k_BadText : Erk P w K mg base 1 "BadText" C_BadText "line")
    (k_BadHeap : Erk P w K mg base 1 "BadHeap" C_BadHeap "index")
    (k_NoWay : Erk P w K mg base 1 "NoWay" C_NoWay "step")
    (k_BadRole : Erk P w K mg base 1 "BadRole" C_BadRole "field")
    (k_NotFit : Erk P w K mg base 1 "NotFit" C_NotFit "index")
    (k_BadBook : Erk P w K mg base 1 "BadBook" C_BadBook "field")
    (k_BadSitting : Erk P w K mg base 1 "BadSitting" C_BadSitting "index")
    (k_NoSitting : Erk P w K mg base 1 "NoSitting" C_NoSitting "number")
    (k_NotWaiting : Erk P w K mg base 1 "NotWaiting" C_NotWaiting "number")
    (k_NotDone : Erk P w K mg base 1 "NotDone" C_NotDone "place")
    (k_BadWishes : Erk P w K mg base 1 "BadWishes" C_BadWishes "index")
    (c_BadRecipe : Ez K mg "BadRecipe" C_BadRecipe)
    (c_BadHeaps : Ez K mg "BadHeaps" C_BadHeaps)
    (c_NotPlain : Ez K mg "NotPlain" C_NotPlain)
    (c_NotHeld : Ez K mg "NotHeld" C_NotHeld)
    (c_NoMatch : Ez K mg "NoMatch" C_NoMatch)
    (c_BadFilling : Ez K mg "BadFilling" C_BadFilling)
    (c_BadGoal : Ez K mg "BadGoal" C_BadGoal)
    (c_BadCommand : Ez K mg "BadCommand" C_BadCommand)
    (D : Df K mg "_law_made" s_law_made p_law_made) : Ca P w K mg base 3 "_law_made" (spMade [C_BadAtom, C_BadForm, C_BadKey, C_BadText, C_BadHeap, C_BadRecipe, C_NoWay, C_BadHeaps, C_BadRole, C_NotFit, C_BadBook, C_BadSitting, C_NoSitting, C_NotPlain, C_NotWaiting, C_NotHeld, C_NoMatch, C_NotDone, C_BadFilling, C_BadWishes, C_BadGoal, C_BadCommand]) := by
  refine ca_n D sc_law_made (fun vs H Q E h => ?_) (fun f cdv A outer s H vs Q E hr h => ?_)
  · obtain ⟨v, rfl, _⟩ := h
    rfl
  · obtain ⟨v, rfl, q⟩ := h
    have c_BadAtom := k_BadAtom.er
    have c_BadForm := k_BadForm.er
    have c_BadKey := k_BadKey.er
    have c_BadText := k_BadText.er
    have c_BadHeap := k_BadHeap.er
    have c_NoWay := k_NoWay.er
    have c_BadRole := k_BadRole.er
    have c_NotFit := k_NotFit.er
    have c_BadBook := k_BadBook.er
    have c_BadSitting := k_BadSitting.er
    have c_NoSitting := k_NoSitting.er
    have c_NotWaiting := k_NotWaiting.er
    have c_NotDone := k_NotDone.er
    have c_BadWishes := k_BadWishes.er
    refine ⟨_, (pss_cons (ps_set (i := 1) sc_law_made.nd rfl (Or.inl rfl) (pe_lst (pa_cons (pe_xv c_BadAtom hr (by decide) (by rfl) (pa_cons (pv 0) pa_nil)) (pa_cons (pe_xv c_BadForm hr (by decide) (by rfl) (pa_cons (pv 0) pa_nil)) (pa_cons (pe_xv c_BadKey hr (by decide) (by rfl) (pa_cons (pv 0) pa_nil)) (pa_cons (pe_xv c_BadText hr (by decide) (by rfl) (pa_cons (pv 0) pa_nil)) (pa_cons (pe_xv c_BadHeap hr (by decide) (by rfl) (pa_cons (pv 0) pa_nil)) (pa_cons (pe_xv0 c_BadRecipe (by rfl)) pa_nil))))))))
  (pss_cons (ps_expr (pe_bm PySem.F.plainAttrs_list PySem.F.slot_list_extend PySem.F.type_list_extend mt_extend (pv 1) (pa_cons (pe_lst (pa_cons (pe_xv c_NoWay hr (by decide) (by rfl) (pa_cons (pv 0) pa_nil)) (pa_cons (pe_xv0 c_BadHeaps (by rfl)) (pa_cons (pe_xv c_BadRole hr (by decide) (by rfl) (pa_cons (pv 0) pa_nil)) (pa_cons (pe_xv c_NotFit hr (by decide) (by rfl) (pa_cons (pv 0) pa_nil)) (pa_cons (pe_xv c_BadBook hr (by decide) (by rfl) (pa_cons (pv 0) pa_nil)) pa_nil)))))) pa_nil)))
  (pss_cons (ps_expr (pe_bm PySem.F.plainAttrs_list PySem.F.slot_list_extend PySem.F.type_list_extend mt_extend (pv 1) (pa_cons (pe_lst (pa_cons (pe_xv c_BadSitting hr (by decide) (by rfl) (pa_cons (pv 0) pa_nil)) (pa_cons (pe_xv c_NoSitting hr (by decide) (by rfl) (pa_cons (pv 0) pa_nil)) pa_nil))) pa_nil)))
  (pss_cons (ps_expr (pe_bm PySem.F.plainAttrs_list PySem.F.slot_list_extend PySem.F.type_list_extend mt_extend (pv 1) (pa_cons (pe_lst (pa_cons (pe_xv0 c_NotPlain (by rfl)) (pa_cons (pe_xv c_NotWaiting hr (by decide) (by rfl) (pa_cons (pv 0) pa_nil)) (pa_cons (pe_xv0 c_NotHeld (by rfl)) (pa_cons (pe_xv0 c_NoMatch (by rfl)) (pa_cons (pe_xv c_NotDone hr (by decide) (by rfl) (pa_cons (pv 0) pa_nil)) (pa_cons (pe_xv0 c_BadFilling (by rfl)) pa_nil))))))) pa_nil)))
  (pss_one (ps_ret (pe_op op_cat (pv 1) (pe_lst (pa_cons (pe_xv c_BadWishes hr (by decide) (by rfl) (pa_cons (pv 0) pa_nil)) (pa_cons (pe_xv0 c_BadGoal (by rfl)) (pa_cons (pe_xv0 c_BadCommand (by rfl)) pa_nil))))))))))), ?_⟩
    walk_at "go6"
    refine g_err rfl fun M0 x0 m0 r0 => ?_
    walk_at "go6"
    refine g_err rfl fun M1 x1 m1 r1 => ?_
    walk_at "go6"
    refine g_err rfl fun M2 x2 m2 r2 => ?_
    walk_at "go6"
    refine g_err rfl fun M3 x3 m3 r3 => ?_
    walk_at "go6"
    refine g_err rfl fun M4 x4 m4 r4 => ?_
    walk_at "go6"
    refine g_err0 fun M5 x5 m5 r5 => ?_
    walk_at "go6"
    refine ⟨by show 6 ≤ sizeLine; decide, fun l6 hl => ?_⟩
    have sX : Same M5 (upd M5 l6 (.lst [x0, x1, x2, x3, x4, x5])) := Same.upd hl
    have el : upd M5 l6 (.lst [x0, x1, x2, x3, x4, x5]) l6 = some (.lst [x0, x1, x2, x3, x4, x5]) := upd_same
    have RL : Its (ErrR) (upd M5 l6 (.lst [x0, x1, x2, x3, x4, x5])) [x0, x1, x2, x3, x4, x5] [C_BadAtom, C_BadForm, C_BadKey, C_BadText, C_BadHeap, C_BadRecipe] := Its.same (.cons (Stays.same (Stays.same (Stays.same (Stays.same (Stays.same (r0) m1) m2) m3) m4) m5) (.cons (Stays.same (Stays.same (Stays.same (Stays.same (r1) m2) m3) m4) m5) (.cons (Stays.same (Stays.same (Stays.same (r2) m3) m4) m5) (.cons (Stays.same (Stays.same (r3) m4) m5) (.cons (Stays.same (r4) m5) (.cons (r5) .nil)))))) sX
    have sL := (((((m0.trans m1).trans m2).trans m3).trans m4).trans m5).trans sX
    have nl : H l6 = none := non31 (((((m0.trans m1).trans m2).trans m3).trans m4).trans m5) hl
    generalize upd M5 l6 (.lst [x0, x1, x2, x3, x4, x5]) = X6 at sL el RL ⊢
    clear sX hl m0 r0 m1 r1 m2 r2 m3 r3 m4 r4 m5 r5
    have sH := sL; have np := nl; have ep := el; have RR := RL; clear sL nl el RL
    walk_at "go6"
    walk_at "go6"
    refine g_err rfl fun M6 x6 m6 r6 => ?_
    walk_at "go6"
    refine g_err0 fun M7 x7 m7 r7 => ?_
    walk_at "go6"
    refine g_err rfl fun M8 x8 m8 r8 => ?_
    walk_at "go6"
    refine g_err rfl fun M9 x9 m9 r9 => ?_
    walk_at "go6"
    refine g_err rfl fun M10 x10 m10 r10 => ?_
    walk_at "go6"
    refine ⟨by show 5 ≤ sizeLine; decide, fun l11 hl => ?_⟩
    have sX : Same M10 (upd M10 l11 (.lst [x6, x7, x8, x9, x10])) := Same.upd hl
    have el : upd M10 l11 (.lst [x6, x7, x8, x9, x10]) l11 = some (.lst [x6, x7, x8, x9, x10]) := upd_same
    have RL : Its (ErrR) (upd M10 l11 (.lst [x6, x7, x8, x9, x10])) [x6, x7, x8, x9, x10] [C_NoWay, C_BadHeaps, C_BadRole, C_NotFit, C_BadBook] := Its.same (.cons (Stays.same (Stays.same (Stays.same (Stays.same (r6) m7) m8) m9) m10) (.cons (Stays.same (Stays.same (Stays.same (r7) m8) m9) m10) (.cons (Stays.same (Stays.same (r8) m9) m10) (.cons (Stays.same (r9) m10) (.cons (r10) .nil))))) sX
    have sL := ((((m6.trans m7).trans m8).trans m9).trans m10).trans sX
    have nl : X6 l11 = none := non31 ((((m6.trans m7).trans m8).trans m9).trans m10) hl
    generalize upd M10 l11 (.lst [x6, x7, x8, x9, x10]) = X11 at sL el RL ⊢
    clear sX hl m6 r6 m7 r7 m8 r8 m9 r9 m10 r10
    walk_at "go6"
    refine ext31 (sL _ _ ep) el (by show 6 + 5 ≤ 1000; decide) (RR.same sL) RL (sH.trans sL) np fun N0 sN eN RN => ?_
    clear ep sH RR sL el RL nl
    have ep := eN; have sH := sN; have RR := RN; clear eN sN RN
    walk_at "go6"
    walk_at "go6"
    refine g_err rfl fun M11 x11 m11 r11 => ?_
    walk_at "go6"
    refine g_err rfl fun M12 x12 m12 r12 => ?_
    walk_at "go6"
    refine ⟨by show 2 ≤ sizeLine; decide, fun l13 hl => ?_⟩
    have sX : Same M12 (upd M12 l13 (.lst [x11, x12])) := Same.upd hl
    have el : upd M12 l13 (.lst [x11, x12]) l13 = some (.lst [x11, x12]) := upd_same
    have RL : Its (ErrR) (upd M12 l13 (.lst [x11, x12])) [x11, x12] [C_BadSitting, C_NoSitting] := Its.same (.cons (Stays.same (r11) m12) (.cons (r12) .nil)) sX
    have sL := (m11.trans m12).trans sX
    have nl : N0 l13 = none := non31 (m11.trans m12) hl
    generalize upd M12 l13 (.lst [x11, x12]) = X13 at sL el RL ⊢
    clear sX hl m11 r11 m12 r12
    walk_at "go6"
    refine ext31 (sL _ _ ep) el (by show 11 + 2 ≤ 1000; decide) (RR.same sL) RL (sH.trans sL) np fun N1 sN eN RN => ?_
    clear ep sH RR sL el RL nl
    have ep := eN; have sH := sN; have RR := RN; clear eN sN RN
    walk_at "go6"
    walk_at "go6"
    refine g_err0 fun M13 x13 m13 r13 => ?_
    walk_at "go6"
    refine g_err rfl fun M14 x14 m14 r14 => ?_
    walk_at "go6"
    refine g_err0 fun M15 x15 m15 r15 => ?_
    walk_at "go6"
    refine g_err0 fun M16 x16 m16 r16 => ?_
    walk_at "go6"
    refine g_err rfl fun M17 x17 m17 r17 => ?_
    walk_at "go6"
    refine g_err0 fun M18 x18 m18 r18 => ?_
    walk_at "go6"
    refine ⟨by show 6 ≤ sizeLine; decide, fun l19 hl => ?_⟩
    have sX : Same M18 (upd M18 l19 (.lst [x13, x14, x15, x16, x17, x18])) := Same.upd hl
    have el : upd M18 l19 (.lst [x13, x14, x15, x16, x17, x18]) l19 = some (.lst [x13, x14, x15, x16, x17, x18]) := upd_same
    have RL : Its (ErrR) (upd M18 l19 (.lst [x13, x14, x15, x16, x17, x18])) [x13, x14, x15, x16, x17, x18] [C_NotPlain, C_NotWaiting, C_NotHeld, C_NoMatch, C_NotDone, C_BadFilling] := Its.same (.cons (Stays.same (Stays.same (Stays.same (Stays.same (Stays.same (r13) m14) m15) m16) m17) m18) (.cons (Stays.same (Stays.same (Stays.same (Stays.same (r14) m15) m16) m17) m18) (.cons (Stays.same (Stays.same (Stays.same (r15) m16) m17) m18) (.cons (Stays.same (Stays.same (r16) m17) m18) (.cons (Stays.same (r17) m18) (.cons (r18) .nil)))))) sX
    have sL := (((((m13.trans m14).trans m15).trans m16).trans m17).trans m18).trans sX
    have nl : N1 l19 = none := non31 (((((m13.trans m14).trans m15).trans m16).trans m17).trans m18) hl
    generalize upd M18 l19 (.lst [x13, x14, x15, x16, x17, x18]) = X19 at sL el RL ⊢
    clear sX hl m13 r13 m14 r14 m15 r15 m16 r16 m17 r17 m18 r18
    walk_at "go6"
    refine ext31 (sL _ _ ep) el (by show 13 + 6 ≤ 1000; decide) (RR.same sL) RL (sH.trans sL) np fun N2 sN eN RN => ?_
    clear ep sH RR sL el RL nl
    have ep := eN; have sH := sN; have RR := RN; clear eN sN RN
    walk_at "go6"
    walk_at "go6"
    refine g_err rfl fun M19 x19 m19 r19 => ?_
    walk_at "go6"
    refine g_err0 fun M20 x20 m20 r20 => ?_
    walk_at "go6"
    refine g_err0 fun M21 x21 m21 r21 => ?_
    walk_at "go6"
    refine ⟨by show 3 ≤ sizeLine; decide, fun l22 hl => ?_⟩
    have sX : Same M21 (upd M21 l22 (.lst [x19, x20, x21])) := Same.upd hl
    have el : upd M21 l22 (.lst [x19, x20, x21]) l22 = some (.lst [x19, x20, x21]) := upd_same
    have RL : Its (ErrR) (upd M21 l22 (.lst [x19, x20, x21])) [x19, x20, x21] [C_BadWishes, C_BadGoal, C_BadCommand] := Its.same (.cons (Stays.same (Stays.same (r19) m20) m21) (.cons (Stays.same (r20) m21) (.cons (r21) .nil))) sX
    have sL := ((m19.trans m20).trans m21).trans sX
    have nl : N2 l22 = none := non31 ((m19.trans m20).trans m21) hl
    generalize upd M21 l22 (.lst [x19, x20, x21]) = X22 at sL el RL ⊢
    clear sX hl m19 r19 m20 r20 m21 r21
    walk_at "go6"
    refine cat31 (sL _ _ ep) el (by show 19 + 3 ≤ 1000; decide) (RR.same sL) RL (sH.trans sL) fun N o sN no eN RN => ?_
    walk_at "go6"
    exact q N o _ sN no eN RN
theorem ca_law_kinds (T : Bl K mg)
    (k_BadAtom : Erk P w K mg base 1 "BadAtom" C_BadAtom "text")
    (k_BadForm : Erk P w K mg base 1 "BadForm" C_BadForm "path")
    (k_BadKey : Erk P w K mg base 1 "BadKey" C_BadKey "key")
    (k_BadText : Erk P w K mg base 1 "BadText" C_BadText "line")
    (k_BadHeap : Erk P w K mg base 1 "BadHeap" C_BadHeap "index")
    (k_NoWay : Erk P w K mg base 1 "NoWay" C_NoWay "step")
    (k_BadRole : Erk P w K mg base 1 "BadRole" C_BadRole "field")
    (k_NotFit : Erk P w K mg base 1 "NotFit" C_NotFit "index")
    (k_BadBook : Erk P w K mg base 1 "BadBook" C_BadBook "field")
    (k_BadSitting : Erk P w K mg base 1 "BadSitting" C_BadSitting "index")
    (k_NoSitting : Erk P w K mg base 1 "NoSitting" C_NoSitting "number")
    (k_NotWaiting : Erk P w K mg base 1 "NotWaiting" C_NotWaiting "number")
    (k_NotDone : Erk P w K mg base 1 "NotDone" C_NotDone "place")
    (k_BadWishes : Erk P w K mg base 1 "BadWishes" C_BadWishes "index")
    (c_BadRecipe : Ez K mg "BadRecipe" C_BadRecipe)
    (c_BadHeaps : Ez K mg "BadHeaps" C_BadHeaps)
    (c_NotPlain : Ez K mg "NotPlain" C_NotPlain)
    (c_NotHeld : Ez K mg "NotHeld" C_NotHeld)
    (c_NoMatch : Ez K mg "NoMatch" C_NoMatch)
    (c_BadFilling : Ez K mg "BadFilling" C_BadFilling)
    (c_BadGoal : Ez K mg "BadGoal" C_BadGoal)
    (c_BadCommand : Ez K mg "BadCommand" C_BadCommand)
    (XC : ∀ C ∈ [C_BadAtom, C_BadForm, C_BadKey, C_BadText, C_BadHeap, C_BadRecipe, C_NoWay, C_BadHeaps, C_BadRole, C_NotFit, C_BadBook, C_BadSitting, C_NoSitting, C_NotPlain, C_NotWaiting, C_NotHeld, C_NoMatch, C_NotDone, C_BadFilling, C_BadWishes, C_BadGoal, C_BadCommand], Xc K C) (KT : ∀ C ∈ [C_BadAtom, C_BadForm, C_BadKey, C_BadText, C_BadHeap, C_BadRecipe, C_NoWay, C_BadHeaps, C_BadRole, C_NotFit, C_BadBook, C_BadSitting, C_NoSitting, C_NotPlain, C_NotWaiting, C_NotHeld, C_NoMatch, C_NotDone, C_BadFilling, C_BadWishes, C_BadGoal, C_BadCommand], ∀ C' ∈ [C_BadAtom, C_BadForm, C_BadKey, C_BadText, C_BadHeap, C_BadRecipe, C_NoWay, C_BadHeaps, C_BadRole, C_NotFit, C_BadBook, C_BadSitting, C_NoSitting, C_NotPlain, C_NotWaiting, C_NotHeld, C_NoMatch, C_NotDone, C_BadFilling, C_BadWishes, C_BadGoal, C_BadCommand], PySem.W.kitOne K (.ref C) (.ref C') = some (C == C'))
    (D : Df K mg "_law_kinds" s_law_kinds p_law_kinds) : Ca P w K mg base 3 "_law_kinds" (spKinds [C_BadAtom, C_BadForm, C_BadKey, C_BadText, C_BadHeap, C_BadRecipe, C_NoWay, C_BadHeaps, C_BadRole, C_NotFit, C_BadBook, C_BadSitting, C_NoSitting, C_NotPlain, C_NotWaiting, C_NotHeld, C_NoMatch, C_NotDone, C_BadFilling, C_BadWishes, C_BadGoal, C_BadCommand]) := by
  refine ca_n D sc_law_kinds (fun vs H Q E h => ?_) (fun f cdv A outer s H vs Q E hr h => ?_)
  · obtain ⟨a, C, rfl, _⟩ := h
    rfl
  · obtain ⟨a, C, rfl, hX, hC, q⟩ := h
    have c_BadAtom := k_BadAtom.er
    have c_BadForm := k_BadForm.er
    have c_BadKey := k_BadKey.er
    have c_BadText := k_BadText.er
    have c_BadHeap := k_BadHeap.er
    have c_NoWay := k_NoWay.er
    have c_BadRole := k_BadRole.er
    have c_NotFit := k_NotFit.er
    have c_BadBook := k_BadBook.er
    have c_BadSitting := k_BadSitting.er
    have c_NoSitting := k_NoSitting.er
    have c_NotWaiting := k_NotWaiting.er
    have c_NotDone := k_NotDone.er
    have c_BadWishes := k_BadWishes.er
    refine ⟨_, (pss_cons (ps_set (i := 1) sc_law_kinds.nd rfl (Or.inl rfl) (pe_lst (pa_cons (pe_callB call_isX (by rfl) T.b_isinstance (by decide +kernel) (pa_cons (pv 0) (pa_cons (C8.pe_gc (v := .ref C_BadAtom) (by rfl) ⟨_, c_BadAtom.gC, rfl⟩) pa_nil))) (pa_cons (pe_callB call_isX (by rfl) T.b_isinstance (by decide +kernel) (pa_cons (pv 0) (pa_cons (C8.pe_gc (v := .ref C_BadForm) (by rfl) ⟨_, c_BadForm.gC, rfl⟩) pa_nil))) (pa_cons (pe_callB call_isX (by rfl) T.b_isinstance (by decide +kernel) (pa_cons (pv 0) (pa_cons (C8.pe_gc (v := .ref C_BadKey) (by rfl) ⟨_, c_BadKey.gC, rfl⟩) pa_nil))) pa_nil)))))
  (pss_cons (ps_expr (pe_bm PySem.F.plainAttrs_list PySem.F.slot_list_append PySem.F.type_list_append mt_append (pv 1) (pa_cons (pe_callB call_isX (by rfl) T.b_isinstance (by decide +kernel) (pa_cons (pv 0) (pa_cons (C8.pe_gc (v := .ref C_BadText) (by rfl) ⟨_, c_BadText.gC, rfl⟩) pa_nil))) pa_nil)))
  (pss_cons (ps_expr (pe_bm PySem.F.plainAttrs_list PySem.F.slot_list_extend PySem.F.type_list_extend mt_extend (pv 1) (pa_cons (pe_lst (pa_cons (pe_callB call_isX (by rfl) T.b_isinstance (by decide +kernel) (pa_cons (pv 0) (pa_cons (C8.pe_gc (v := .ref C_BadHeap) (by rfl) ⟨_, c_BadHeap.gC, rfl⟩) pa_nil))) (pa_cons (pe_callB call_isX (by rfl) T.b_isinstance (by decide +kernel) (pa_cons (pv 0) (pa_cons (C8.pe_gc (v := .ref C_BadRecipe) (by rfl) ⟨_, c_BadRecipe.gC, rfl⟩) pa_nil))) (pa_cons (pe_callB call_isX (by rfl) T.b_isinstance (by decide +kernel) (pa_cons (pv 0) (pa_cons (C8.pe_gc (v := .ref C_NoWay) (by rfl) ⟨_, c_NoWay.gC, rfl⟩) pa_nil))) pa_nil)))) pa_nil)))
  (pss_cons (ps_expr (pe_bm PySem.F.plainAttrs_list PySem.F.slot_list_extend PySem.F.type_list_extend mt_extend (pv 1) (pa_cons (pe_lst (pa_cons (pe_callB call_isX (by rfl) T.b_isinstance (by decide +kernel) (pa_cons (pv 0) (pa_cons (C8.pe_gc (v := .ref C_BadHeaps) (by rfl) ⟨_, c_BadHeaps.gC, rfl⟩) pa_nil))) (pa_cons (pe_callB call_isX (by rfl) T.b_isinstance (by decide +kernel) (pa_cons (pv 0) (pa_cons (C8.pe_gc (v := .ref C_BadRole) (by rfl) ⟨_, c_BadRole.gC, rfl⟩) pa_nil))) (pa_cons (pe_callB call_isX (by rfl) T.b_isinstance (by decide +kernel) (pa_cons (pv 0) (pa_cons (C8.pe_gc (v := .ref C_NotFit) (by rfl) ⟨_, c_NotFit.gC, rfl⟩) pa_nil))) pa_nil)))) pa_nil)))
  (pss_cons (ps_expr (pe_bm PySem.F.plainAttrs_list PySem.F.slot_list_extend PySem.F.type_list_extend mt_extend (pv 1) (pa_cons (pe_lst (pa_cons (pe_callB call_isX (by rfl) T.b_isinstance (by decide +kernel) (pa_cons (pv 0) (pa_cons (C8.pe_gc (v := .ref C_BadBook) (by rfl) ⟨_, c_BadBook.gC, rfl⟩) pa_nil))) (pa_cons (pe_callB call_isX (by rfl) T.b_isinstance (by decide +kernel) (pa_cons (pv 0) (pa_cons (C8.pe_gc (v := .ref C_BadSitting) (by rfl) ⟨_, c_BadSitting.gC, rfl⟩) pa_nil))) (pa_cons (pe_callB call_isX (by rfl) T.b_isinstance (by decide +kernel) (pa_cons (pv 0) (pa_cons (C8.pe_gc (v := .ref C_NoSitting) (by rfl) ⟨_, c_NoSitting.gC, rfl⟩) pa_nil))) pa_nil)))) pa_nil)))
  (pss_cons (ps_expr (pe_bm PySem.F.plainAttrs_list PySem.F.slot_list_extend PySem.F.type_list_extend mt_extend (pv 1) (pa_cons (pe_lst (pa_cons (pe_callB call_isX (by rfl) T.b_isinstance (by decide +kernel) (pa_cons (pv 0) (pa_cons (C8.pe_gc (v := .ref C_NotPlain) (by rfl) ⟨_, c_NotPlain.gC, rfl⟩) pa_nil))) (pa_cons (pe_callB call_isX (by rfl) T.b_isinstance (by decide +kernel) (pa_cons (pv 0) (pa_cons (C8.pe_gc (v := .ref C_NotWaiting) (by rfl) ⟨_, c_NotWaiting.gC, rfl⟩) pa_nil))) (pa_cons (pe_callB call_isX (by rfl) T.b_isinstance (by decide +kernel) (pa_cons (pv 0) (pa_cons (C8.pe_gc (v := .ref C_NotHeld) (by rfl) ⟨_, c_NotHeld.gC, rfl⟩) pa_nil))) pa_nil)))) pa_nil)))
  (pss_cons (ps_expr (pe_bm PySem.F.plainAttrs_list PySem.F.slot_list_extend PySem.F.type_list_extend mt_extend (pv 1) (pa_cons (pe_lst (pa_cons (pe_callB call_isX (by rfl) T.b_isinstance (by decide +kernel) (pa_cons (pv 0) (pa_cons (C8.pe_gc (v := .ref C_NoMatch) (by rfl) ⟨_, c_NoMatch.gC, rfl⟩) pa_nil))) (pa_cons (pe_callB call_isX (by rfl) T.b_isinstance (by decide +kernel) (pa_cons (pv 0) (pa_cons (C8.pe_gc (v := .ref C_NotDone) (by rfl) ⟨_, c_NotDone.gC, rfl⟩) pa_nil))) (pa_cons (pe_callB call_isX (by rfl) T.b_isinstance (by decide +kernel) (pa_cons (pv 0) (pa_cons (C8.pe_gc (v := .ref C_BadFilling) (by rfl) ⟨_, c_BadFilling.gC, rfl⟩) pa_nil))) pa_nil)))) pa_nil)))
  (pss_one (ps_ret (pe_op op_cat (pv 1) (pe_lst (pa_cons (pe_callB call_isX (by rfl) T.b_isinstance (by decide +kernel) (pa_cons (pv 0) (pa_cons (C8.pe_gc (v := .ref C_BadWishes) (by rfl) ⟨_, c_BadWishes.gC, rfl⟩) pa_nil))) (pa_cons (pe_callB call_isX (by rfl) T.b_isinstance (by decide +kernel) (pa_cons (pv 0) (pa_cons (C8.pe_gc (v := .ref C_BadGoal) (by rfl) ⟨_, c_BadGoal.gC, rfl⟩) pa_nil))) (pa_cons (pe_callB call_isX (by rfl) T.b_isinstance (by decide +kernel) (pa_cons (pv 0) (pa_cons (C8.pe_gc (v := .ref C_BadCommand) (by rfl) ⟨_, c_BadCommand.gC, rfl⟩) pa_nil))) pa_nil)))))))))))))), ?_⟩
    have TX := XC C hC
    have KX := KT C hC
    have sH : Same H H := Same.refl H
    walk_at "go6"
    refine g_isX (Cj := C_BadAtom) (hX.same sH) TX (KX _ (by simp)) ?_
    walk_at "go6"
    refine g_isX (Cj := C_BadForm) (hX.same sH) TX (KX _ (by simp)) ?_
    walk_at "go6"
    refine g_isX (Cj := C_BadKey) (hX.same sH) TX (KX _ (by simp)) ?_
    walk_at "go6"
    refine ⟨by show 3 ≤ sizeLine; decide, fun l0 hl => ?_⟩
    have sL : Same H (upd H l0 (.lst [V.bl (C == C_BadAtom), V.bl (C == C_BadForm), V.bl (C == C_BadKey)])) := Same.upd hl
    have el : upd H l0 (.lst [V.bl (C == C_BadAtom), V.bl (C == C_BadForm), V.bl (C == C_BadKey)]) l0 = some (.lst [V.bl (C == C_BadAtom), V.bl (C == C_BadForm), V.bl (C == C_BadKey)]) := upd_same
    generalize upd H l0 (.lst [V.bl (C == C_BadAtom), V.bl (C == C_BadForm), V.bl (C == C_BadKey)]) = X0 at sL el ⊢
    clear sH
    have sH := sL; have ep := el; have np := hl; clear sL hl el
    walk_at "go6"
    refine g_isX (Cj := C_BadText) (hX.same sH) TX (KX _ (by simp)) ?_
    walk_at "go6"
    refine appB ep (by show 3 ≤ 1000; decide) sH np fun N1 sN eN => ?_
    clear ep sH; have ep := eN; have sH := sN; clear eN sN
    walk_at "go6"
    refine g_isX (Cj := C_BadHeap) (hX.same sH) TX (KX _ (by simp)) ?_
    walk_at "go6"
    refine g_isX (Cj := C_BadRecipe) (hX.same sH) TX (KX _ (by simp)) ?_
    walk_at "go6"
    refine g_isX (Cj := C_NoWay) (hX.same sH) TX (KX _ (by simp)) ?_
    walk_at "go6"
    refine ⟨by show 3 ≤ sizeLine; decide, fun l2 hl => ?_⟩
    have sL : Same N1 (upd N1 l2 (.lst [V.bl (C == C_BadHeap), V.bl (C == C_BadRecipe), V.bl (C == C_NoWay)])) := Same.upd hl
    have el : upd N1 l2 (.lst [V.bl (C == C_BadHeap), V.bl (C == C_BadRecipe), V.bl (C == C_NoWay)]) l2 = some (.lst [V.bl (C == C_BadHeap), V.bl (C == C_BadRecipe), V.bl (C == C_NoWay)]) := upd_same
    generalize upd N1 l2 (.lst [V.bl (C == C_BadHeap), V.bl (C == C_BadRecipe), V.bl (C == C_NoWay)]) = X2 at sL el ⊢
    walk_at "go6"
    refine extB (sL _ _ ep) el (by show 4 + 3 ≤ 1000; decide) (sH.trans sL) np fun N2 sN eN => ?_
    clear ep sH sL hl el; have ep := eN; have sH := sN; clear eN sN
    walk_at "go6"
    refine g_isX (Cj := C_BadHeaps) (hX.same sH) TX (KX _ (by simp)) ?_
    walk_at "go6"
    refine g_isX (Cj := C_BadRole) (hX.same sH) TX (KX _ (by simp)) ?_
    walk_at "go6"
    refine g_isX (Cj := C_NotFit) (hX.same sH) TX (KX _ (by simp)) ?_
    walk_at "go6"
    refine ⟨by show 3 ≤ sizeLine; decide, fun l3 hl => ?_⟩
    have sL : Same N2 (upd N2 l3 (.lst [V.bl (C == C_BadHeaps), V.bl (C == C_BadRole), V.bl (C == C_NotFit)])) := Same.upd hl
    have el : upd N2 l3 (.lst [V.bl (C == C_BadHeaps), V.bl (C == C_BadRole), V.bl (C == C_NotFit)]) l3 = some (.lst [V.bl (C == C_BadHeaps), V.bl (C == C_BadRole), V.bl (C == C_NotFit)]) := upd_same
    generalize upd N2 l3 (.lst [V.bl (C == C_BadHeaps), V.bl (C == C_BadRole), V.bl (C == C_NotFit)]) = X3 at sL el ⊢
    walk_at "go6"
    refine extB (sL _ _ ep) el (by show 7 + 3 ≤ 1000; decide) (sH.trans sL) np fun N3 sN eN => ?_
    clear ep sH sL hl el; have ep := eN; have sH := sN; clear eN sN
    walk_at "go6"
    refine g_isX (Cj := C_BadBook) (hX.same sH) TX (KX _ (by simp)) ?_
    walk_at "go6"
    refine g_isX (Cj := C_BadSitting) (hX.same sH) TX (KX _ (by simp)) ?_
    walk_at "go6"
    refine g_isX (Cj := C_NoSitting) (hX.same sH) TX (KX _ (by simp)) ?_
    walk_at "go6"
    refine ⟨by show 3 ≤ sizeLine; decide, fun l4 hl => ?_⟩
    have sL : Same N3 (upd N3 l4 (.lst [V.bl (C == C_BadBook), V.bl (C == C_BadSitting), V.bl (C == C_NoSitting)])) := Same.upd hl
    have el : upd N3 l4 (.lst [V.bl (C == C_BadBook), V.bl (C == C_BadSitting), V.bl (C == C_NoSitting)]) l4 = some (.lst [V.bl (C == C_BadBook), V.bl (C == C_BadSitting), V.bl (C == C_NoSitting)]) := upd_same
    generalize upd N3 l4 (.lst [V.bl (C == C_BadBook), V.bl (C == C_BadSitting), V.bl (C == C_NoSitting)]) = X4 at sL el ⊢
    walk_at "go6"
    refine extB (sL _ _ ep) el (by show 10 + 3 ≤ 1000; decide) (sH.trans sL) np fun N4 sN eN => ?_
    clear ep sH sL hl el; have ep := eN; have sH := sN; clear eN sN
    walk_at "go6"
    refine g_isX (Cj := C_NotPlain) (hX.same sH) TX (KX _ (by simp)) ?_
    walk_at "go6"
    refine g_isX (Cj := C_NotWaiting) (hX.same sH) TX (KX _ (by simp)) ?_
    walk_at "go6"
    refine g_isX (Cj := C_NotHeld) (hX.same sH) TX (KX _ (by simp)) ?_
    walk_at "go6"
    refine ⟨by show 3 ≤ sizeLine; decide, fun l5 hl => ?_⟩
    have sL : Same N4 (upd N4 l5 (.lst [V.bl (C == C_NotPlain), V.bl (C == C_NotWaiting), V.bl (C == C_NotHeld)])) := Same.upd hl
    have el : upd N4 l5 (.lst [V.bl (C == C_NotPlain), V.bl (C == C_NotWaiting), V.bl (C == C_NotHeld)]) l5 = some (.lst [V.bl (C == C_NotPlain), V.bl (C == C_NotWaiting), V.bl (C == C_NotHeld)]) := upd_same
    generalize upd N4 l5 (.lst [V.bl (C == C_NotPlain), V.bl (C == C_NotWaiting), V.bl (C == C_NotHeld)]) = X5 at sL el ⊢
    walk_at "go6"
    refine extB (sL _ _ ep) el (by show 13 + 3 ≤ 1000; decide) (sH.trans sL) np fun N5 sN eN => ?_
    clear ep sH sL hl el; have ep := eN; have sH := sN; clear eN sN
    walk_at "go6"
    refine g_isX (Cj := C_NoMatch) (hX.same sH) TX (KX _ (by simp)) ?_
    walk_at "go6"
    refine g_isX (Cj := C_NotDone) (hX.same sH) TX (KX _ (by simp)) ?_
    walk_at "go6"
    refine g_isX (Cj := C_BadFilling) (hX.same sH) TX (KX _ (by simp)) ?_
    walk_at "go6"
    refine ⟨by show 3 ≤ sizeLine; decide, fun l6 hl => ?_⟩
    have sL : Same N5 (upd N5 l6 (.lst [V.bl (C == C_NoMatch), V.bl (C == C_NotDone), V.bl (C == C_BadFilling)])) := Same.upd hl
    have el : upd N5 l6 (.lst [V.bl (C == C_NoMatch), V.bl (C == C_NotDone), V.bl (C == C_BadFilling)]) l6 = some (.lst [V.bl (C == C_NoMatch), V.bl (C == C_NotDone), V.bl (C == C_BadFilling)]) := upd_same
    generalize upd N5 l6 (.lst [V.bl (C == C_NoMatch), V.bl (C == C_NotDone), V.bl (C == C_BadFilling)]) = X6 at sL el ⊢
    walk_at "go6"
    refine extB (sL _ _ ep) el (by show 16 + 3 ≤ 1000; decide) (sH.trans sL) np fun N6 sN eN => ?_
    clear ep sH sL hl el; have ep := eN; have sH := sN; clear eN sN
    walk_at "go6"
    refine g_isX (Cj := C_BadWishes) (hX.same sH) TX (KX _ (by simp)) ?_
    walk_at "go6"
    refine g_isX (Cj := C_BadGoal) (hX.same sH) TX (KX _ (by simp)) ?_
    walk_at "go6"
    refine g_isX (Cj := C_BadCommand) (hX.same sH) TX (KX _ (by simp)) ?_
    walk_at "go6"
    refine ⟨by show 3 ≤ sizeLine; decide, fun l7 hl => ?_⟩
    have sL : Same N6 (upd N6 l7 (.lst [V.bl (C == C_BadWishes), V.bl (C == C_BadGoal), V.bl (C == C_BadCommand)])) := Same.upd hl
    have el : upd N6 l7 (.lst [V.bl (C == C_BadWishes), V.bl (C == C_BadGoal), V.bl (C == C_BadCommand)]) l7 = some (.lst [V.bl (C == C_BadWishes), V.bl (C == C_BadGoal), V.bl (C == C_BadCommand)]) := upd_same
    generalize upd N6 l7 (.lst [V.bl (C == C_BadWishes), V.bl (C == C_BadGoal), V.bl (C == C_BadCommand)]) = X7 at sL el ⊢
    walk_at "go6"
    refine g_cat (sL _ _ ep) el (by rw [sizeLine_eq]; show 19 + 3 ≤ 16777216; decide) fun o ho => ?_
    walk_at "go6"
    exact q _ o ((sH.trans sL).trans (Same.upd ho)) (non31 (sH.trans sL) ho) upd_same
end
end Op

namespace Op
open PySem PySem.Spec PyProof.Rows L2
local macro_rules | `(tactic| walk_at "go1") => `(tactic| first
  | ((with_reducible refine' g_var ?h ?_); (case h => rfl)) | with_reducible refine' g_c ?_ | with_reducible refine' g_op ?_ | with_reducible refine' g_un ?_ | with_reducible refine' g_if ?_ | with_reducible refine' g_test ?_ | with_reducible refine' g_B ?_ | with_reducible refine' g_bl ?_
  | with_reducible refine' g_not ?_ | with_reducible refine' g_and ?_ | with_reducible refine' g_or ?_ | with_reducible refine' g_andV ?_ | with_reducible refine' g_orV ?_ | with_reducible refine' g_notV ?_ | with_reducible refine' g_nil ?_ | with_reducible refine' g_cons ?_ | with_reducible refine' g_CB ?_ | with_reducible refine' g_ca ?_
  | with_reducible refine' g_seq ?_ | with_reducible refine' g_next ?_ | with_reducible refine' g_asg ?_ | with_reducible refine' g_name ?_ | with_reducible refine' g_ret ?_ | with_reducible refine' g_retN ?_ | with_reducible refine' g_drop ?_ | with_reducible refine' g_ifS ?_ | with_reducible refine' g_sub ?_
  | with_reducible refine' g_I0 ?_ | with_reducible refine' g_U ?_ | ((with_reducible refine' g_eq ?h ?_); (case h => rfl)) | ((with_reducible refine' g_ne ?h ?_); (case h => rfl))
  | ((with_reducible refine' g_lenL ?h ?_); (case h => first | assumption | exact SqL.of (by assumption) | exact SqL.of upd_same)) | ((with_reducible refine' g_lenT ?h ?_); (case h => first | assumption | exact SqT.of (by assumption) | exact SqT.of upd_same))
  | ((with_reducible refine' g_ixL ?h ?ha ?_); (case h => first | assumption | exact SqL.of (by assumption) | exact SqL.of upd_same); (case ha => rfl)) | ((with_reducible refine' g_ixT ?h ?ha ?_); (case h => first | assumption | exact SqT.of (by assumption) | exact SqT.of upd_same); (case ha => rfl))
  | ((with_reducible refine' g_I ?h ?_); (case h => first | decide | omega | (first | refine' ⟨?_, ?_, ?_⟩ | refine' ⟨?_, ?_⟩ | refine' Or.inl ⟨?_, ?_⟩) <;> omega | (refine' Or.inr ⟨?_, ?_⟩ <;> omega)))
  | ((with_reducible refine' g_setL ?h ?ha ?_); (case h => first | assumption | exact upd_same); (case ha => rfl))
  | with_reducible refine' g_lcR ?_
  | with_reducible refine' g_M1 ?_ | with_reducible refine' g_isS ?_ | with_reducible refine' g_tyS ?_ | ((with_reducible refine' g_tyL ?h ?_); (case h => first | assumption | exact upd_same))
  | ((with_reducible refine' g_cat ?h ?h2 ?hl ?_); (case h => first | assumption | exact upd_same); (case h2 => first | assumption | exact upd_same); (case hl => first | decide | (simp; omega)))
  | with_reducible refine' g_lcS ?_
  | with_reducible refine' g_starts ?_ | with_reducible refine' g_chain ?_
  | ((with_reducible refine' g_lenS ?h ?_); (case h => first | exact len_le (by assumption) | exact len_le (by omega))) | ((with_reducible refine' g_rstrip ?h ?_); (case h => first | exact len_le (by assumption) | exact len_le (by omega))) | ((with_reducible refine' g_slX ?h ?_); (case h => first | exact len_le (by assumption) | exact len_le (by omega)))
  | with_reducible refine' g_sl ?_ | with_reducible refine' g_nopart ?_ | with_reducible refine' g_part ?_ | with_reducible refine' g_isI ?_
  | with_reducible refine' g_tru ?_
  | with_reducible refine' iteT ?_ | with_reducible refine' iteF ?_ | with_reducible refine' iteNT ?_ | with_reducible refine' iteNF ?_
  | with_reducible refine' g_int ?_ | with_reducible refine' g_insg ?_ | with_reducible refine' g_ninsg ?_ | with_reducible refine' g_isN ?_ | with_reducible refine' g_notN ?_ | with_reducible refine' g_lst ?_ | with_reducible refine' g_tup ?_ | with_reducible refine' g_BM ?_ | with_reducible refine' g_BM0 ?_)
local macro_rules | `(tactic| walk_at "go") => `(tactic| repeat' walk_at "go1")
theorem ix_listK {X : Cx} {K : PySem.W.Frag} (hK : X.K = K) : IxR X (rIxL K) := by
  subst hK
  exact ix_list
theorem g_cmps {r : R2} {ta tb : TE} {σ : L2.St} {H : Hp} {Q : VK} (k : ta σ H fun x H1 => tb σ H1 fun y H2 => r x y H2 Q) : tOp r ta tb σ H Q := k
/-- [j for j in range(n) if t], where what t does leaves all as it was -/
def rLcRF (j : Nat) (tt : TT) (te : TE) (vs : List Nat) (σ : L2.St) (xs : List V) (H : Hp) (Q : VK) : Prop := ∃ n : Int, xs = [.int n] ∧ -(2 ^ 62) ≤ n ∧ n < 2 ^ 62 ∧ ∀ D, H D = none → ∃ W : Nat → Nat → Hp → Prop, (∃ m, W 0 m (upd H D (.lst []))) ∧ ∀ i m H, W i m H →
  ((Itr 0 n.toNat).stop i H ∧ Q (.ref D) H) ∨ ((Itr 0 n.toNat).go i H ∧ ∃ N : Hp → Prop, (∀ H', N H' → ∃ m', m' < m ∧ W (i + 1) m' H') ∧ ∀ x H', (Itr 0 n.toNat).yld i H x H' → gName j x (wipe σ vs) H' fun σ2 H2 => wipe σ2 vs = wipe σ vs ∧ tt σ2 H2 fun b H3 =>
    if b = true then te σ2 H3 fun y H4 => ∃ acc, H4 D = some (.lst acc) ∧ acc.length < sizeLine ∧ N (upd H4 D (.lst (acc ++ [y]))) else N H3)
theorem g_lcRF {σ : L2.St} {H : Hp} {Q : VK} {tl : TA} {tt : TT} {te : TE} {j : Nat} {vs : List Nat} (k : tl σ H fun xs H1 => rLcRF j tt te vs σ xs H1 Q) : tLc (iRng1 tl) (gName j) tt te vs σ H Q := k
theorem r_lcRF {σ : L2.St} {H : Hp} {Q : VK} {tt : TT} {te : TE} {j n : Nat} {vs : List Nat} (b : Nat → Bool) (hn : n < 1000) (hw : ∀ x, wipe ((wipe σ vs).set j (some x)) vs = wipe σ vs)
    (ht : ∀ i H2 (R : Bool → Hp → Prop), i < n → Same H H2 → (∀ H3, Same H2 H3 → R (b i) H3) → tt ((wipe σ vs).set j (some (.int (i : Int)))) H2 R)
    (he : ∀ i H2 (R : VK), R (.int (i : Int)) H2 → te ((wipe σ vs).set j (some (.int (i : Int)))) H2 R)
    (k : ∀ D H2, Same H H2 → H2 D = some (.lst (((List.range n).filter b).map fun i => V.int ((i : Nat) : Int))) → Q (.ref D) H2) : rLcRF j tt te vs σ [.int ((n : Nat) : Int)] H Q := by
  refine ⟨_, rfl, by omega, by omega, fun D hD => ?_⟩
  rw [Int.toNat_natCast]
  refine lc_range (lo := 0) (n := n) (fun i H2 => Same H H2 ∧ H2 D = some (.lst (((List.range i).filter b).map fun i => V.int ((i : Nat) : Int)))) ⟨Same.upd hD, upd_same⟩ (fun i H2 hi p => ?_) (fun H2 p => ?_)
  · obtain ⟨s2, e2⟩ := p
    rw [show (0 : Int) + (i : Int) = (i : Int) from Int.zero_add _]
    refine ⟨hw _, ht i H2 _ hi s2 fun H3 s3 => ?_⟩
    cases hb : b i with
    | false =>
      rw [if_neg Bool.false_ne_true, List.range_succ, List.filter_append, List.filter_cons, if_neg (by rw [hb]; decide), List.filter_nil, List.append_nil]
      exact ⟨s2.trans s3, s3 _ _ e2⟩
    | true =>
      rw [if_pos rfl]
      refine he i H3 _ ⟨_, s3 _ _ e2, ?_, ?_⟩
      · have h1 := List.length_filter_le b (List.range i)
        rw [List.length_range] at h1
        rw [List.length_map, sizeLine_eq]
        omega
      · refine ⟨Same.mut (s2.trans s3) hD, ?_⟩
        rw [List.range_succ, List.filter_append, List.filter_cons, if_pos hb, List.filter_nil, List.map_append, upd_same]
        rfl
  · exact k D H2 p.1 p.2
/-- [e for a, b in xs], where e does nothing and is False at all -/
def rLcP (K : PySem.W.Frag) (i j : Nat) (te : TE) (vs : List Nat) (σ : L2.St) (v : V) (H : Hp) (Q : VK) : Prop := ∃ a, v = .ref a ∧ (∃ xs, SqL K H a xs) ∧ ∀ D, H D = none → ∃ W : Nat → Nat → Hp → Prop, (∃ m, W 0 m (upd H D (.lst []))) ∧ ∀ n m H, W n m H →
  ((Itl K a).stop n H ∧ Q (.ref D) H) ∨ ((Itl K a).go n H ∧ ∃ N : Hp → Prop, (∀ H', N H' → ∃ m', m' < m ∧ W (n + 1) m' H') ∧ ∀ x H', (Itl K a).yld n H x H' → gTup K 2 (gCons (gName i) (gCons (gName j) gNil)) x (wipe σ vs) H' fun σ2 H2 => wipe σ2 vs = wipe σ vs ∧ tYes σ2 H2 fun b H3 =>
    if b = true then te σ2 H3 fun y H4 => ∃ acc, H4 D = some (.lst acc) ∧ acc.length < sizeLine ∧ N (upd H4 D (.lst (acc ++ [y]))) else N H3)
theorem g_lcP {K : PySem.W.Frag} {i j : Nat} {σ : L2.St} {H : Hp} {Q : VK} {td te : TE} {vs : List Nat} (k : td σ H fun v H1 => rLcP K i j te vs σ v H1 Q) : tLc (iList K td) (gTup K 2 (gCons (gName i) (gCons (gName j) gNil))) tYes te vs σ H Q := k
theorem lc_rows {K : PySem.W.Frag} {v : V} {σ : L2.St} {H : Hp} {Q : VK} {te : TE} {i j : Nat} {vs : List Nat} {a : Addr} {xs : List V} {cs : List Unit} (ha : H a = some (.lst xs)) (hl : xs.length < 1000) (hI : Its (RowR v) H xs cs)
    (hw : ∀ x y, wipe (((wipe σ vs).set i (some x)).set j (some y)) vs = wipe σ vs)
    (he : ∀ H2 (R : VK), Same H H2 → R (.bl false) H2 → te (((wipe σ vs).set i (some v)).set j (some v)) H2 R)
    (k : ∀ D H2, Same H H2 → H2 D = some (.lst ((List.replicate xs.length false).map V.bl)) → Q (.ref D) H2) : rLcP K i j te vs σ (.ref a) H Q := by
  refine ⟨a, rfl, ⟨xs, SqL.of ha⟩, fun D hD => ?_⟩
  refine lc_list (xs := xs) (fun m H2 => Same H H2 ∧ H2 D = some (.lst ((List.replicate m false).map V.bl))) ⟨Same.upd hD, upd_same⟩ (fun m H2 hm p => SqL.of (p.1 _ _ ha)) (fun m x H2 hx p => ?_) (fun H2 p => k D H2 p.1 p.2)
  obtain ⟨s2, e2⟩ := p
  have hm : m < xs.length := (List.getElem?_eq_some_iff.mp hx).1
  have hr : RowR v H x () := by
    have key : ∀ {l : List V} {us : List Unit}, Paired (RowR v H) l us → ∀ y ∈ l, RowR v H y () := by
      intro l us h
      induction h with
      | nil => intro y hy; cases hy
      | cons a t ih =>
        intro y hy
        rcases List.mem_cons.mp hy with rfl | hy
        · exact a
        · exact ih y hy
    exact key hI x (List.mem_of_getElem? hx)
  obtain ⟨t, rfl, et⟩ := hr
  refine ⟨t, [v, v], rfl, SqT.of (s2 _ _ et), rfl, v, [v], rfl, v, [], rfl, rfl, hw _ _, ?_⟩
  refine he H2 _ s2 ⟨_, e2, ?_, ?_⟩
  · rw [List.length_map, List.length_replicate, sizeLine_eq]
    omega
  · refine ⟨Same.mut s2 hD, ?_⟩
    rw [List.replicate_succ', List.map_append, upd_same]
    rfl
local macro_rules | `(tactic| walk_at "go6") => `(tactic| repeat' (first | walk_at "go1" | with_reducible refine' g_for ?_))
theorem StAt.nq {H H' : Hp} {st t : Addr} {n : Nat} {o : HO} (h : StAt H st n) (s : Same H H') (e : H' t = some o) (d : ∀ {a b c : Int}, o ≠ .lst [.int a, .int b, .int c]) : t ≠ st := fun z => by
  obtain ⟨a, b, c, h1, _⟩ := h
  rw [z, s _ _ h1] at e
  exact d (Option.some.inj e).symm
theorem Its.get31 {H : Hp} : ∀ {xs : List V} {Cs : List Addr} {i : Nat}, Its ErrR H xs Cs → i < xs.length → ∃ x C, xs[i]? = some x ∧ Cs[i]? = some C ∧ ∃ y, x = .ref y ∧ XcAt H y C
  | _, _, i, .nil, h => absurd h (Nat.not_lt_zero _)
  | _, _, 0, .cons (a := x) (b := C) ⟨y, e, h⟩ t, _ => ⟨x, C, rfl, rfl, y, e, h⟩
  | _, _, i + 1, .cons a t, h => Its.get31 (i := i) t (Nat.lt_of_succ_lt_succ h)
theorem nd_at {Cs : List Addr} (nd : Cs.Nodup) {i j : Nat} {C C' : Addr} (h : Cs[i]? = some C) (h' : Cs[j]? = some C') : (C == C') = decide (i = j) := by
  obtain ⟨hi, e⟩ := List.getElem?_eq_some_iff.mp h
  obtain ⟨hj, e'⟩ := List.getElem?_eq_some_iff.mp h'
  by_cases hz : i = j
  · subst hz
    rw [h] at h'
    cases h'
    rw [decide_eq_true rfl]
    exact beq_self_eq_true _
  · rw [decide_eq_false hz, beq_eq_false_iff_ne]
    intro z
    exact hz ((List.getElem_inj nd).mp (by rw [e, e', z]))
theorem filter_one {i n : Nat} (h : i < n) : (List.range n).filter (fun j => decide (i = j)) = [i] := by
  induction n with
  | zero => exact absurd h (Nat.not_lt_zero _)
  | succ n ih =>
    rw [List.range_succ, List.filter_append]
    by_cases e : i = n
    · subst e
      have z : (List.range i).filter (fun j => decide (i = j)) = [] := List.filter_eq_nil_iff.mpr fun j hj => by
        have := List.mem_range.mp hj
        simp only [decide_eq_true_eq]
        omega
      rw [z]
      simp
    · rw [ih (by omega)]
      simp [e]
theorem int_sh (i : Int) : SeqAt.shaped (.list [.int i]) = true := rfl
theorem g_neSelf31 {K : PySem.W.Frag} {H : Hp} {x y : V} {d : PyData} {Q : VK} (h1 : Dp K H x d) (h2 : Dp K H y d) (h : SeqAt.shaped d = true) (k : Q (.bl false) H) : rNeD K x y H Q :=
  ⟨d, d, h1, h2, h, h, by rw [SeqAt.eqv_refl _ (SeqAt.canLay_of_shaped h)]; exact k⟩
/-- the classes that stand above an error class -/
def MroAt (K : PySem.W.Frag) (CR C : Addr) : Prop := ∃ cd, PySem.W.clsIn K C = some cd ∧ cd.mro = .ref C :: .ref CR :: PySem.HandSPX.veTail
theorem MroAt.in {K : PySem.W.Frag} {CR C : Addr} (M : MroAt K CR C) (b : Value) : PySem.W.subIn K (.ref C) b = some ((Value.ref C :: .ref CR :: PySem.HandSPX.veTail).contains b) := by
  obtain ⟨cd, hc, hm⟩ := M
  show PySem.W.mroIn K C b = _
  unfold PySem.W.mroIn
  rw [hc, Option.bind_some, hm]
  rfl
theorem kit31a {K : PySem.W.Frag} {CR C C' : Addr} (M : MroAt K CR C) (i' : PySem.W.isClsIn K C' = true) (t' : PySem.W.typeIn K (.ref C') = some (.type "type")) (n : C ≠ C') : PySem.W.kitOne K (.ref C) (.ref C') = some ((Value.ref C :: .ref CR :: PySem.HandSPX.veTail).contains (.ref C')) := by
  have e1 : ((PySem.W.clsIn K C').isSome && PySem.W.typeIn K (.ref C') == some (.type "type")) = true := by rw [show (PySem.W.clsIn K C').isSome = true from i', t']; rfl
  unfold PySem.W.kitOne
  rw [if_neg (fun z => n (Value.ref.inj (beq_iff_eq.mp z)))]
  show (if ((PySem.W.clsIn K C').isSome && PySem.W.typeIn K (.ref C') == some (.type "type")) = true then PySem.W.subIn K (.ref C) (.ref C') else none) = _
  rw [if_pos e1, M.in]
theorem kit31b {K : PySem.W.Frag} {CR C C' : Addr} (M : MroAt K CR C) (i' : PySem.W.isClsIn K C' = true) (t' : PySem.W.typeIn K (.ref C') = some (.type "type")) (nr : CR ≠ C') : PySem.W.kitOne K (.ref C) (.ref C') = some (C == C') := by
  by_cases e : C = C'
  · subst e
    rw [beq_self_eq_true]
    exact if_pos (beq_self_eq_true _)
  · rw [kit31a M i' t' e, beq_eq_false_iff_ne.mpr e, List.contains_cons, List.contains_cons, beq_eq_false_iff_ne.mpr (fun z => e (Value.ref.inj z).symm), beq_eq_false_iff_ne.mpr (fun z => nr (Value.ref.inj z).symm)]
    rfl
theorem kit31r {K : PySem.W.Frag} {CR C : Addr} (M : MroAt K CR C) (i' : PySem.W.isClsIn K CR = true) (t' : PySem.W.typeIn K (.ref CR) = some (.type "type")) : PySem.W.kitOne K (.ref C) (.ref CR) = some true := by
  by_cases e : C = CR
  · subst e
    exact if_pos (beq_self_eq_true _)
  · rw [kit31a M i' t' e, List.contains_cons, List.contains_cons, beq_self_eq_true, Bool.true_or, Bool.or_true]
theorem kit31v {K : PySem.W.Frag} {CR C : Addr} (M : MroAt K CR C) : PySem.W.kitOne K (.ref C) (.type "ValueError") = some true := by
  unfold PySem.W.kitOne
  rw [show (Value.ref C == Value.type "ValueError") = false from rfl, if_neg Bool.false_ne_true]
  show (if PySem.W.kitMeta "ValueError" = true then PySem.W.subIn K (.ref C) (.type "ValueError") else none) = _
  rw [if_pos (by decide +kernel), M.in]
  rfl
def spLaw (K : PySem.W.Frag) : Sp := fun vs H Q _ => ∃ (a : Addr) (ns : List Int), vs = [.ref a] ∧ SqL K H a (ns.map V.int) ∧ ns.length ≤ 63 ∧ ∀ H', Q (.bl true) H'
section
variable {P : Program} {w : World} {K : PySem.W.Frag} {mg : Str → Option Value} {base : Heap} {CR : Addr} {Cs : List Addr}
theorem fn_law (T : Bl K mg) {fa : Addr} {fd : FuncData} (F : Fun K "law" "law" s_law fa fd) (c_law_stream : Ca P w K mg base 1 "_law_stream" (spStream K)) (c_law_pick : Ca P w K mg base 2 "_law_pick" (spPick K))
    (c_law_with_text : Ca P w K mg base 3 "_law_with_text" spWith) (c_law_made : Ca P w K mg base 3 "_law_made" (spMade Cs)) (c_law_kinds : Ca P w K mg base 3 "_law_kinds" (spKinds Cs)) (gCR : mg "RoadError" = some (.ref CR))
    (XC : ∀ C ∈ Cs, Xc K C) (nd : Cs.Nodup) (h22 : Cs.length = 22) (KR : ∀ C ∈ Cs, PySem.W.kitOne K (.ref C) (.ref CR) = some true) (KV : ∀ C ∈ Cs, PySem.W.kitOne K (.ref C) (.type "ValueError") = some true) : FnOk P w K mg base (L2.CX P w) 7 fa fd ["_law_script"] (spLaw K) := by
  refine fnX F sc_law (fun vs H Q E h => ?_) (BodyN.x fun f cdv A outer s H vs Q E hr h => ?_)
  · obtain ⟨a, ns, rfl, _⟩ := h
    rfl
  · obtain ⟨a, ns, rfl, hS, hl, q⟩ := h
    refine ⟨_, (pss_cons (ps_set (i := 1) sc_law.nd rfl (Or.inl rfl) (pe_ca c_law_stream hr (by decide) (by rfl) (pa_cons (pv 0) (pa_cons pe_int pa_nil))))
  (pss_cons (ps_set (i := 2) sc_law.nd rfl (Or.inr rfl) (pe_ca c_law_pick hr (by decide) (by rfl) (pa_cons (pv 1) (pa_cons (pe_lst (pa_cons pe_str (pa_cons pe_str (pa_cons pe_int (pa_cons (pe_un un_neg pe_int) (pa_cons pe_non (pa_cons pe_bl (pa_cons (pe_tup (pa_cons pe_str (pa_cons pe_int pa_nil))) (pa_cons (pe_lst (pa_cons pe_int (pa_cons pe_str pa_nil))) (pa_cons (pe_tup pa_nil) (pa_cons (pe_disp (pps_cons pe_str pe_int pps_nil) (by rfl) (by rfl) (fun z => by cases z) (by decide)) pa_nil))))))))))) pa_nil))))
  (pss_cons (ps_if (pt_val (pe_callB (cr_any rfl) (by rfl) T.b_any (by decide +kernel) (pa_cons (pe_lc (own := [("_law_first", 3), ("_law_second", 4)]) (g := gTup K 2 (gCons (gName 3) (gCons (gName 4) gNil))) (tt := tYes) rfl sc_law.nd (pi_list (pe_ca c_law_with_text hr (by decide) (by rfl) (pa_cons (pv 2) pa_nil))) (blkOk_by (own := [("_law_first", 3), ("_law_second", 4)]) (N := N_law) (sc := defScope s_law) (by decide +kernel)) (fun _ _ _ _ _ => pg_tup rfl (pgs_cons (pg_name (i := 3) sc_law.nd rfl (Or.inl rfl)) (pgs_cons (pg_name (i := 4) sc_law.nd rfl (Or.inl rfl)) pgs_nil))) (fun _ _ _ _ _ => pts_nil) (fun _ _ _ _ _ => (pe_or (pe_cmpR (op_neSelf (K := K) rfl hr.units) (pv 3) (pv 2) (nomark _)) (pe_one (pe_cmpR (op_neSelf (K := K) rfl hr.units) (pv 4) (pv 2) (nomark _)))))) pa_nil)))
  (pss_one (ps_ret pe_bl))
  pss_nil)
  (pss_cons (ps_set (i := 5) sc_law.nd rfl (Or.inr rfl) (pe_ca c_law_made hr (by decide) (by rfl) (pa_cons (pv 2) pa_nil)))
  (pss_cons (ps_for PassesOwn.never rfl (pi_range1 rfl T.b_range (pa_cons (pe_callB cq_len (by rfl) T.b_len (by decide +kernel) (pa_cons (pv 5) pa_nil)) pa_nil)) (pg_name (i := 6) sc_law.nd rfl (Or.inr rfl))
  (pss_cons (ps_if (PW.pt (pw_or (pt_not (pt_val (pe_callB call_isX (by rfl) T.b_isinstance (by decide +kernel) (pa_cons (pe_ix (ix_listK (K := K) rfl) (pv 5) (pv 6) (fun _ _ => rfl)) (pa_cons (C8.pe_gc (v := .ref CR) (by rfl) ⟨_, gCR, rfl⟩) pa_nil))))) (pw_or1 (pt_not (pt_val (pe_callB call_isX (by rfl) T.b_isinstance (by decide +kernel) (pa_cons (pe_ix (ix_listK (K := K) rfl) (pv 5) (pv 6) (fun _ _ => rfl)) (pa_cons (pe_bltn (v := .ty "ValueError") (u := .type "ValueError") (by rfl) T.b_ValueError (by decide +kernel) rfl) pa_nil))))))))
  (pss_one (ps_ret pe_bl))
  pss_nil)
  (pss_one (ps_if (pt_cmpR (op_neD hr.units) (pe_lc (own := [("_law_j", 7)]) (g := gName 7) rfl sc_law.nd (pi_range1 rfl T.b_range (pa_cons (pe_callB cq_len (by rfl) T.b_len (by decide +kernel) (pa_cons (pv 5) pa_nil)) pa_nil)) (blkOk_by (own := [("_law_j", 7)]) (N := N_law) (sc := defScope s_law) (by decide +kernel)) (fun _ _ _ _ _ => pg_name (i := 7) sc_law.nd rfl (Or.inl rfl)) (fun _ _ _ _ _ => (pts_one (pt_val (pe_ix (ix_listK (K := K) rfl) (pe_ca c_law_kinds hr (by decide) (by rfl) (pa_cons (pe_ix (ix_listK (K := K) rfl) (pv 5) (pv 6) (fun _ _ => rfl)) pa_nil)) (pv 7) (fun _ _ => rfl))))) (fun _ _ _ _ _ => (pv 7))) (pe_lst (pa_cons (pv 6) pa_nil)) (nomark _))
  (pss_one (ps_ret pe_bl))
  pss_nil))))
  (pss_one (ps_ret (pe_cmpR op_eq (pe_callB cq_len (by rfl) T.b_len (by decide +kernel) (pa_cons (pv 5) pa_nil)) pe_int (nomark _))))))))), ?_⟩
    walk_at "go6"
    refine ⟨a, ns, 0, rfl, hS, by decide, fun H1 st hst s1 st1 => ?_⟩
    walk_at "go6"
    refine ⟨by show 2 ≤ sizeLine; decide, fun t1 ht1 => ?_⟩
    have s2 : Same H1 (upd H1 t1 (.tup [.str (Str.ofString "at"), .int 7])) := Same.upd ht1
    have e2 : upd H1 t1 (.tup [.str (Str.ofString "at"), .int 7]) t1 = some (.tup [.str (Str.ofString "at"), .int 7]) := upd_same
    generalize upd H1 t1 (.tup [.str (Str.ofString "at"), .int 7]) = H2 at s2 e2 ⊢
    walk_at "go6"
    refine ⟨by show 2 ≤ sizeLine; decide, fun t2 ht2 => ?_⟩
    have s3 : Same H2 (upd H2 t2 (.lst [.int 1, .str (Str.ofString "b")])) := Same.upd ht2
    have e3 : upd H2 t2 (.lst [.int 1, .str (Str.ofString "b")]) t2 = some (.lst [.int 1, .str (Str.ofString "b")]) := upd_same
    generalize upd H2 t2 (.lst [.int 1, .str (Str.ofString "b")]) = H3 at s3 e3 ⊢
    walk_at "go6"
    refine ⟨by show 0 ≤ sizeLine; decide, fun t3 ht3 => ?_⟩
    have s4 : Same H3 (upd H3 t3 (.tup [])) := Same.upd ht3
    have e4 : upd H3 t3 (.tup []) t3 = some (.tup []) := upd_same
    generalize upd H3 t3 (.tup []) = H4 at s4 e4 ⊢
    walk_at "go6"
    refine fun t4 ht4 => ?_
    refine ⟨upd_same, [(.inr (Str.ofString "x"), .int 1)], rfl, by show 1 ≤ 15; decide, ?_⟩
    have s5 : Same H4 (upd (upd H4 t4 (.dK [])) t4 (.dK (mergeK [] [(.inr (Str.ofString "x"), .int 1)]))) := Same.mut (Same.upd ht4) ht4
    have e5 : upd (upd H4 t4 (.dK [])) t4 (.dK (mergeK [] [(.inr (Str.ofString "x"), .int 1)])) t4 = some (.dK [(.inr (Str.ofString "x"), .int 1)]) := upd_same
    generalize upd (upd H4 t4 (.dK [])) t4 (.dK (mergeK [] [(.inr (Str.ofString "x"), .int 1)])) = H5 at s5 e5 ⊢
    walk_at "go6"
    refine ⟨by show 10 ≤ sizeLine; decide, fun p hp => ?_⟩
    have s6 : Same H5 (upd H5 p (.lst [.str (Str.ofString "a"), .str (Str.ofString ""), .int 5, .int (-1), .non, .bl true, .ref t1, .ref t2, .ref t3, .ref t4])) := Same.upd hp
    have e6 : upd H5 p (.lst [.str (Str.ofString "a"), .str (Str.ofString ""), .int 5, .int (-1), .non, .bl true, .ref t1, .ref t2, .ref t3, .ref t4]) p = some (.lst [.str (Str.ofString "a"), .str (Str.ofString ""), .int 5, .int (-1), .non, .bl true, .ref t1, .ref t2, .ref t3, .ref t4]) := upd_same
    have s15 := ((s2.trans s3).trans s4).trans s5
    have nps : p ≠ st := fun z => by
      obtain ⟨a1, b1, c1, h1, _⟩ := st1.same s15
      rw [z, h1] at hp
      cases hp
    generalize upd H5 p (.lst [.str (Str.ofString "a"), .str (Str.ofString ""), .int 5, .int (-1), .non, .bl true, .ref t1, .ref t2, .ref t3, .ref t4]) = H6 at s6 e6 ⊢
    walk_at "go6"
    refine ⟨st, p, _, 0, rfl, SqL.of e6, nps, by show 0 < 10; decide, by show 10 < 1000000; decide, st1.same (s15.trans s6), by decide, fun H7 v hv b7 _ => ?_⟩
    have s17 : ∀ b o, b ≠ st → H1 b = some o → H7 b = some o := fun b o n z => b7 b o n ((s15.trans s6) b o z)
    have sv : ∀ H', Same H7 H' → SelfAt K H' v := by
      intro H' s8
      have g1 : H' t1 = some (.tup [.str (Str.ofString "at"), .int 7]) := s8 _ _ (b7 _ _ (st1.nq s2 e2 (fun z => nomatch z)) (s6 _ _ (s5 _ _ (s4 _ _ (s3 _ _ e2)))))
      have g2 : H' t2 = some (.lst [.int 1, .str (Str.ofString "b")]) := s8 _ _ (b7 _ _ (st1.nq (s2.trans s3) e3 (fun z => by cases z)) (s6 _ _ (s5 _ _ (s4 _ _ e3))))
      have g3 : H' t3 = some (.tup []) := s8 _ _ (b7 _ _ (st1.nq ((s2.trans s3).trans s4) e4 (fun z => nomatch z)) (s6 _ _ (s5 _ _ e4)))
      have g4 : H' t4 = some (.dK [(.inr (Str.ofString "x"), .int 1)]) := s8 _ _ (b7 _ _ (st1.nq s15 e5 (fun z => nomatch z)) (s6 _ _ e5))
      simp only [List.mem_cons, List.not_mem_nil, or_false] at hv
      rcases hv with rfl | rfl | rfl | rfl | rfl | rfl | rfl | rfl | rfl | rfl
      · exact .inl ⟨_, .str _, by decide +kernel⟩
      · exact .inl ⟨_, .str _, by decide +kernel⟩
      · exact .inl ⟨_, .int _, by decide +kernel⟩
      · exact .inl ⟨_, .int _, by decide +kernel⟩
      · exact .inl ⟨_, .non, by decide +kernel⟩
      · exact .inl ⟨_, .bl _, by decide +kernel⟩
      · exact .inl ⟨_, .tup (SqT.of g1) (.cons (.str _) (.cons (.int _) .nil)), by decide +kernel⟩
      · exact .inl ⟨_, .lst (SqL.of g2) (.cons (.int _) (.cons (.str _) .nil)), by decide +kernel⟩
      · exact .inl ⟨_, .tup (SqT.of g3) .nil, by decide +kernel⟩
      · exact .inr ⟨t4, _, _, _, rfl, g4, .int 1, by decide +kernel, by decide⟩
    clear hv e2 e3 e4 e5 e6 s2 s3 s4 s5 s6 s15 s17 ht1 ht2 ht3 ht4 hp nps
    walk_at "go6"
    refine g_lcP ?_
    walk_at "go6"
    refine ⟨v, rfl, fun N o xs sN no eN IN => ?_⟩
    have hlen : xs.length = 14 := IN.length
    refine lc_rows (v := v) eN (by omega) IN (fun x y => rfl) (fun H2 R s2 r => ?_) (fun D H8 s8 e8 => ?_)
    · walk_at "go6"
      refine ⟨rfl, sv _ (sN.trans s2), ?_⟩
      walk_at "go6"
      refine ⟨rfl, sv _ (sN.trans s2), ?_⟩
      exact r
    walk_at "go6"
    refine ⟨D, _, rfl, SqL.of e8, (List.replicate xs.length false).any id, rfl, ?_⟩
    rw [show (List.replicate xs.length false).any id = false by simp]
    walk_at "go6"
    refine ⟨v, rfl, fun N2 o2 ms sN2 no2 eN2 IN2 => ?_⟩
    have hm : ms.length = 22 := IN2.length.trans h22
    clear sN no eN IN s8 e8 sv
    walk_at "go6"
    rw [hm]
    refine r_for (fun i σ' H' => ∃ w6 w7, σ' = [some (.ref a), some (.ref st), some v, none, none, some (.ref o2), w6, w7] ∧ Same N2 H') (by decide) ⟨_, _, rfl, Same.refl _⟩ (fun i σ' H0 hi p => ?_) (fun σ' H0 p => ?_)
    · obtain ⟨w6, w7, rfl, sH⟩ := p
      have hi2 : i < 22 := hi
      obtain ⟨x, C, hx, hC, y, rfl, hX⟩ := IN2.get31 (i := i) (by rw [hm]; exact hi2)
      have mC : C ∈ Cs := List.mem_of_getElem? hC
      have TX := XC C mC
      have g5 := sH _ _ eN2
      have hat : atI ms (i : Int) = some (.ref y) := atI_nat hx
      have hX0 := hX.same sH
      walk_at "go6"
      refine g_ixL (SqL.of g5) hat ?_
      walk_at "go6"
      refine g_isX hX0 TX (KR C mC) ?_
      walk_at "go6"
      refine g_ixL (SqL.of g5) hat ?_
      walk_at "go6"
      refine g_isT hX0 TX (KV C mC) ?_
      walk_at "go6"
      refine g_lcRF ?_
      walk_at "go6"
      rw [hm]
      refine r_lcRF (fun j => decide (i = j)) (by decide) (fun x => rfl) (fun j H2 R hj s2 r => ?_) (fun j H2 R r => ?_) (fun D H2 s2 e2 => ?_)
      · walk_at "go6"
        refine g_ixL (SqL.of (s2 _ _ g5)) hat ?_
        walk_at "go6"
        refine ⟨y, C, rfl, hX0.same s2, mC, fun N3 o3 s3 n3 e3 => ?_⟩
        walk_at "go6"
        obtain ⟨C', hC'⟩ : ∃ C', Cs[j]? = some C' := ⟨_, List.getElem?_eq_getElem (by rw [h22]; exact hj)⟩
        refine g_ixL (v := .bl (C == C')) (SqL.of e3) (atI_nat (by rw [List.getElem?_map, hC']; rfl)) ?_
        walk_at "go6"
        have hij : (C == C') = decide (i = j) := nd_at nd hC hC'
        rw [hij]
        exact r N3 s3
      · walk_at "go6"
        exact r
      · walk_at "go6"
        refine ⟨by show 1 ≤ sizeLine; decide, fun l1 hl1 => ?_⟩
        have e2' : H2 D = some (.lst [.int (i : Int)]) := by rw [e2, filter_one hi2]; rfl
        refine g_neSelf31 (d := .list [.int (i : Int)]) (.lst (SqL.of (Same.upd hl1 _ _ e2')) (.cons (.int _) .nil)) (.lst (SqL.of upd_same) (.cons (.int _) .nil)) (int_sh _) ?_
        walk_at "go6"
        exact ⟨_, _, rfl, (sH.trans s2).trans (Same.upd hl1)⟩
    · obtain ⟨w6, w7, rfl, sH⟩ := p
      walk_at "go6"
      refine g_lenL (SqL.of (sH _ _ eN2)) ?_
      rw [hm]
      walk_at "go6"
      exact q _
end
end Op

namespace Op
open PySem PySem.Spec PyProof.Rows L2 SX
theorem all_mk {l : PySem.W.OpenLaw} {w : World} {K : PySem.W.Frag} {h : Heap} {mg : Str → Option Value} {fa : Addr} (X : K.In h) (G : h.Ns mainGlobals mg) (hfa : mg "law" = some (.ref fa))
    {f_law_stream : Addr} {od_law_stream : Option Addr} {an_law_stream : Option Addr} {sl_law_stream : Array (Option Value)} {oc_law_stream : Value} {kV_law_stream : Value} {dc_law_stream : Value} {pm_law_stream : Value} {cd_law_stream : Value} {ct_law_stream : Value} {f_law_draw : Addr} {od_law_draw : Option Addr} {an_law_draw : Option Addr} {sl_law_draw : Array (Option Value)} {oc_law_draw : Value} {kV_law_draw : Value} {dc_law_draw : Value} {pm_law_draw : Value} {cd_law_draw : Value} {ct_law_draw : Value} {f_law_pick : Addr} {od_law_pick : Option Addr} {an_law_pick : Option Addr} {sl_law_pick : Array (Option Value)} {oc_law_pick : Value} {kV_law_pick : Value} {dc_law_pick : Value} {pm_law_pick : Value} {cd_law_pick : Value} {ct_law_pick : Value} {f_law_with_text : Addr} {od_law_with_text : Option Addr} {an_law_with_text : Option Addr} {sl_law_with_text : Array (Option Value)} {oc_law_with_text : Value} {kV_law_with_text : Value} {dc_law_with_text : Value} {pm_law_with_text : Value} {cd_law_with_text : Value} {ct_law_with_text : Value} {f_law_made : Addr} {od_law_made : Option Addr} {an_law_made : Option Addr} {sl_law_made : Array (Option Value)} {oc_law_made : Value} {kV_law_made : Value} {dc_law_made : Value} {pm_law_made : Value} {cd_law_made : Value} {ct_law_made : Value} {f_law_kinds : Addr} {od_law_kinds : Option Addr} {an_law_kinds : Option Addr} {sl_law_kinds : Array (Option Value)} {oc_law_kinds : Value} {kV_law_kinds : Value} {dc_law_kinds : Value} {pm_law_kinds : Value} {cd_law_kinds : Value} {ct_law_kinds : Value} {f_law : Addr} {od_law : Option Addr} {an_law : Option Addr} {sl_law : Array (Option Value)} {oc_law : Value} {kV_law : Value} {dc_law : Value} {pm_law : Value} {cd_law : Value} {ct_law : Value} {CR : Addr} {C_BadAtom : Addr} {f_BadAtom : Addr} {nm_BadAtom : Str} {q_BadAtom : Str} {N_BadAtom : Addr} {bs_BadAtom : List Value} {sn_BadAtom : List Str} {sub_BadAtom : List Value} {ab_BadAtom : Bool} {col_BadAtom : Option Bool} {dd_BadAtom : Option Addr} {m0_BadAtom : Option Value} {m1_BadAtom : Option Value} {m2_BadAtom : Option Value} {m3_BadAtom : Option Value} {m5_BadAtom : Option Value} {od_BadAtom : Option Addr} {an_BadAtom : Option Addr} {sl_BadAtom : Array (Option Value)} {oc_BadAtom : Value} {kV_BadAtom : Value} {dc_BadAtom : Value} {pm_BadAtom : Value} {cd_BadAtom : Value} {ct_BadAtom : Value} {C_BadForm : Addr} {f_BadForm : Addr} {nm_BadForm : Str} {q_BadForm : Str} {N_BadForm : Addr} {bs_BadForm : List Value} {sn_BadForm : List Str} {sub_BadForm : List Value} {ab_BadForm : Bool} {col_BadForm : Option Bool} {dd_BadForm : Option Addr} {m0_BadForm : Option Value} {m1_BadForm : Option Value} {m2_BadForm : Option Value} {m3_BadForm : Option Value} {m5_BadForm : Option Value} {od_BadForm : Option Addr} {an_BadForm : Option Addr} {sl_BadForm : Array (Option Value)} {oc_BadForm : Value} {kV_BadForm : Value} {dc_BadForm : Value} {pm_BadForm : Value} {cd_BadForm : Value} {ct_BadForm : Value} {C_BadKey : Addr} {f_BadKey : Addr} {nm_BadKey : Str} {q_BadKey : Str} {N_BadKey : Addr} {bs_BadKey : List Value} {sn_BadKey : List Str} {sub_BadKey : List Value} {ab_BadKey : Bool} {col_BadKey : Option Bool} {dd_BadKey : Option Addr} {m0_BadKey : Option Value} {m1_BadKey : Option Value} {m2_BadKey : Option Value} {m3_BadKey : Option Value} {m5_BadKey : Option Value} {od_BadKey : Option Addr} {an_BadKey : Option Addr} {sl_BadKey : Array (Option Value)} {oc_BadKey : Value} {kV_BadKey : Value} {dc_BadKey : Value} {pm_BadKey : Value} {cd_BadKey : Value} {ct_BadKey : Value} {C_BadText : Addr} {f_BadText : Addr} {nm_BadText : Str} {q_BadText : Str} {N_BadText : Addr} {bs_BadText : List Value} {sn_BadText : List Str} {sub_BadText : List Value} {ab_BadText : Bool} {col_BadText : Option Bool} {dd_BadText : Option Addr} {m0_BadText : Option Value} {m1_BadText : Option Value} {m2_BadText : Option Value} {m3_BadText : Option Value} {m5_BadText : Option Value} {od_BadText : Option Addr} {an_BadText : Option Addr} {sl_BadText : Array (Option Value)} {oc_BadText : Value} {kV_BadText : Value} {dc_BadText : Value} {pm_BadText : Value} {cd_BadText : Value} {ct_BadText : Value} {C_BadHeap : Addr} {f_BadHeap : Addr} {nm_BadHeap : Str} {q_BadHeap : Str} {N_BadHeap : Addr} {bs_BadHeap : List Value} {sn_BadHeap : List Str} {sub_BadHeap : List Value} {ab_BadHeap : Bool} {col_BadHeap : Option Bool} {dd_BadHeap : Option Addr} {m0_BadHeap : Option Value} {m1_BadHeap : Option Value} {m2_BadHeap : Option Value} {m3_BadHeap : Option Value} {m5_BadHeap : Option Value} {od_BadHeap : Option Addr} {an_BadHeap : Option Addr} {sl_BadHeap : Array (Option Value)} {oc_BadHeap : Value} {kV_BadHeap : Value} {dc_BadHeap : Value} {pm_BadHeap : Value} {cd_BadHeap : Value} {ct_BadHeap : Value} {C_NoWay : Addr} {f_NoWay : Addr} {nm_NoWay : Str} {q_NoWay : Str} {N_NoWay : Addr} {bs_NoWay : List Value} {sn_NoWay : List Str} {sub_NoWay : List Value} {ab_NoWay : Bool} {col_NoWay : Option Bool} {dd_NoWay : Option Addr} {m0_NoWay : Option Value} {m1_NoWay : Option Value} {m2_NoWay : Option Value} {m3_NoWay : Option Value} {m5_NoWay : Option Value} {od_NoWay : Option Addr} {an_NoWay : Option Addr} {sl_NoWay : Array (Option Value)} {oc_NoWay : Value} {kV_NoWay : Value} {dc_NoWay : Value} {pm_NoWay : Value} {cd_NoWay : Value} {ct_NoWay : Value} {C_BadRole : Addr} {f_BadRole : Addr} {nm_BadRole : Str} {q_BadRole : Str} {N_BadRole : Addr} {bs_BadRole : List Value} {sn_BadRole : List Str} {sub_BadRole : List Value} {ab_BadRole : Bool} {col_BadRole : Option Bool} {dd_BadRole : Option Addr} {m0_BadRole : Option Value} {m1_BadRole : Option Value} {m2_BadRole : Option Value} {m3_BadRole : Option Value} {m5_BadRole : Option Value} {od_BadRole : Option Addr} {an_BadRole : Option Addr} {sl_BadRole : Array (Option Value)} {oc_BadRole : Value} {kV_BadRole : Value} {dc_BadRole : Value} {pm_BadRole : Value} {cd_BadRole : Value} {ct_BadRole : Value} {C_NotFit : Addr} {f_NotFit : Addr} {nm_NotFit : Str} {q_NotFit : Str} {N_NotFit : Addr} {bs_NotFit : List Value} {sn_NotFit : List Str} {sub_NotFit : List Value} {ab_NotFit : Bool} {col_NotFit : Option Bool} {dd_NotFit : Option Addr} {m0_NotFit : Option Value} {m1_NotFit : Option Value} {m2_NotFit : Option Value} {m3_NotFit : Option Value} {m5_NotFit : Option Value} {od_NotFit : Option Addr} {an_NotFit : Option Addr} {sl_NotFit : Array (Option Value)} {oc_NotFit : Value} {kV_NotFit : Value} {dc_NotFit : Value} {pm_NotFit : Value} {cd_NotFit : Value} {ct_NotFit : Value} {C_BadBook : Addr} {f_BadBook : Addr} {nm_BadBook : Str} {q_BadBook : Str} {N_BadBook : Addr} {bs_BadBook : List Value} {sn_BadBook : List Str} {sub_BadBook : List Value} {ab_BadBook : Bool} {col_BadBook : Option Bool} {dd_BadBook : Option Addr} {m0_BadBook : Option Value} {m1_BadBook : Option Value} {m2_BadBook : Option Value} {m3_BadBook : Option Value} {m5_BadBook : Option Value} {od_BadBook : Option Addr} {an_BadBook : Option Addr} {sl_BadBook : Array (Option Value)} {oc_BadBook : Value} {kV_BadBook : Value} {dc_BadBook : Value} {pm_BadBook : Value} {cd_BadBook : Value} {ct_BadBook : Value} {C_BadSitting : Addr} {f_BadSitting : Addr} {nm_BadSitting : Str} {q_BadSitting : Str} {N_BadSitting : Addr} {bs_BadSitting : List Value} {sn_BadSitting : List Str} {sub_BadSitting : List Value} {ab_BadSitting : Bool} {col_BadSitting : Option Bool} {dd_BadSitting : Option Addr} {m0_BadSitting : Option Value} {m1_BadSitting : Option Value} {m2_BadSitting : Option Value} {m3_BadSitting : Option Value} {m5_BadSitting : Option Value} {od_BadSitting : Option Addr} {an_BadSitting : Option Addr} {sl_BadSitting : Array (Option Value)} {oc_BadSitting : Value} {kV_BadSitting : Value} {dc_BadSitting : Value} {pm_BadSitting : Value} {cd_BadSitting : Value} {ct_BadSitting : Value} {C_NoSitting : Addr} {f_NoSitting : Addr} {nm_NoSitting : Str} {q_NoSitting : Str} {N_NoSitting : Addr} {bs_NoSitting : List Value} {sn_NoSitting : List Str} {sub_NoSitting : List Value} {ab_NoSitting : Bool} {col_NoSitting : Option Bool} {dd_NoSitting : Option Addr} {m0_NoSitting : Option Value} {m1_NoSitting : Option Value} {m2_NoSitting : Option Value} {m3_NoSitting : Option Value} {m5_NoSitting : Option Value} {od_NoSitting : Option Addr} {an_NoSitting : Option Addr} {sl_NoSitting : Array (Option Value)} {oc_NoSitting : Value} {kV_NoSitting : Value} {dc_NoSitting : Value} {pm_NoSitting : Value} {cd_NoSitting : Value} {ct_NoSitting : Value} {C_NotWaiting : Addr} {f_NotWaiting : Addr} {nm_NotWaiting : Str} {q_NotWaiting : Str} {N_NotWaiting : Addr} {bs_NotWaiting : List Value} {sn_NotWaiting : List Str} {sub_NotWaiting : List Value} {ab_NotWaiting : Bool} {col_NotWaiting : Option Bool} {dd_NotWaiting : Option Addr} {m0_NotWaiting : Option Value} {m1_NotWaiting : Option Value} {m2_NotWaiting : Option Value} {m3_NotWaiting : Option Value} {m5_NotWaiting : Option Value} {od_NotWaiting : Option Addr} {an_NotWaiting : Option Addr} {sl_NotWaiting : Array (Option Value)} {oc_NotWaiting : Value} {kV_NotWaiting : Value} {dc_NotWaiting : Value} {pm_NotWaiting : Value} {cd_NotWaiting : Value} {ct_NotWaiting : Value} {C_NotDone : Addr} {f_NotDone : Addr} {nm_NotDone : Str} {q_NotDone : Str} {N_NotDone : Addr} {bs_NotDone : List Value} {sn_NotDone : List Str} {sub_NotDone : List Value} {ab_NotDone : Bool} {col_NotDone : Option Bool} {dd_NotDone : Option Addr} {m0_NotDone : Option Value} {m1_NotDone : Option Value} {m2_NotDone : Option Value} {m3_NotDone : Option Value} {m5_NotDone : Option Value} {od_NotDone : Option Addr} {an_NotDone : Option Addr} {sl_NotDone : Array (Option Value)} {oc_NotDone : Value} {kV_NotDone : Value} {dc_NotDone : Value} {pm_NotDone : Value} {cd_NotDone : Value} {ct_NotDone : Value} {C_BadWishes : Addr} {f_BadWishes : Addr} {nm_BadWishes : Str} {q_BadWishes : Str} {N_BadWishes : Addr} {bs_BadWishes : List Value} {sn_BadWishes : List Str} {sub_BadWishes : List Value} {ab_BadWishes : Bool} {col_BadWishes : Option Bool} {dd_BadWishes : Option Addr} {m0_BadWishes : Option Value} {m1_BadWishes : Option Value} {m2_BadWishes : Option Value} {m3_BadWishes : Option Value} {m5_BadWishes : Option Value} {od_BadWishes : Option Addr} {an_BadWishes : Option Addr} {sl_BadWishes : Array (Option Value)} {oc_BadWishes : Value} {kV_BadWishes : Value} {dc_BadWishes : Value} {pm_BadWishes : Value} {cd_BadWishes : Value} {ct_BadWishes : Value} {C_BadRecipe : Addr} {nm_BadRecipe : Str} {q_BadRecipe : Str} {N_BadRecipe : Addr} {bs_BadRecipe : List Value} {sn_BadRecipe : List Str} {sub_BadRecipe : List Value} {ab_BadRecipe : Bool} {col_BadRecipe : Option Bool} {dd_BadRecipe : Option Addr} {m0_BadRecipe : Option Value} {m1_BadRecipe : Option Value} {m2_BadRecipe : Option Value} {m3_BadRecipe : Option Value} {m5_BadRecipe : Option Value} {C_BadHeaps : Addr} {nm_BadHeaps : Str} {q_BadHeaps : Str} {N_BadHeaps : Addr} {bs_BadHeaps : List Value} {sn_BadHeaps : List Str} {sub_BadHeaps : List Value} {ab_BadHeaps : Bool} {col_BadHeaps : Option Bool} {dd_BadHeaps : Option Addr} {m0_BadHeaps : Option Value} {m1_BadHeaps : Option Value} {m2_BadHeaps : Option Value} {m3_BadHeaps : Option Value} {m5_BadHeaps : Option Value} {C_NotPlain : Addr} {nm_NotPlain : Str} {q_NotPlain : Str} {N_NotPlain : Addr} {bs_NotPlain : List Value} {sn_NotPlain : List Str} {sub_NotPlain : List Value} {ab_NotPlain : Bool} {col_NotPlain : Option Bool} {dd_NotPlain : Option Addr} {m0_NotPlain : Option Value} {m1_NotPlain : Option Value} {m2_NotPlain : Option Value} {m3_NotPlain : Option Value} {m5_NotPlain : Option Value} {C_NotHeld : Addr} {nm_NotHeld : Str} {q_NotHeld : Str} {N_NotHeld : Addr} {bs_NotHeld : List Value} {sn_NotHeld : List Str} {sub_NotHeld : List Value} {ab_NotHeld : Bool} {col_NotHeld : Option Bool} {dd_NotHeld : Option Addr} {m0_NotHeld : Option Value} {m1_NotHeld : Option Value} {m2_NotHeld : Option Value} {m3_NotHeld : Option Value} {m5_NotHeld : Option Value} {C_NoMatch : Addr} {nm_NoMatch : Str} {q_NoMatch : Str} {N_NoMatch : Addr} {bs_NoMatch : List Value} {sn_NoMatch : List Str} {sub_NoMatch : List Value} {ab_NoMatch : Bool} {col_NoMatch : Option Bool} {dd_NoMatch : Option Addr} {m0_NoMatch : Option Value} {m1_NoMatch : Option Value} {m2_NoMatch : Option Value} {m3_NoMatch : Option Value} {m5_NoMatch : Option Value} {C_BadFilling : Addr} {nm_BadFilling : Str} {q_BadFilling : Str} {N_BadFilling : Addr} {bs_BadFilling : List Value} {sn_BadFilling : List Str} {sub_BadFilling : List Value} {ab_BadFilling : Bool} {col_BadFilling : Option Bool} {dd_BadFilling : Option Addr} {m0_BadFilling : Option Value} {m1_BadFilling : Option Value} {m2_BadFilling : Option Value} {m3_BadFilling : Option Value} {m5_BadFilling : Option Value} {C_BadGoal : Addr} {nm_BadGoal : Str} {q_BadGoal : Str} {N_BadGoal : Addr} {bs_BadGoal : List Value} {sn_BadGoal : List Str} {sub_BadGoal : List Value} {ab_BadGoal : Bool} {col_BadGoal : Option Bool} {dd_BadGoal : Option Addr} {m0_BadGoal : Option Value} {m1_BadGoal : Option Value} {m2_BadGoal : Option Value} {m3_BadGoal : Option Value} {m5_BadGoal : Option Value} {C_BadCommand : Addr} {nm_BadCommand : Str} {q_BadCommand : Str} {N_BadCommand : Addr} {bs_BadCommand : List Value} {sn_BadCommand : List Str} {sub_BadCommand : List Value} {ab_BadCommand : Bool} {col_BadCommand : Option Bool} {dd_BadCommand : Option Addr} {m0_BadCommand : Option Value} {m1_BadCommand : Option Value} {m2_BadCommand : Option Value} {m3_BadCommand : Option Value} {m5_BadCommand : Option Value}
    (a_law_stream : PySem.W.nsIn K mainGlobals "_law_stream" = some (some (.ref f_law_stream)))
    (l_law_stream : K.lookup f_law_stream = some ⟨oc_law_stream, od_law_stream, .func (PySem.W.fnOf "_law_stream" "_law_stream" (defArgs s_law_stream) (defBody s_law_stream) (defScope s_law_stream) .none kV_law_stream dc_law_stream pm_law_stream an_law_stream cd_law_stream ct_law_stream), sl_law_stream⟩)
    (c_law_stream : PySem.W.codeIn K cd_law_stream "_law_stream" = true)
    (k_law_stream : PySem.W.keepIn K (.ref f_law_stream) = true)
    (a_law_draw : PySem.W.nsIn K mainGlobals "_law_draw" = some (some (.ref f_law_draw)))
    (l_law_draw : K.lookup f_law_draw = some ⟨oc_law_draw, od_law_draw, .func (PySem.W.fnOf "_law_draw" "_law_draw" (defArgs s_law_draw) (defBody s_law_draw) (defScope s_law_draw) .none kV_law_draw dc_law_draw pm_law_draw an_law_draw cd_law_draw ct_law_draw), sl_law_draw⟩)
    (c_law_draw : PySem.W.codeIn K cd_law_draw "_law_draw" = true)
    (k_law_draw : PySem.W.keepIn K (.ref f_law_draw) = true)
    (a_law_pick : PySem.W.nsIn K mainGlobals "_law_pick" = some (some (.ref f_law_pick)))
    (l_law_pick : K.lookup f_law_pick = some ⟨oc_law_pick, od_law_pick, .func (PySem.W.fnOf "_law_pick" "_law_pick" (defArgs s_law_pick) (defBody s_law_pick) (defScope s_law_pick) .none kV_law_pick dc_law_pick pm_law_pick an_law_pick cd_law_pick ct_law_pick), sl_law_pick⟩)
    (c_law_pick : PySem.W.codeIn K cd_law_pick "_law_pick" = true)
    (k_law_pick : PySem.W.keepIn K (.ref f_law_pick) = true)
    (a_law_with_text : PySem.W.nsIn K mainGlobals "_law_with_text" = some (some (.ref f_law_with_text)))
    (l_law_with_text : K.lookup f_law_with_text = some ⟨oc_law_with_text, od_law_with_text, .func (PySem.W.fnOf "_law_with_text" "_law_with_text" (defArgs s_law_with_text) (defBody s_law_with_text) (defScope s_law_with_text) .none kV_law_with_text dc_law_with_text pm_law_with_text an_law_with_text cd_law_with_text ct_law_with_text), sl_law_with_text⟩)
    (c_law_with_text : PySem.W.codeIn K cd_law_with_text "_law_with_text" = true)
    (k_law_with_text : PySem.W.keepIn K (.ref f_law_with_text) = true)
    (a_law_made : PySem.W.nsIn K mainGlobals "_law_made" = some (some (.ref f_law_made)))
    (l_law_made : K.lookup f_law_made = some ⟨oc_law_made, od_law_made, .func (PySem.W.fnOf "_law_made" "_law_made" (defArgs s_law_made) (defBody s_law_made) (defScope s_law_made) .none kV_law_made dc_law_made pm_law_made an_law_made cd_law_made ct_law_made), sl_law_made⟩)
    (c_law_made : PySem.W.codeIn K cd_law_made "_law_made" = true)
    (k_law_made : PySem.W.keepIn K (.ref f_law_made) = true)
    (a_law_kinds : PySem.W.nsIn K mainGlobals "_law_kinds" = some (some (.ref f_law_kinds)))
    (l_law_kinds : K.lookup f_law_kinds = some ⟨oc_law_kinds, od_law_kinds, .func (PySem.W.fnOf "_law_kinds" "_law_kinds" (defArgs s_law_kinds) (defBody s_law_kinds) (defScope s_law_kinds) .none kV_law_kinds dc_law_kinds pm_law_kinds an_law_kinds cd_law_kinds ct_law_kinds), sl_law_kinds⟩)
    (c_law_kinds : PySem.W.codeIn K cd_law_kinds "_law_kinds" = true)
    (k_law_kinds : PySem.W.keepIn K (.ref f_law_kinds) = true)
    (a_law : PySem.W.nsIn K mainGlobals "law" = some (some (.ref f_law)))
    (l_law : K.lookup f_law = some ⟨oc_law, od_law, .func (PySem.W.fnOf "law" "law" (defArgs s_law) (defBody s_law) (defScope s_law) .none kV_law dc_law pm_law an_law cd_law ct_law), sl_law⟩)
    (c_law : PySem.W.codeIn K cd_law "law" = true)
    (k_law : PySem.W.keepIn K (.ref f_law) = true)
    (aC_BadAtom : PySem.W.nsIn K mainGlobals "BadAtom" = some (some (.ref C_BadAtom)))
    (xC_BadAtom : K.lookup C_BadAtom = some (excClassObj nm_BadAtom q_BadAtom C_BadAtom N_BadAtom bs_BadAtom [.ref CR, .type "ValueError", .type "Exception", .type "BaseException", .type "object"] true sn_BadAtom sub_BadAtom ab_BadAtom col_BadAtom dd_BadAtom m0_BadAtom m1_BadAtom m2_BadAtom m3_BadAtom m5_BadAtom "ValueError.__new__"))
    (sa_BadAtom : PySem.W.findIn K (.ref C_BadAtom) "__setattr__" = some (some (.builtin "object.__setattr__")))
    (ga_BadAtom : PySem.W.findIn K (.ref C_BadAtom) "__getattribute__" = some (some (.builtin "BaseException.__getattribute__")))
    (gg_BadAtom : PySem.W.findIn K (.ref C_BadAtom) "__getattr__" = some none)
    (kC_BadAtom : PySem.W.keepIn K (.ref C_BadAtom) = true)
    (eC_BadAtom : PySem.W.subIn K (.ref C_BadAtom) (.type "BaseException") = some true)
    (tC_BadAtom : PySem.W.typeIn K (.ref C_BadAtom) = some (.type "type"))
    (hC_BadAtom : PySem.W.hasDictIn K C_BadAtom = true)
    (iC_BadAtom : PySem.W.isClsIn K C_BadAtom = true)
    (sC_BadAtom : PySem.W.subIn K (.ref C_BadAtom) (.ref C_BadAtom) = some true)
    (nb_BadAtom : PySem.W.findIn K (.ref C_BadAtom) "text" = some none)
    (aI_BadAtom : PySem.W.findIn K (.ref C_BadAtom) "__init__" = some (some (.ref f_BadAtom)))
    (tI_BadAtom : PySem.W.typeIn K (.ref f_BadAtom) = some (.type "function"))
    (l_BadAtom : K.lookup f_BadAtom = some ⟨oc_BadAtom, od_BadAtom, .func (PySem.W.fnOf "__init__" "BadAtom.__init__" (defArgs s_BadAtom___init__) (defBody s_BadAtom___init__) (defScope s_BadAtom___init__) .none kV_BadAtom dc_BadAtom pm_BadAtom an_BadAtom cd_BadAtom ct_BadAtom), sl_BadAtom⟩)
    (c_BadAtom : PySem.W.codeIn K cd_BadAtom "BadAtom.__init__" = true)
    (k_BadAtom : PySem.W.keepIn K (.ref f_BadAtom) = true)
    (aC_BadForm : PySem.W.nsIn K mainGlobals "BadForm" = some (some (.ref C_BadForm)))
    (xC_BadForm : K.lookup C_BadForm = some (excClassObj nm_BadForm q_BadForm C_BadForm N_BadForm bs_BadForm [.ref CR, .type "ValueError", .type "Exception", .type "BaseException", .type "object"] true sn_BadForm sub_BadForm ab_BadForm col_BadForm dd_BadForm m0_BadForm m1_BadForm m2_BadForm m3_BadForm m5_BadForm "ValueError.__new__"))
    (sa_BadForm : PySem.W.findIn K (.ref C_BadForm) "__setattr__" = some (some (.builtin "object.__setattr__")))
    (ga_BadForm : PySem.W.findIn K (.ref C_BadForm) "__getattribute__" = some (some (.builtin "BaseException.__getattribute__")))
    (gg_BadForm : PySem.W.findIn K (.ref C_BadForm) "__getattr__" = some none)
    (kC_BadForm : PySem.W.keepIn K (.ref C_BadForm) = true)
    (eC_BadForm : PySem.W.subIn K (.ref C_BadForm) (.type "BaseException") = some true)
    (tC_BadForm : PySem.W.typeIn K (.ref C_BadForm) = some (.type "type"))
    (hC_BadForm : PySem.W.hasDictIn K C_BadForm = true)
    (iC_BadForm : PySem.W.isClsIn K C_BadForm = true)
    (sC_BadForm : PySem.W.subIn K (.ref C_BadForm) (.ref C_BadForm) = some true)
    (nb_BadForm : PySem.W.findIn K (.ref C_BadForm) "path" = some none)
    (aI_BadForm : PySem.W.findIn K (.ref C_BadForm) "__init__" = some (some (.ref f_BadForm)))
    (tI_BadForm : PySem.W.typeIn K (.ref f_BadForm) = some (.type "function"))
    (l_BadForm : K.lookup f_BadForm = some ⟨oc_BadForm, od_BadForm, .func (PySem.W.fnOf "__init__" "BadForm.__init__" (defArgs s_BadForm___init__) (defBody s_BadForm___init__) (defScope s_BadForm___init__) .none kV_BadForm dc_BadForm pm_BadForm an_BadForm cd_BadForm ct_BadForm), sl_BadForm⟩)
    (c_BadForm : PySem.W.codeIn K cd_BadForm "BadForm.__init__" = true)
    (k_BadForm : PySem.W.keepIn K (.ref f_BadForm) = true)
    (aC_BadKey : PySem.W.nsIn K mainGlobals "BadKey" = some (some (.ref C_BadKey)))
    (xC_BadKey : K.lookup C_BadKey = some (excClassObj nm_BadKey q_BadKey C_BadKey N_BadKey bs_BadKey [.ref CR, .type "ValueError", .type "Exception", .type "BaseException", .type "object"] true sn_BadKey sub_BadKey ab_BadKey col_BadKey dd_BadKey m0_BadKey m1_BadKey m2_BadKey m3_BadKey m5_BadKey "ValueError.__new__"))
    (sa_BadKey : PySem.W.findIn K (.ref C_BadKey) "__setattr__" = some (some (.builtin "object.__setattr__")))
    (ga_BadKey : PySem.W.findIn K (.ref C_BadKey) "__getattribute__" = some (some (.builtin "BaseException.__getattribute__")))
    (gg_BadKey : PySem.W.findIn K (.ref C_BadKey) "__getattr__" = some none)
    (kC_BadKey : PySem.W.keepIn K (.ref C_BadKey) = true)
    (eC_BadKey : PySem.W.subIn K (.ref C_BadKey) (.type "BaseException") = some true)
    (tC_BadKey : PySem.W.typeIn K (.ref C_BadKey) = some (.type "type"))
    (hC_BadKey : PySem.W.hasDictIn K C_BadKey = true)
    (iC_BadKey : PySem.W.isClsIn K C_BadKey = true)
    (sC_BadKey : PySem.W.subIn K (.ref C_BadKey) (.ref C_BadKey) = some true)
    (nb_BadKey : PySem.W.findIn K (.ref C_BadKey) "key" = some none)
    (aI_BadKey : PySem.W.findIn K (.ref C_BadKey) "__init__" = some (some (.ref f_BadKey)))
    (tI_BadKey : PySem.W.typeIn K (.ref f_BadKey) = some (.type "function"))
    (l_BadKey : K.lookup f_BadKey = some ⟨oc_BadKey, od_BadKey, .func (PySem.W.fnOf "__init__" "BadKey.__init__" (defArgs s_BadKey___init__) (defBody s_BadKey___init__) (defScope s_BadKey___init__) .none kV_BadKey dc_BadKey pm_BadKey an_BadKey cd_BadKey ct_BadKey), sl_BadKey⟩)
    (c_BadKey : PySem.W.codeIn K cd_BadKey "BadKey.__init__" = true)
    (k_BadKey : PySem.W.keepIn K (.ref f_BadKey) = true)
    (aC_BadText : PySem.W.nsIn K mainGlobals "BadText" = some (some (.ref C_BadText)))
    (xC_BadText : K.lookup C_BadText = some (excClassObj nm_BadText q_BadText C_BadText N_BadText bs_BadText [.ref CR, .type "ValueError", .type "Exception", .type "BaseException", .type "object"] true sn_BadText sub_BadText ab_BadText col_BadText dd_BadText m0_BadText m1_BadText m2_BadText m3_BadText m5_BadText "ValueError.__new__"))
    (sa_BadText : PySem.W.findIn K (.ref C_BadText) "__setattr__" = some (some (.builtin "object.__setattr__")))
    (ga_BadText : PySem.W.findIn K (.ref C_BadText) "__getattribute__" = some (some (.builtin "BaseException.__getattribute__")))
    (gg_BadText : PySem.W.findIn K (.ref C_BadText) "__getattr__" = some none)
    (kC_BadText : PySem.W.keepIn K (.ref C_BadText) = true)
    (eC_BadText : PySem.W.subIn K (.ref C_BadText) (.type "BaseException") = some true)
    (tC_BadText : PySem.W.typeIn K (.ref C_BadText) = some (.type "type"))
    (hC_BadText : PySem.W.hasDictIn K C_BadText = true)
    (iC_BadText : PySem.W.isClsIn K C_BadText = true)
    (sC_BadText : PySem.W.subIn K (.ref C_BadText) (.ref C_BadText) = some true)
    (nb_BadText : PySem.W.findIn K (.ref C_BadText) "line" = some none)
    (aI_BadText : PySem.W.findIn K (.ref C_BadText) "__init__" = some (some (.ref f_BadText)))
    (tI_BadText : PySem.W.typeIn K (.ref f_BadText) = some (.type "function"))
    (l_BadText : K.lookup f_BadText = some ⟨oc_BadText, od_BadText, .func (PySem.W.fnOf "__init__" "BadText.__init__" (defArgs s_BadText___init__) (defBody s_BadText___init__) (defScope s_BadText___init__) .none kV_BadText dc_BadText pm_BadText an_BadText cd_BadText ct_BadText), sl_BadText⟩)
    (c_BadText : PySem.W.codeIn K cd_BadText "BadText.__init__" = true)
    (k_BadText : PySem.W.keepIn K (.ref f_BadText) = true)
    (aC_BadHeap : PySem.W.nsIn K mainGlobals "BadHeap" = some (some (.ref C_BadHeap)))
    (xC_BadHeap : K.lookup C_BadHeap = some (excClassObj nm_BadHeap q_BadHeap C_BadHeap N_BadHeap bs_BadHeap [.ref CR, .type "ValueError", .type "Exception", .type "BaseException", .type "object"] true sn_BadHeap sub_BadHeap ab_BadHeap col_BadHeap dd_BadHeap m0_BadHeap m1_BadHeap m2_BadHeap m3_BadHeap m5_BadHeap "ValueError.__new__"))
    (sa_BadHeap : PySem.W.findIn K (.ref C_BadHeap) "__setattr__" = some (some (.builtin "object.__setattr__")))
    (ga_BadHeap : PySem.W.findIn K (.ref C_BadHeap) "__getattribute__" = some (some (.builtin "BaseException.__getattribute__")))
    (gg_BadHeap : PySem.W.findIn K (.ref C_BadHeap) "__getattr__" = some none)
    (kC_BadHeap : PySem.W.keepIn K (.ref C_BadHeap) = true)
    (eC_BadHeap : PySem.W.subIn K (.ref C_BadHeap) (.type "BaseException") = some true)
    (tC_BadHeap : PySem.W.typeIn K (.ref C_BadHeap) = some (.type "type"))
    (hC_BadHeap : PySem.W.hasDictIn K C_BadHeap = true)
    (iC_BadHeap : PySem.W.isClsIn K C_BadHeap = true)
    (sC_BadHeap : PySem.W.subIn K (.ref C_BadHeap) (.ref C_BadHeap) = some true)
    (nb_BadHeap : PySem.W.findIn K (.ref C_BadHeap) "index" = some none)
    (aI_BadHeap : PySem.W.findIn K (.ref C_BadHeap) "__init__" = some (some (.ref f_BadHeap)))
    (tI_BadHeap : PySem.W.typeIn K (.ref f_BadHeap) = some (.type "function"))
    (l_BadHeap : K.lookup f_BadHeap = some ⟨oc_BadHeap, od_BadHeap, .func (PySem.W.fnOf "__init__" "BadHeap.__init__" (defArgs s_BadHeap___init__) (defBody s_BadHeap___init__) (defScope s_BadHeap___init__) .none kV_BadHeap dc_BadHeap pm_BadHeap an_BadHeap cd_BadHeap ct_BadHeap), sl_BadHeap⟩)
    (c_BadHeap : PySem.W.codeIn K cd_BadHeap "BadHeap.__init__" = true)
    (k_BadHeap : PySem.W.keepIn K (.ref f_BadHeap) = true)
    (aC_NoWay : PySem.W.nsIn K mainGlobals "NoWay" = some (some (.ref C_NoWay)))
    (xC_NoWay : K.lookup C_NoWay = some (excClassObj nm_NoWay q_NoWay C_NoWay N_NoWay bs_NoWay [.ref CR, .type "ValueError", .type "Exception", .type "BaseException", .type "object"] true sn_NoWay sub_NoWay ab_NoWay col_NoWay dd_NoWay m0_NoWay m1_NoWay m2_NoWay m3_NoWay m5_NoWay "ValueError.__new__"))
    (sa_NoWay : PySem.W.findIn K (.ref C_NoWay) "__setattr__" = some (some (.builtin "object.__setattr__")))
    (ga_NoWay : PySem.W.findIn K (.ref C_NoWay) "__getattribute__" = some (some (.builtin "BaseException.__getattribute__")))
    (gg_NoWay : PySem.W.findIn K (.ref C_NoWay) "__getattr__" = some none)
    (kC_NoWay : PySem.W.keepIn K (.ref C_NoWay) = true)
    (eC_NoWay : PySem.W.subIn K (.ref C_NoWay) (.type "BaseException") = some true)
    (tC_NoWay : PySem.W.typeIn K (.ref C_NoWay) = some (.type "type"))
    (hC_NoWay : PySem.W.hasDictIn K C_NoWay = true)
    (iC_NoWay : PySem.W.isClsIn K C_NoWay = true)
    (sC_NoWay : PySem.W.subIn K (.ref C_NoWay) (.ref C_NoWay) = some true)
    (nb_NoWay : PySem.W.findIn K (.ref C_NoWay) "step" = some none)
    (aI_NoWay : PySem.W.findIn K (.ref C_NoWay) "__init__" = some (some (.ref f_NoWay)))
    (tI_NoWay : PySem.W.typeIn K (.ref f_NoWay) = some (.type "function"))
    (l_NoWay : K.lookup f_NoWay = some ⟨oc_NoWay, od_NoWay, .func (PySem.W.fnOf "__init__" "NoWay.__init__" (defArgs s_NoWay___init__) (defBody s_NoWay___init__) (defScope s_NoWay___init__) .none kV_NoWay dc_NoWay pm_NoWay an_NoWay cd_NoWay ct_NoWay), sl_NoWay⟩)
    (c_NoWay : PySem.W.codeIn K cd_NoWay "NoWay.__init__" = true)
    (k_NoWay : PySem.W.keepIn K (.ref f_NoWay) = true)
    (aC_BadRole : PySem.W.nsIn K mainGlobals "BadRole" = some (some (.ref C_BadRole)))
    (xC_BadRole : K.lookup C_BadRole = some (excClassObj nm_BadRole q_BadRole C_BadRole N_BadRole bs_BadRole [.ref CR, .type "ValueError", .type "Exception", .type "BaseException", .type "object"] true sn_BadRole sub_BadRole ab_BadRole col_BadRole dd_BadRole m0_BadRole m1_BadRole m2_BadRole m3_BadRole m5_BadRole "ValueError.__new__"))
    (sa_BadRole : PySem.W.findIn K (.ref C_BadRole) "__setattr__" = some (some (.builtin "object.__setattr__")))
    (ga_BadRole : PySem.W.findIn K (.ref C_BadRole) "__getattribute__" = some (some (.builtin "BaseException.__getattribute__")))
    (gg_BadRole : PySem.W.findIn K (.ref C_BadRole) "__getattr__" = some none)
    (kC_BadRole : PySem.W.keepIn K (.ref C_BadRole) = true)
    (eC_BadRole : PySem.W.subIn K (.ref C_BadRole) (.type "BaseException") = some true)
    (tC_BadRole : PySem.W.typeIn K (.ref C_BadRole) = some (.type "type"))
    (hC_BadRole : PySem.W.hasDictIn K C_BadRole = true)
    (iC_BadRole : PySem.W.isClsIn K C_BadRole = true)
    (sC_BadRole : PySem.W.subIn K (.ref C_BadRole) (.ref C_BadRole) = some true)
    (nb_BadRole : PySem.W.findIn K (.ref C_BadRole) "field" = some none)
    (aI_BadRole : PySem.W.findIn K (.ref C_BadRole) "__init__" = some (some (.ref f_BadRole)))
    (tI_BadRole : PySem.W.typeIn K (.ref f_BadRole) = some (.type "function"))
    (l_BadRole : K.lookup f_BadRole = some ⟨oc_BadRole, od_BadRole, .func (PySem.W.fnOf "__init__" "BadRole.__init__" (defArgs s_BadRole___init__) (defBody s_BadRole___init__) (defScope s_BadRole___init__) .none kV_BadRole dc_BadRole pm_BadRole an_BadRole cd_BadRole ct_BadRole), sl_BadRole⟩)
    (c_BadRole : PySem.W.codeIn K cd_BadRole "BadRole.__init__" = true)
    (k_BadRole : PySem.W.keepIn K (.ref f_BadRole) = true)
    (aC_NotFit : PySem.W.nsIn K mainGlobals "NotFit" = some (some (.ref C_NotFit)))
    (xC_NotFit : K.lookup C_NotFit = some (excClassObj nm_NotFit q_NotFit C_NotFit N_NotFit bs_NotFit [.ref CR, .type "ValueError", .type "Exception", .type "BaseException", .type "object"] true sn_NotFit sub_NotFit ab_NotFit col_NotFit dd_NotFit m0_NotFit m1_NotFit m2_NotFit m3_NotFit m5_NotFit "ValueError.__new__"))
    (sa_NotFit : PySem.W.findIn K (.ref C_NotFit) "__setattr__" = some (some (.builtin "object.__setattr__")))
    (ga_NotFit : PySem.W.findIn K (.ref C_NotFit) "__getattribute__" = some (some (.builtin "BaseException.__getattribute__")))
    (gg_NotFit : PySem.W.findIn K (.ref C_NotFit) "__getattr__" = some none)
    (kC_NotFit : PySem.W.keepIn K (.ref C_NotFit) = true)
    (eC_NotFit : PySem.W.subIn K (.ref C_NotFit) (.type "BaseException") = some true)
    (tC_NotFit : PySem.W.typeIn K (.ref C_NotFit) = some (.type "type"))
    (hC_NotFit : PySem.W.hasDictIn K C_NotFit = true)
    (iC_NotFit : PySem.W.isClsIn K C_NotFit = true)
    (sC_NotFit : PySem.W.subIn K (.ref C_NotFit) (.ref C_NotFit) = some true)
    (nb_NotFit : PySem.W.findIn K (.ref C_NotFit) "index" = some none)
    (aI_NotFit : PySem.W.findIn K (.ref C_NotFit) "__init__" = some (some (.ref f_NotFit)))
    (tI_NotFit : PySem.W.typeIn K (.ref f_NotFit) = some (.type "function"))
    (l_NotFit : K.lookup f_NotFit = some ⟨oc_NotFit, od_NotFit, .func (PySem.W.fnOf "__init__" "NotFit.__init__" (defArgs s_NotFit___init__) (defBody s_NotFit___init__) (defScope s_NotFit___init__) .none kV_NotFit dc_NotFit pm_NotFit an_NotFit cd_NotFit ct_NotFit), sl_NotFit⟩)
    (c_NotFit : PySem.W.codeIn K cd_NotFit "NotFit.__init__" = true)
    (k_NotFit : PySem.W.keepIn K (.ref f_NotFit) = true)
    (aC_BadBook : PySem.W.nsIn K mainGlobals "BadBook" = some (some (.ref C_BadBook)))
    (xC_BadBook : K.lookup C_BadBook = some (excClassObj nm_BadBook q_BadBook C_BadBook N_BadBook bs_BadBook [.ref CR, .type "ValueError", .type "Exception", .type "BaseException", .type "object"] true sn_BadBook sub_BadBook ab_BadBook col_BadBook dd_BadBook m0_BadBook m1_BadBook m2_BadBook m3_BadBook m5_BadBook "ValueError.__new__"))
    (sa_BadBook : PySem.W.findIn K (.ref C_BadBook) "__setattr__" = some (some (.builtin "object.__setattr__")))
    (ga_BadBook : PySem.W.findIn K (.ref C_BadBook) "__getattribute__" = some (some (.builtin "BaseException.__getattribute__")))
    (gg_BadBook : PySem.W.findIn K (.ref C_BadBook) "__getattr__" = some none)
    (kC_BadBook : PySem.W.keepIn K (.ref C_BadBook) = true)
    (eC_BadBook : PySem.W.subIn K (.ref C_BadBook) (.type "BaseException") = some true)
    (tC_BadBook : PySem.W.typeIn K (.ref C_BadBook) = some (.type "type"))
    (hC_BadBook : PySem.W.hasDictIn K C_BadBook = true)
    (iC_BadBook : PySem.W.isClsIn K C_BadBook = true)
    (sC_BadBook : PySem.W.subIn K (.ref C_BadBook) (.ref C_BadBook) = some true)
    (nb_BadBook : PySem.W.findIn K (.ref C_BadBook) "field" = some none)
    (aI_BadBook : PySem.W.findIn K (.ref C_BadBook) "__init__" = some (some (.ref f_BadBook)))
    (tI_BadBook : PySem.W.typeIn K (.ref f_BadBook) = some (.type "function"))
    (l_BadBook : K.lookup f_BadBook = some ⟨oc_BadBook, od_BadBook, .func (PySem.W.fnOf "__init__" "BadBook.__init__" (defArgs s_BadBook___init__) (defBody s_BadBook___init__) (defScope s_BadBook___init__) .none kV_BadBook dc_BadBook pm_BadBook an_BadBook cd_BadBook ct_BadBook), sl_BadBook⟩)
    (c_BadBook : PySem.W.codeIn K cd_BadBook "BadBook.__init__" = true)
    (k_BadBook : PySem.W.keepIn K (.ref f_BadBook) = true)
    (aC_BadSitting : PySem.W.nsIn K mainGlobals "BadSitting" = some (some (.ref C_BadSitting)))
    (xC_BadSitting : K.lookup C_BadSitting = some (excClassObj nm_BadSitting q_BadSitting C_BadSitting N_BadSitting bs_BadSitting [.ref CR, .type "ValueError", .type "Exception", .type "BaseException", .type "object"] true sn_BadSitting sub_BadSitting ab_BadSitting col_BadSitting dd_BadSitting m0_BadSitting m1_BadSitting m2_BadSitting m3_BadSitting m5_BadSitting "ValueError.__new__"))
    (sa_BadSitting : PySem.W.findIn K (.ref C_BadSitting) "__setattr__" = some (some (.builtin "object.__setattr__")))
    (ga_BadSitting : PySem.W.findIn K (.ref C_BadSitting) "__getattribute__" = some (some (.builtin "BaseException.__getattribute__")))
    (gg_BadSitting : PySem.W.findIn K (.ref C_BadSitting) "__getattr__" = some none)
    (kC_BadSitting : PySem.W.keepIn K (.ref C_BadSitting) = true)
    (eC_BadSitting : PySem.W.subIn K (.ref C_BadSitting) (.type "BaseException") = some true)
    (tC_BadSitting : PySem.W.typeIn K (.ref C_BadSitting) = some (.type "type"))
    (hC_BadSitting : PySem.W.hasDictIn K C_BadSitting = true)
    (iC_BadSitting : PySem.W.isClsIn K C_BadSitting = true)
    (sC_BadSitting : PySem.W.subIn K (.ref C_BadSitting) (.ref C_BadSitting) = some true)
    (nb_BadSitting : PySem.W.findIn K (.ref C_BadSitting) "index" = some none)
    (aI_BadSitting : PySem.W.findIn K (.ref C_BadSitting) "__init__" = some (some (.ref f_BadSitting)))
    (tI_BadSitting : PySem.W.typeIn K (.ref f_BadSitting) = some (.type "function"))
    (l_BadSitting : K.lookup f_BadSitting = some ⟨oc_BadSitting, od_BadSitting, .func (PySem.W.fnOf "__init__" "BadSitting.__init__" (defArgs s_BadSitting___init__) (defBody s_BadSitting___init__) (defScope s_BadSitting___init__) .none kV_BadSitting dc_BadSitting pm_BadSitting an_BadSitting cd_BadSitting ct_BadSitting), sl_BadSitting⟩)
    (c_BadSitting : PySem.W.codeIn K cd_BadSitting "BadSitting.__init__" = true)
    (k_BadSitting : PySem.W.keepIn K (.ref f_BadSitting) = true)
    (aC_NoSitting : PySem.W.nsIn K mainGlobals "NoSitting" = some (some (.ref C_NoSitting)))
    (xC_NoSitting : K.lookup C_NoSitting = some (excClassObj nm_NoSitting q_NoSitting C_NoSitting N_NoSitting bs_NoSitting [.ref CR, .type "ValueError", .type "Exception", .type "BaseException", .type "object"] true sn_NoSitting sub_NoSitting ab_NoSitting col_NoSitting dd_NoSitting m0_NoSitting m1_NoSitting m2_NoSitting m3_NoSitting m5_NoSitting "ValueError.__new__"))
    (sa_NoSitting : PySem.W.findIn K (.ref C_NoSitting) "__setattr__" = some (some (.builtin "object.__setattr__")))
    (ga_NoSitting : PySem.W.findIn K (.ref C_NoSitting) "__getattribute__" = some (some (.builtin "BaseException.__getattribute__")))
    (gg_NoSitting : PySem.W.findIn K (.ref C_NoSitting) "__getattr__" = some none)
    (kC_NoSitting : PySem.W.keepIn K (.ref C_NoSitting) = true)
    (eC_NoSitting : PySem.W.subIn K (.ref C_NoSitting) (.type "BaseException") = some true)
    (tC_NoSitting : PySem.W.typeIn K (.ref C_NoSitting) = some (.type "type"))
    (hC_NoSitting : PySem.W.hasDictIn K C_NoSitting = true)
    (iC_NoSitting : PySem.W.isClsIn K C_NoSitting = true)
    (sC_NoSitting : PySem.W.subIn K (.ref C_NoSitting) (.ref C_NoSitting) = some true)
    (nb_NoSitting : PySem.W.findIn K (.ref C_NoSitting) "number" = some none)
    (aI_NoSitting : PySem.W.findIn K (.ref C_NoSitting) "__init__" = some (some (.ref f_NoSitting)))
    (tI_NoSitting : PySem.W.typeIn K (.ref f_NoSitting) = some (.type "function"))
    (l_NoSitting : K.lookup f_NoSitting = some ⟨oc_NoSitting, od_NoSitting, .func (PySem.W.fnOf "__init__" "NoSitting.__init__" (defArgs s_NoSitting___init__) (defBody s_NoSitting___init__) (defScope s_NoSitting___init__) .none kV_NoSitting dc_NoSitting pm_NoSitting an_NoSitting cd_NoSitting ct_NoSitting), sl_NoSitting⟩)
    (c_NoSitting : PySem.W.codeIn K cd_NoSitting "NoSitting.__init__" = true)
    (k_NoSitting : PySem.W.keepIn K (.ref f_NoSitting) = true)
    (aC_NotWaiting : PySem.W.nsIn K mainGlobals "NotWaiting" = some (some (.ref C_NotWaiting)))
    (xC_NotWaiting : K.lookup C_NotWaiting = some (excClassObj nm_NotWaiting q_NotWaiting C_NotWaiting N_NotWaiting bs_NotWaiting [.ref CR, .type "ValueError", .type "Exception", .type "BaseException", .type "object"] true sn_NotWaiting sub_NotWaiting ab_NotWaiting col_NotWaiting dd_NotWaiting m0_NotWaiting m1_NotWaiting m2_NotWaiting m3_NotWaiting m5_NotWaiting "ValueError.__new__"))
    (sa_NotWaiting : PySem.W.findIn K (.ref C_NotWaiting) "__setattr__" = some (some (.builtin "object.__setattr__")))
    (ga_NotWaiting : PySem.W.findIn K (.ref C_NotWaiting) "__getattribute__" = some (some (.builtin "BaseException.__getattribute__")))
    (gg_NotWaiting : PySem.W.findIn K (.ref C_NotWaiting) "__getattr__" = some none)
    (kC_NotWaiting : PySem.W.keepIn K (.ref C_NotWaiting) = true)
    (eC_NotWaiting : PySem.W.subIn K (.ref C_NotWaiting) (.type "BaseException") = some true)
    (tC_NotWaiting : PySem.W.typeIn K (.ref C_NotWaiting) = some (.type "type"))
    (hC_NotWaiting : PySem.W.hasDictIn K C_NotWaiting = true)
    (iC_NotWaiting : PySem.W.isClsIn K C_NotWaiting = true)
    (sC_NotWaiting : PySem.W.subIn K (.ref C_NotWaiting) (.ref C_NotWaiting) = some true)
    (nb_NotWaiting : PySem.W.findIn K (.ref C_NotWaiting) "number" = some none)
    (aI_NotWaiting : PySem.W.findIn K (.ref C_NotWaiting) "__init__" = some (some (.ref f_NotWaiting)))
    (tI_NotWaiting : PySem.W.typeIn K (.ref f_NotWaiting) = some (.type "function"))
    (l_NotWaiting : K.lookup f_NotWaiting = some ⟨oc_NotWaiting, od_NotWaiting, .func (PySem.W.fnOf "__init__" "NotWaiting.__init__" (defArgs s_NotWaiting___init__) (defBody s_NotWaiting___init__) (defScope s_NotWaiting___init__) .none kV_NotWaiting dc_NotWaiting pm_NotWaiting an_NotWaiting cd_NotWaiting ct_NotWaiting), sl_NotWaiting⟩)
    (c_NotWaiting : PySem.W.codeIn K cd_NotWaiting "NotWaiting.__init__" = true)
    (k_NotWaiting : PySem.W.keepIn K (.ref f_NotWaiting) = true)
    (aC_NotDone : PySem.W.nsIn K mainGlobals "NotDone" = some (some (.ref C_NotDone)))
    (xC_NotDone : K.lookup C_NotDone = some (excClassObj nm_NotDone q_NotDone C_NotDone N_NotDone bs_NotDone [.ref CR, .type "ValueError", .type "Exception", .type "BaseException", .type "object"] true sn_NotDone sub_NotDone ab_NotDone col_NotDone dd_NotDone m0_NotDone m1_NotDone m2_NotDone m3_NotDone m5_NotDone "ValueError.__new__"))
    (sa_NotDone : PySem.W.findIn K (.ref C_NotDone) "__setattr__" = some (some (.builtin "object.__setattr__")))
    (ga_NotDone : PySem.W.findIn K (.ref C_NotDone) "__getattribute__" = some (some (.builtin "BaseException.__getattribute__")))
    (gg_NotDone : PySem.W.findIn K (.ref C_NotDone) "__getattr__" = some none)
    (kC_NotDone : PySem.W.keepIn K (.ref C_NotDone) = true)
    (eC_NotDone : PySem.W.subIn K (.ref C_NotDone) (.type "BaseException") = some true)
    (tC_NotDone : PySem.W.typeIn K (.ref C_NotDone) = some (.type "type"))
    (hC_NotDone : PySem.W.hasDictIn K C_NotDone = true)
    (iC_NotDone : PySem.W.isClsIn K C_NotDone = true)
    (sC_NotDone : PySem.W.subIn K (.ref C_NotDone) (.ref C_NotDone) = some true)
    (nb_NotDone : PySem.W.findIn K (.ref C_NotDone) "place" = some none)
    (aI_NotDone : PySem.W.findIn K (.ref C_NotDone) "__init__" = some (some (.ref f_NotDone)))
    (tI_NotDone : PySem.W.typeIn K (.ref f_NotDone) = some (.type "function"))
    (l_NotDone : K.lookup f_NotDone = some ⟨oc_NotDone, od_NotDone, .func (PySem.W.fnOf "__init__" "NotDone.__init__" (defArgs s_NotDone___init__) (defBody s_NotDone___init__) (defScope s_NotDone___init__) .none kV_NotDone dc_NotDone pm_NotDone an_NotDone cd_NotDone ct_NotDone), sl_NotDone⟩)
    (c_NotDone : PySem.W.codeIn K cd_NotDone "NotDone.__init__" = true)
    (k_NotDone : PySem.W.keepIn K (.ref f_NotDone) = true)
    (aC_BadWishes : PySem.W.nsIn K mainGlobals "BadWishes" = some (some (.ref C_BadWishes)))
    (xC_BadWishes : K.lookup C_BadWishes = some (excClassObj nm_BadWishes q_BadWishes C_BadWishes N_BadWishes bs_BadWishes [.ref CR, .type "ValueError", .type "Exception", .type "BaseException", .type "object"] true sn_BadWishes sub_BadWishes ab_BadWishes col_BadWishes dd_BadWishes m0_BadWishes m1_BadWishes m2_BadWishes m3_BadWishes m5_BadWishes "ValueError.__new__"))
    (sa_BadWishes : PySem.W.findIn K (.ref C_BadWishes) "__setattr__" = some (some (.builtin "object.__setattr__")))
    (ga_BadWishes : PySem.W.findIn K (.ref C_BadWishes) "__getattribute__" = some (some (.builtin "BaseException.__getattribute__")))
    (gg_BadWishes : PySem.W.findIn K (.ref C_BadWishes) "__getattr__" = some none)
    (kC_BadWishes : PySem.W.keepIn K (.ref C_BadWishes) = true)
    (eC_BadWishes : PySem.W.subIn K (.ref C_BadWishes) (.type "BaseException") = some true)
    (tC_BadWishes : PySem.W.typeIn K (.ref C_BadWishes) = some (.type "type"))
    (hC_BadWishes : PySem.W.hasDictIn K C_BadWishes = true)
    (iC_BadWishes : PySem.W.isClsIn K C_BadWishes = true)
    (sC_BadWishes : PySem.W.subIn K (.ref C_BadWishes) (.ref C_BadWishes) = some true)
    (nb_BadWishes : PySem.W.findIn K (.ref C_BadWishes) "index" = some none)
    (aI_BadWishes : PySem.W.findIn K (.ref C_BadWishes) "__init__" = some (some (.ref f_BadWishes)))
    (tI_BadWishes : PySem.W.typeIn K (.ref f_BadWishes) = some (.type "function"))
    (l_BadWishes : K.lookup f_BadWishes = some ⟨oc_BadWishes, od_BadWishes, .func (PySem.W.fnOf "__init__" "BadWishes.__init__" (defArgs s_BadWishes___init__) (defBody s_BadWishes___init__) (defScope s_BadWishes___init__) .none kV_BadWishes dc_BadWishes pm_BadWishes an_BadWishes cd_BadWishes ct_BadWishes), sl_BadWishes⟩)
    (c_BadWishes : PySem.W.codeIn K cd_BadWishes "BadWishes.__init__" = true)
    (k_BadWishes : PySem.W.keepIn K (.ref f_BadWishes) = true)
    (aC_BadRecipe : PySem.W.nsIn K mainGlobals "BadRecipe" = some (some (.ref C_BadRecipe)))
    (xC_BadRecipe : K.lookup C_BadRecipe = some (excClassObj nm_BadRecipe q_BadRecipe C_BadRecipe N_BadRecipe bs_BadRecipe [.ref CR, .type "ValueError", .type "Exception", .type "BaseException", .type "object"] true sn_BadRecipe sub_BadRecipe ab_BadRecipe col_BadRecipe dd_BadRecipe m0_BadRecipe m1_BadRecipe m2_BadRecipe m3_BadRecipe m5_BadRecipe "ValueError.__new__"))
    (ex_BadRecipe : PySem.W.excIn K C_BadRecipe PySem.HandSPX.veTail "ValueError.__new__" = true)
    (ga_BadRecipe : PySem.W.findIn K (.ref C_BadRecipe) "__getattribute__" = some (some (.builtin "BaseException.__getattribute__")))
    (gg_BadRecipe : PySem.W.findIn K (.ref C_BadRecipe) "__getattr__" = some none)
    (kC_BadRecipe : PySem.W.keepIn K (.ref C_BadRecipe) = true)
    (eC_BadRecipe : PySem.W.subIn K (.ref C_BadRecipe) (.type "BaseException") = some true)
    (tC_BadRecipe : PySem.W.typeIn K (.ref C_BadRecipe) = some (.type "type"))
    (iC_BadRecipe : PySem.W.isClsIn K C_BadRecipe = true)
    (aC_BadHeaps : PySem.W.nsIn K mainGlobals "BadHeaps" = some (some (.ref C_BadHeaps)))
    (xC_BadHeaps : K.lookup C_BadHeaps = some (excClassObj nm_BadHeaps q_BadHeaps C_BadHeaps N_BadHeaps bs_BadHeaps [.ref CR, .type "ValueError", .type "Exception", .type "BaseException", .type "object"] true sn_BadHeaps sub_BadHeaps ab_BadHeaps col_BadHeaps dd_BadHeaps m0_BadHeaps m1_BadHeaps m2_BadHeaps m3_BadHeaps m5_BadHeaps "ValueError.__new__"))
    (ex_BadHeaps : PySem.W.excIn K C_BadHeaps PySem.HandSPX.veTail "ValueError.__new__" = true)
    (ga_BadHeaps : PySem.W.findIn K (.ref C_BadHeaps) "__getattribute__" = some (some (.builtin "BaseException.__getattribute__")))
    (gg_BadHeaps : PySem.W.findIn K (.ref C_BadHeaps) "__getattr__" = some none)
    (kC_BadHeaps : PySem.W.keepIn K (.ref C_BadHeaps) = true)
    (eC_BadHeaps : PySem.W.subIn K (.ref C_BadHeaps) (.type "BaseException") = some true)
    (tC_BadHeaps : PySem.W.typeIn K (.ref C_BadHeaps) = some (.type "type"))
    (iC_BadHeaps : PySem.W.isClsIn K C_BadHeaps = true)
    (aC_NotPlain : PySem.W.nsIn K mainGlobals "NotPlain" = some (some (.ref C_NotPlain)))
    (xC_NotPlain : K.lookup C_NotPlain = some (excClassObj nm_NotPlain q_NotPlain C_NotPlain N_NotPlain bs_NotPlain [.ref CR, .type "ValueError", .type "Exception", .type "BaseException", .type "object"] true sn_NotPlain sub_NotPlain ab_NotPlain col_NotPlain dd_NotPlain m0_NotPlain m1_NotPlain m2_NotPlain m3_NotPlain m5_NotPlain "ValueError.__new__"))
    (ex_NotPlain : PySem.W.excIn K C_NotPlain PySem.HandSPX.veTail "ValueError.__new__" = true)
    (ga_NotPlain : PySem.W.findIn K (.ref C_NotPlain) "__getattribute__" = some (some (.builtin "BaseException.__getattribute__")))
    (gg_NotPlain : PySem.W.findIn K (.ref C_NotPlain) "__getattr__" = some none)
    (kC_NotPlain : PySem.W.keepIn K (.ref C_NotPlain) = true)
    (eC_NotPlain : PySem.W.subIn K (.ref C_NotPlain) (.type "BaseException") = some true)
    (tC_NotPlain : PySem.W.typeIn K (.ref C_NotPlain) = some (.type "type"))
    (iC_NotPlain : PySem.W.isClsIn K C_NotPlain = true)
    (aC_NotHeld : PySem.W.nsIn K mainGlobals "NotHeld" = some (some (.ref C_NotHeld)))
    (xC_NotHeld : K.lookup C_NotHeld = some (excClassObj nm_NotHeld q_NotHeld C_NotHeld N_NotHeld bs_NotHeld [.ref CR, .type "ValueError", .type "Exception", .type "BaseException", .type "object"] true sn_NotHeld sub_NotHeld ab_NotHeld col_NotHeld dd_NotHeld m0_NotHeld m1_NotHeld m2_NotHeld m3_NotHeld m5_NotHeld "ValueError.__new__"))
    (ex_NotHeld : PySem.W.excIn K C_NotHeld PySem.HandSPX.veTail "ValueError.__new__" = true)
    (ga_NotHeld : PySem.W.findIn K (.ref C_NotHeld) "__getattribute__" = some (some (.builtin "BaseException.__getattribute__")))
    (gg_NotHeld : PySem.W.findIn K (.ref C_NotHeld) "__getattr__" = some none)
    (kC_NotHeld : PySem.W.keepIn K (.ref C_NotHeld) = true)
    (eC_NotHeld : PySem.W.subIn K (.ref C_NotHeld) (.type "BaseException") = some true)
    (tC_NotHeld : PySem.W.typeIn K (.ref C_NotHeld) = some (.type "type"))
    (iC_NotHeld : PySem.W.isClsIn K C_NotHeld = true)
    (aC_NoMatch : PySem.W.nsIn K mainGlobals "NoMatch" = some (some (.ref C_NoMatch)))
    (xC_NoMatch : K.lookup C_NoMatch = some (excClassObj nm_NoMatch q_NoMatch C_NoMatch N_NoMatch bs_NoMatch [.ref CR, .type "ValueError", .type "Exception", .type "BaseException", .type "object"] true sn_NoMatch sub_NoMatch ab_NoMatch col_NoMatch dd_NoMatch m0_NoMatch m1_NoMatch m2_NoMatch m3_NoMatch m5_NoMatch "ValueError.__new__"))
    (ex_NoMatch : PySem.W.excIn K C_NoMatch PySem.HandSPX.veTail "ValueError.__new__" = true)
    (ga_NoMatch : PySem.W.findIn K (.ref C_NoMatch) "__getattribute__" = some (some (.builtin "BaseException.__getattribute__")))
    (gg_NoMatch : PySem.W.findIn K (.ref C_NoMatch) "__getattr__" = some none)
    (kC_NoMatch : PySem.W.keepIn K (.ref C_NoMatch) = true)
    (eC_NoMatch : PySem.W.subIn K (.ref C_NoMatch) (.type "BaseException") = some true)
    (tC_NoMatch : PySem.W.typeIn K (.ref C_NoMatch) = some (.type "type"))
    (iC_NoMatch : PySem.W.isClsIn K C_NoMatch = true)
    (aC_BadFilling : PySem.W.nsIn K mainGlobals "BadFilling" = some (some (.ref C_BadFilling)))
    (xC_BadFilling : K.lookup C_BadFilling = some (excClassObj nm_BadFilling q_BadFilling C_BadFilling N_BadFilling bs_BadFilling [.ref CR, .type "ValueError", .type "Exception", .type "BaseException", .type "object"] true sn_BadFilling sub_BadFilling ab_BadFilling col_BadFilling dd_BadFilling m0_BadFilling m1_BadFilling m2_BadFilling m3_BadFilling m5_BadFilling "ValueError.__new__"))
    (ex_BadFilling : PySem.W.excIn K C_BadFilling PySem.HandSPX.veTail "ValueError.__new__" = true)
    (ga_BadFilling : PySem.W.findIn K (.ref C_BadFilling) "__getattribute__" = some (some (.builtin "BaseException.__getattribute__")))
    (gg_BadFilling : PySem.W.findIn K (.ref C_BadFilling) "__getattr__" = some none)
    (kC_BadFilling : PySem.W.keepIn K (.ref C_BadFilling) = true)
    (eC_BadFilling : PySem.W.subIn K (.ref C_BadFilling) (.type "BaseException") = some true)
    (tC_BadFilling : PySem.W.typeIn K (.ref C_BadFilling) = some (.type "type"))
    (iC_BadFilling : PySem.W.isClsIn K C_BadFilling = true)
    (aC_BadGoal : PySem.W.nsIn K mainGlobals "BadGoal" = some (some (.ref C_BadGoal)))
    (xC_BadGoal : K.lookup C_BadGoal = some (excClassObj nm_BadGoal q_BadGoal C_BadGoal N_BadGoal bs_BadGoal [.ref CR, .type "ValueError", .type "Exception", .type "BaseException", .type "object"] true sn_BadGoal sub_BadGoal ab_BadGoal col_BadGoal dd_BadGoal m0_BadGoal m1_BadGoal m2_BadGoal m3_BadGoal m5_BadGoal "ValueError.__new__"))
    (ex_BadGoal : PySem.W.excIn K C_BadGoal PySem.HandSPX.veTail "ValueError.__new__" = true)
    (ga_BadGoal : PySem.W.findIn K (.ref C_BadGoal) "__getattribute__" = some (some (.builtin "BaseException.__getattribute__")))
    (gg_BadGoal : PySem.W.findIn K (.ref C_BadGoal) "__getattr__" = some none)
    (kC_BadGoal : PySem.W.keepIn K (.ref C_BadGoal) = true)
    (eC_BadGoal : PySem.W.subIn K (.ref C_BadGoal) (.type "BaseException") = some true)
    (tC_BadGoal : PySem.W.typeIn K (.ref C_BadGoal) = some (.type "type"))
    (iC_BadGoal : PySem.W.isClsIn K C_BadGoal = true)
    (aC_BadCommand : PySem.W.nsIn K mainGlobals "BadCommand" = some (some (.ref C_BadCommand)))
    (xC_BadCommand : K.lookup C_BadCommand = some (excClassObj nm_BadCommand q_BadCommand C_BadCommand N_BadCommand bs_BadCommand [.ref CR, .type "ValueError", .type "Exception", .type "BaseException", .type "object"] true sn_BadCommand sub_BadCommand ab_BadCommand col_BadCommand dd_BadCommand m0_BadCommand m1_BadCommand m2_BadCommand m3_BadCommand m5_BadCommand "ValueError.__new__"))
    (ex_BadCommand : PySem.W.excIn K C_BadCommand PySem.HandSPX.veTail "ValueError.__new__" = true)
    (ga_BadCommand : PySem.W.findIn K (.ref C_BadCommand) "__getattribute__" = some (some (.builtin "BaseException.__getattribute__")))
    (gg_BadCommand : PySem.W.findIn K (.ref C_BadCommand) "__getattr__" = some none)
    (kC_BadCommand : PySem.W.keepIn K (.ref C_BadCommand) = true)
    (eC_BadCommand : PySem.W.subIn K (.ref C_BadCommand) (.type "BaseException") = some true)
    (tC_BadCommand : PySem.W.typeIn K (.ref C_BadCommand) = some (.type "type"))
    (iC_BadCommand : PySem.W.isClsIn K C_BadCommand = true)
    (cc_BadAtom : PySem.W.findIn K (.ref C_BadAtom) "__class__" = some (some (.builtin "object.__class__")))
    (cc_BadForm : PySem.W.findIn K (.ref C_BadForm) "__class__" = some (some (.builtin "object.__class__")))
    (cc_BadKey : PySem.W.findIn K (.ref C_BadKey) "__class__" = some (some (.builtin "object.__class__")))
    (cc_BadText : PySem.W.findIn K (.ref C_BadText) "__class__" = some (some (.builtin "object.__class__")))
    (cc_BadHeap : PySem.W.findIn K (.ref C_BadHeap) "__class__" = some (some (.builtin "object.__class__")))
    (cc_BadRecipe : PySem.W.findIn K (.ref C_BadRecipe) "__class__" = some (some (.builtin "object.__class__")))
    (cc_NoWay : PySem.W.findIn K (.ref C_NoWay) "__class__" = some (some (.builtin "object.__class__")))
    (cc_BadHeaps : PySem.W.findIn K (.ref C_BadHeaps) "__class__" = some (some (.builtin "object.__class__")))
    (cc_BadRole : PySem.W.findIn K (.ref C_BadRole) "__class__" = some (some (.builtin "object.__class__")))
    (cc_NotFit : PySem.W.findIn K (.ref C_NotFit) "__class__" = some (some (.builtin "object.__class__")))
    (cc_BadBook : PySem.W.findIn K (.ref C_BadBook) "__class__" = some (some (.builtin "object.__class__")))
    (cc_BadSitting : PySem.W.findIn K (.ref C_BadSitting) "__class__" = some (some (.builtin "object.__class__")))
    (cc_NoSitting : PySem.W.findIn K (.ref C_NoSitting) "__class__" = some (some (.builtin "object.__class__")))
    (cc_NotPlain : PySem.W.findIn K (.ref C_NotPlain) "__class__" = some (some (.builtin "object.__class__")))
    (cc_NotWaiting : PySem.W.findIn K (.ref C_NotWaiting) "__class__" = some (some (.builtin "object.__class__")))
    (cc_NotHeld : PySem.W.findIn K (.ref C_NotHeld) "__class__" = some (some (.builtin "object.__class__")))
    (cc_NoMatch : PySem.W.findIn K (.ref C_NoMatch) "__class__" = some (some (.builtin "object.__class__")))
    (cc_NotDone : PySem.W.findIn K (.ref C_NotDone) "__class__" = some (some (.builtin "object.__class__")))
    (cc_BadFilling : PySem.W.findIn K (.ref C_BadFilling) "__class__" = some (some (.builtin "object.__class__")))
    (cc_BadWishes : PySem.W.findIn K (.ref C_BadWishes) "__class__" = some (some (.builtin "object.__class__")))
    (cc_BadGoal : PySem.W.findIn K (.ref C_BadGoal) "__class__" = some (some (.builtin "object.__class__")))
    (cc_BadCommand : PySem.W.findIn K (.ref C_BadCommand) "__class__" = some (some (.builtin "object.__class__")))
    (oc_BadAtom : PySem.W.mroIn K C_BadAtom (.type "object") = some true)
    (oc_BadForm : PySem.W.mroIn K C_BadForm (.type "object") = some true)
    (oc_BadKey : PySem.W.mroIn K C_BadKey (.type "object") = some true)
    (oc_BadText : PySem.W.mroIn K C_BadText (.type "object") = some true)
    (oc_BadHeap : PySem.W.mroIn K C_BadHeap (.type "object") = some true)
    (oc_BadRecipe : PySem.W.mroIn K C_BadRecipe (.type "object") = some true)
    (oc_NoWay : PySem.W.mroIn K C_NoWay (.type "object") = some true)
    (oc_BadHeaps : PySem.W.mroIn K C_BadHeaps (.type "object") = some true)
    (oc_BadRole : PySem.W.mroIn K C_BadRole (.type "object") = some true)
    (oc_NotFit : PySem.W.mroIn K C_NotFit (.type "object") = some true)
    (oc_BadBook : PySem.W.mroIn K C_BadBook (.type "object") = some true)
    (oc_BadSitting : PySem.W.mroIn K C_BadSitting (.type "object") = some true)
    (oc_NoSitting : PySem.W.mroIn K C_NoSitting (.type "object") = some true)
    (oc_NotPlain : PySem.W.mroIn K C_NotPlain (.type "object") = some true)
    (oc_NotWaiting : PySem.W.mroIn K C_NotWaiting (.type "object") = some true)
    (oc_NotHeld : PySem.W.mroIn K C_NotHeld (.type "object") = some true)
    (oc_NoMatch : PySem.W.mroIn K C_NoMatch (.type "object") = some true)
    (oc_NotDone : PySem.W.mroIn K C_NotDone (.type "object") = some true)
    (oc_BadFilling : PySem.W.mroIn K C_BadFilling (.type "object") = some true)
    (oc_BadWishes : PySem.W.mroIn K C_BadWishes (.type "object") = some true)
    (oc_BadGoal : PySem.W.mroIn K C_BadGoal (.type "object") = some true)
    (oc_BadCommand : PySem.W.mroIn K C_BadCommand (.type "object") = some true)
    (hnC : PySem.W.specialIn K (.builtin "object.__class__") "__get__" = some (some (.builtin "getset_descriptor.__get__")))
    (htC : PySem.W.takesIn K (.builtin "object.__class__") = some true)
    (aCR : PySem.W.nsIn K mainGlobals "RoadError" = some (some (.ref CR)))
    (iCR : PySem.W.isClsIn K CR = true)
    (tCR : PySem.W.typeIn K (.ref CR) = some (.type "type"))
    (nd31 : ([C_BadAtom, C_BadForm, C_BadKey, C_BadText, C_BadHeap, C_BadRecipe, C_NoWay, C_BadHeaps, C_BadRole, C_NotFit, C_BadBook, C_BadSitting, C_NoSitting, C_NotPlain, C_NotWaiting, C_NotHeld, C_NoMatch, C_NotDone, C_BadFilling, C_BadWishes, C_BadGoal, C_BadCommand] : List Addr).Nodup)
    (ndR : CR ∉ ([C_BadAtom, C_BadForm, C_BadKey, C_BadText, C_BadHeap, C_BadRecipe, C_NoWay, C_BadHeaps, C_BadRole, C_NotFit, C_BadBook, C_BadSitting, C_NoSitting, C_NotPlain, C_NotWaiting, C_NotHeld, C_NoMatch, C_NotDone, C_BadFilling, C_BadWishes, C_BadGoal, C_BadCommand] : List Addr))
    (z_ValueError : PySem.W.nsIn K mainGlobals "ValueError" = some none)
    (z_abs : PySem.W.nsIn K mainGlobals "abs" = some none)
    (z_any : PySem.W.nsIn K mainGlobals "any" = some none)
    (z_int : PySem.W.nsIn K mainGlobals "int" = some none)
    (z_isinstance : PySem.W.nsIn K mainGlobals "isinstance" = some none)
    (z_len : PySem.W.nsIn K mainGlobals "len" = some none)
    (z_range : PySem.W.nsIn K mainGlobals "range" = some none) :
    ∃ fd : FuncData, (∀ (s : Shared) (v : Value), BindsTo s fd ⟨[v], []⟩ [("_law_script", v)]) ∧ ∀ base : Heap, K.In base → base.Ns mainGlobals mg → FnOk l.prog w K mg base (L2.CX l.prog w) 7 fa fd ["_law_script"] (spLaw K) := by
  have e := hfa.symm.trans (PySem.W.mg_of X G a_law)
  cases e
  have T : Bl K mg := ⟨PySem.W.mg_none_of X G z_ValueError, PySem.W.mg_none_of X G z_abs, PySem.W.mg_none_of X G z_any, PySem.W.mg_none_of X G z_int, PySem.W.mg_none_of X G z_isinstance, PySem.W.mg_none_of X G z_len, PySem.W.mg_none_of X G z_range⟩
  have F_law_stream := fun_mk (st := s_law_stream) l_law_stream c_law_stream k_law_stream
  have D_law_stream : Df K mg "_law_stream" s_law_stream p_law_stream := ⟨f_law_stream, _, F_law_stream, PySem.W.mg_of X G a_law_stream, F_law_stream.binds (ps := p_law_stream) fun _ _ _ _ _ _ us hl => match us, hl with | [_, _], _ => rfl⟩
  have F_law_draw := fun_mk (st := s_law_draw) l_law_draw c_law_draw k_law_draw
  have D_law_draw : Df K mg "_law_draw" s_law_draw p_law_draw := ⟨f_law_draw, _, F_law_draw, PySem.W.mg_of X G a_law_draw, F_law_draw.binds (ps := p_law_draw) fun _ _ _ _ _ _ us hl => match us, hl with | [_, _], _ => rfl⟩
  have F_law_pick := fun_mk (st := s_law_pick) l_law_pick c_law_pick k_law_pick
  have D_law_pick : Df K mg "_law_pick" s_law_pick p_law_pick := ⟨f_law_pick, _, F_law_pick, PySem.W.mg_of X G a_law_pick, F_law_pick.binds (ps := p_law_pick) fun _ _ _ _ _ _ us hl => match us, hl with | [_, _], _ => rfl⟩
  have F_law_with_text := fun_mk (st := s_law_with_text) l_law_with_text c_law_with_text k_law_with_text
  have D_law_with_text : Df K mg "_law_with_text" s_law_with_text p_law_with_text := ⟨f_law_with_text, _, F_law_with_text, PySem.W.mg_of X G a_law_with_text, F_law_with_text.binds (ps := p_law_with_text) fun _ _ _ _ _ _ us hl => match us, hl with | [_], _ => rfl⟩
  have F_law_made := fun_mk (st := s_law_made) l_law_made c_law_made k_law_made
  have D_law_made : Df K mg "_law_made" s_law_made p_law_made := ⟨f_law_made, _, F_law_made, PySem.W.mg_of X G a_law_made, F_law_made.binds (ps := p_law_made) fun _ _ _ _ _ _ us hl => match us, hl with | [_], _ => rfl⟩
  have F_law_kinds := fun_mk (st := s_law_kinds) l_law_kinds c_law_kinds k_law_kinds
  have D_law_kinds : Df K mg "_law_kinds" s_law_kinds p_law_kinds := ⟨f_law_kinds, _, F_law_kinds, PySem.W.mg_of X G a_law_kinds, F_law_kinds.binds (ps := p_law_kinds) fun _ _ _ _ _ _ us hl => match us, hl with | [_], _ => rfl⟩
  have F_law := fun_mk (st := s_law) l_law c_law k_law
  have F_BadAtom := fun_mk (st := s_BadAtom___init__) l_BadAtom c_BadAtom k_BadAtom
  have b_BadAtom := F_BadAtom.binds (ps := p_BadAtom___init__) fun _ _ _ _ _ _ us hl => match us, hl with | [_, _], _ => rfl
  have F_BadForm := fun_mk (st := s_BadForm___init__) l_BadForm c_BadForm k_BadForm
  have b_BadForm := F_BadForm.binds (ps := p_BadForm___init__) fun _ _ _ _ _ _ us hl => match us, hl with | [_, _], _ => rfl
  have F_BadKey := fun_mk (st := s_BadKey___init__) l_BadKey c_BadKey k_BadKey
  have b_BadKey := F_BadKey.binds (ps := p_BadKey___init__) fun _ _ _ _ _ _ us hl => match us, hl with | [_, _], _ => rfl
  have F_BadText := fun_mk (st := s_BadText___init__) l_BadText c_BadText k_BadText
  have b_BadText := F_BadText.binds (ps := p_BadText___init__) fun _ _ _ _ _ _ us hl => match us, hl with | [_, _], _ => rfl
  have F_BadHeap := fun_mk (st := s_BadHeap___init__) l_BadHeap c_BadHeap k_BadHeap
  have b_BadHeap := F_BadHeap.binds (ps := p_BadHeap___init__) fun _ _ _ _ _ _ us hl => match us, hl with | [_, _], _ => rfl
  have F_NoWay := fun_mk (st := s_NoWay___init__) l_NoWay c_NoWay k_NoWay
  have b_NoWay := F_NoWay.binds (ps := p_NoWay___init__) fun _ _ _ _ _ _ us hl => match us, hl with | [_, _], _ => rfl
  have F_BadRole := fun_mk (st := s_BadRole___init__) l_BadRole c_BadRole k_BadRole
  have b_BadRole := F_BadRole.binds (ps := p_BadRole___init__) fun _ _ _ _ _ _ us hl => match us, hl with | [_, _], _ => rfl
  have F_NotFit := fun_mk (st := s_NotFit___init__) l_NotFit c_NotFit k_NotFit
  have b_NotFit := F_NotFit.binds (ps := p_NotFit___init__) fun _ _ _ _ _ _ us hl => match us, hl with | [_, _], _ => rfl
  have F_BadBook := fun_mk (st := s_BadBook___init__) l_BadBook c_BadBook k_BadBook
  have b_BadBook := F_BadBook.binds (ps := p_BadBook___init__) fun _ _ _ _ _ _ us hl => match us, hl with | [_, _], _ => rfl
  have F_BadSitting := fun_mk (st := s_BadSitting___init__) l_BadSitting c_BadSitting k_BadSitting
  have b_BadSitting := F_BadSitting.binds (ps := p_BadSitting___init__) fun _ _ _ _ _ _ us hl => match us, hl with | [_, _], _ => rfl
  have F_NoSitting := fun_mk (st := s_NoSitting___init__) l_NoSitting c_NoSitting k_NoSitting
  have b_NoSitting := F_NoSitting.binds (ps := p_NoSitting___init__) fun _ _ _ _ _ _ us hl => match us, hl with | [_, _], _ => rfl
  have F_NotWaiting := fun_mk (st := s_NotWaiting___init__) l_NotWaiting c_NotWaiting k_NotWaiting
  have b_NotWaiting := F_NotWaiting.binds (ps := p_NotWaiting___init__) fun _ _ _ _ _ _ us hl => match us, hl with | [_, _], _ => rfl
  have F_NotDone := fun_mk (st := s_NotDone___init__) l_NotDone c_NotDone k_NotDone
  have b_NotDone := F_NotDone.binds (ps := p_NotDone___init__) fun _ _ _ _ _ _ us hl => match us, hl with | [_, _], _ => rfl
  have F_BadWishes := fun_mk (st := s_BadWishes___init__) l_BadWishes c_BadWishes k_BadWishes
  have b_BadWishes := F_BadWishes.binds (ps := p_BadWishes___init__) fun _ _ _ _ _ _ us hl => match us, hl with | [_, _], _ => rfl
  refine ⟨PySem.W.fnOf "law" "law" (defArgs s_law) (defBody s_law) (defScope s_law) .none kV_law dc_law pm_law an_law cd_law ct_law, fun s v => .of_eq rfl, fun base _ _ => ?_⟩
  have c1 := ca_stream (P := l.prog) (w := w) (base := base) T D_law_stream
  have c2 := ca_draw (P := l.prog) (w := w) (base := base) T D_law_draw
  have c3 := ca_pick T D_law_pick c2
  have eI_BadAtom : FnOk l.prog w K mg base (L2.CX l.prog w) 1 f_BadAtom _ ["self", "text"] (spErr K "text") := fnX F_BadAtom sc_BadAtom___init__ (fun vs H Q E h => by obtain ⟨_, _, _, rfl, _⟩ := h; rfl) (BodyN.x (err_body (C := C_BadAtom) rfl sc_BadAtom___init__ (Or.inl rfl) (Or.inl rfl) (by decide) (by decide)))
  have er_BadAtom : Er l.prog w K mg base 1 "BadAtom" C_BadAtom "text" := ⟨⟨f_BadAtom, _, _, eI_BadAtom, aI_BadAtom, tI_BadAtom, b_BadAtom⟩, ⟨⟨_, _, _, _, _, _, _, _, _, _, _, _, _, _, _, xC_BadAtom, rfl⟩, sa_BadAtom, eC_BadAtom, tC_BadAtom, kC_BadAtom⟩, nb_BadAtom, PySem.W.mg_of X G aC_BadAtom, ⟨ga_BadAtom, gg_BadAtom, eC_BadAtom, hC_BadAtom⟩, PySem.W.exm_ref eC_BadAtom hC_BadAtom tC_BadAtom sC_BadAtom⟩
  have k_e_BadAtom : Erk l.prog w K mg base 1 "BadAtom" C_BadAtom "text" := ⟨⟨f_BadAtom, _, _, eI_BadAtom, aI_BadAtom, tI_BadAtom, ⟨fun s us ws _ h1 h2 => match us, ws, h1, h2 with | [_], [_], _, _ => .of_eq rfl, fun r1 r2 => r1.append r2⟩⟩, er_BadAtom⟩
  have eI_BadForm : FnOk l.prog w K mg base (L2.CX l.prog w) 1 f_BadForm _ ["self", "path"] (spErr K "path") := fnX F_BadForm sc_BadForm___init__ (fun vs H Q E h => by obtain ⟨_, _, _, rfl, _⟩ := h; rfl) (BodyN.x (err_body (C := C_BadForm) rfl sc_BadForm___init__ (Or.inl rfl) (Or.inl rfl) (by decide) (by decide)))
  have er_BadForm : Er l.prog w K mg base 1 "BadForm" C_BadForm "path" := ⟨⟨f_BadForm, _, _, eI_BadForm, aI_BadForm, tI_BadForm, b_BadForm⟩, ⟨⟨_, _, _, _, _, _, _, _, _, _, _, _, _, _, _, xC_BadForm, rfl⟩, sa_BadForm, eC_BadForm, tC_BadForm, kC_BadForm⟩, nb_BadForm, PySem.W.mg_of X G aC_BadForm, ⟨ga_BadForm, gg_BadForm, eC_BadForm, hC_BadForm⟩, PySem.W.exm_ref eC_BadForm hC_BadForm tC_BadForm sC_BadForm⟩
  have k_e_BadForm : Erk l.prog w K mg base 1 "BadForm" C_BadForm "path" := ⟨⟨f_BadForm, _, _, eI_BadForm, aI_BadForm, tI_BadForm, ⟨fun s us ws _ h1 h2 => match us, ws, h1, h2 with | [_], [_], _, _ => .of_eq rfl, fun r1 r2 => r1.append r2⟩⟩, er_BadForm⟩
  have eI_BadKey : FnOk l.prog w K mg base (L2.CX l.prog w) 1 f_BadKey _ ["self", "key"] (spErr K "key") := fnX F_BadKey sc_BadKey___init__ (fun vs H Q E h => by obtain ⟨_, _, _, rfl, _⟩ := h; rfl) (BodyN.x (err_body (C := C_BadKey) rfl sc_BadKey___init__ (Or.inl rfl) (Or.inl rfl) (by decide) (by decide)))
  have er_BadKey : Er l.prog w K mg base 1 "BadKey" C_BadKey "key" := ⟨⟨f_BadKey, _, _, eI_BadKey, aI_BadKey, tI_BadKey, b_BadKey⟩, ⟨⟨_, _, _, _, _, _, _, _, _, _, _, _, _, _, _, xC_BadKey, rfl⟩, sa_BadKey, eC_BadKey, tC_BadKey, kC_BadKey⟩, nb_BadKey, PySem.W.mg_of X G aC_BadKey, ⟨ga_BadKey, gg_BadKey, eC_BadKey, hC_BadKey⟩, PySem.W.exm_ref eC_BadKey hC_BadKey tC_BadKey sC_BadKey⟩
  have k_e_BadKey : Erk l.prog w K mg base 1 "BadKey" C_BadKey "key" := ⟨⟨f_BadKey, _, _, eI_BadKey, aI_BadKey, tI_BadKey, ⟨fun s us ws _ h1 h2 => match us, ws, h1, h2 with | [_], [_], _, _ => .of_eq rfl, fun r1 r2 => r1.append r2⟩⟩, er_BadKey⟩
  have eI_BadText : FnOk l.prog w K mg base (L2.CX l.prog w) 1 f_BadText _ ["self", "line"] (spErr K "line") := fnX F_BadText sc_BadText___init__ (fun vs H Q E h => by obtain ⟨_, _, _, rfl, _⟩ := h; rfl) (BodyN.x (err_body (C := C_BadText) rfl sc_BadText___init__ (Or.inl rfl) (Or.inl rfl) (by decide) (by decide)))
  have er_BadText : Er l.prog w K mg base 1 "BadText" C_BadText "line" := ⟨⟨f_BadText, _, _, eI_BadText, aI_BadText, tI_BadText, b_BadText⟩, ⟨⟨_, _, _, _, _, _, _, _, _, _, _, _, _, _, _, xC_BadText, rfl⟩, sa_BadText, eC_BadText, tC_BadText, kC_BadText⟩, nb_BadText, PySem.W.mg_of X G aC_BadText, ⟨ga_BadText, gg_BadText, eC_BadText, hC_BadText⟩, PySem.W.exm_ref eC_BadText hC_BadText tC_BadText sC_BadText⟩
  have k_e_BadText : Erk l.prog w K mg base 1 "BadText" C_BadText "line" := ⟨⟨f_BadText, _, _, eI_BadText, aI_BadText, tI_BadText, ⟨fun s us ws _ h1 h2 => match us, ws, h1, h2 with | [_], [_], _, _ => .of_eq rfl, fun r1 r2 => r1.append r2⟩⟩, er_BadText⟩
  have eI_BadHeap : FnOk l.prog w K mg base (L2.CX l.prog w) 1 f_BadHeap _ ["self", "index"] (spErr K "index") := fnX F_BadHeap sc_BadHeap___init__ (fun vs H Q E h => by obtain ⟨_, _, _, rfl, _⟩ := h; rfl) (BodyN.x (err_body (C := C_BadHeap) rfl sc_BadHeap___init__ (Or.inl rfl) (Or.inl rfl) (by decide) (by decide)))
  have er_BadHeap : Er l.prog w K mg base 1 "BadHeap" C_BadHeap "index" := ⟨⟨f_BadHeap, _, _, eI_BadHeap, aI_BadHeap, tI_BadHeap, b_BadHeap⟩, ⟨⟨_, _, _, _, _, _, _, _, _, _, _, _, _, _, _, xC_BadHeap, rfl⟩, sa_BadHeap, eC_BadHeap, tC_BadHeap, kC_BadHeap⟩, nb_BadHeap, PySem.W.mg_of X G aC_BadHeap, ⟨ga_BadHeap, gg_BadHeap, eC_BadHeap, hC_BadHeap⟩, PySem.W.exm_ref eC_BadHeap hC_BadHeap tC_BadHeap sC_BadHeap⟩
  have k_e_BadHeap : Erk l.prog w K mg base 1 "BadHeap" C_BadHeap "index" := ⟨⟨f_BadHeap, _, _, eI_BadHeap, aI_BadHeap, tI_BadHeap, ⟨fun s us ws _ h1 h2 => match us, ws, h1, h2 with | [_], [_], _, _ => .of_eq rfl, fun r1 r2 => r1.append r2⟩⟩, er_BadHeap⟩
  have eI_NoWay : FnOk l.prog w K mg base (L2.CX l.prog w) 1 f_NoWay _ ["self", "step"] (spErr K "step") := fnX F_NoWay sc_NoWay___init__ (fun vs H Q E h => by obtain ⟨_, _, _, rfl, _⟩ := h; rfl) (BodyN.x (err_body (C := C_NoWay) rfl sc_NoWay___init__ (Or.inl rfl) (Or.inl rfl) (by decide) (by decide)))
  have er_NoWay : Er l.prog w K mg base 1 "NoWay" C_NoWay "step" := ⟨⟨f_NoWay, _, _, eI_NoWay, aI_NoWay, tI_NoWay, b_NoWay⟩, ⟨⟨_, _, _, _, _, _, _, _, _, _, _, _, _, _, _, xC_NoWay, rfl⟩, sa_NoWay, eC_NoWay, tC_NoWay, kC_NoWay⟩, nb_NoWay, PySem.W.mg_of X G aC_NoWay, ⟨ga_NoWay, gg_NoWay, eC_NoWay, hC_NoWay⟩, PySem.W.exm_ref eC_NoWay hC_NoWay tC_NoWay sC_NoWay⟩
  have k_e_NoWay : Erk l.prog w K mg base 1 "NoWay" C_NoWay "step" := ⟨⟨f_NoWay, _, _, eI_NoWay, aI_NoWay, tI_NoWay, ⟨fun s us ws _ h1 h2 => match us, ws, h1, h2 with | [_], [_], _, _ => .of_eq rfl, fun r1 r2 => r1.append r2⟩⟩, er_NoWay⟩
  have eI_BadRole : FnOk l.prog w K mg base (L2.CX l.prog w) 1 f_BadRole _ ["self", "field"] (spErr K "field") := fnX F_BadRole sc_BadRole___init__ (fun vs H Q E h => by obtain ⟨_, _, _, rfl, _⟩ := h; rfl) (BodyN.x (err_body (C := C_BadRole) rfl sc_BadRole___init__ (Or.inl rfl) (Or.inl rfl) (by decide) (by decide)))
  have er_BadRole : Er l.prog w K mg base 1 "BadRole" C_BadRole "field" := ⟨⟨f_BadRole, _, _, eI_BadRole, aI_BadRole, tI_BadRole, b_BadRole⟩, ⟨⟨_, _, _, _, _, _, _, _, _, _, _, _, _, _, _, xC_BadRole, rfl⟩, sa_BadRole, eC_BadRole, tC_BadRole, kC_BadRole⟩, nb_BadRole, PySem.W.mg_of X G aC_BadRole, ⟨ga_BadRole, gg_BadRole, eC_BadRole, hC_BadRole⟩, PySem.W.exm_ref eC_BadRole hC_BadRole tC_BadRole sC_BadRole⟩
  have k_e_BadRole : Erk l.prog w K mg base 1 "BadRole" C_BadRole "field" := ⟨⟨f_BadRole, _, _, eI_BadRole, aI_BadRole, tI_BadRole, ⟨fun s us ws _ h1 h2 => match us, ws, h1, h2 with | [_], [_], _, _ => .of_eq rfl, fun r1 r2 => r1.append r2⟩⟩, er_BadRole⟩
  have eI_NotFit : FnOk l.prog w K mg base (L2.CX l.prog w) 1 f_NotFit _ ["self", "index"] (spErr K "index") := fnX F_NotFit sc_NotFit___init__ (fun vs H Q E h => by obtain ⟨_, _, _, rfl, _⟩ := h; rfl) (BodyN.x (err_body (C := C_NotFit) rfl sc_NotFit___init__ (Or.inl rfl) (Or.inl rfl) (by decide) (by decide)))
  have er_NotFit : Er l.prog w K mg base 1 "NotFit" C_NotFit "index" := ⟨⟨f_NotFit, _, _, eI_NotFit, aI_NotFit, tI_NotFit, b_NotFit⟩, ⟨⟨_, _, _, _, _, _, _, _, _, _, _, _, _, _, _, xC_NotFit, rfl⟩, sa_NotFit, eC_NotFit, tC_NotFit, kC_NotFit⟩, nb_NotFit, PySem.W.mg_of X G aC_NotFit, ⟨ga_NotFit, gg_NotFit, eC_NotFit, hC_NotFit⟩, PySem.W.exm_ref eC_NotFit hC_NotFit tC_NotFit sC_NotFit⟩
  have k_e_NotFit : Erk l.prog w K mg base 1 "NotFit" C_NotFit "index" := ⟨⟨f_NotFit, _, _, eI_NotFit, aI_NotFit, tI_NotFit, ⟨fun s us ws _ h1 h2 => match us, ws, h1, h2 with | [_], [_], _, _ => .of_eq rfl, fun r1 r2 => r1.append r2⟩⟩, er_NotFit⟩
  have eI_BadBook : FnOk l.prog w K mg base (L2.CX l.prog w) 1 f_BadBook _ ["self", "field"] (spErr K "field") := fnX F_BadBook sc_BadBook___init__ (fun vs H Q E h => by obtain ⟨_, _, _, rfl, _⟩ := h; rfl) (BodyN.x (err_body (C := C_BadBook) rfl sc_BadBook___init__ (Or.inl rfl) (Or.inl rfl) (by decide) (by decide)))
  have er_BadBook : Er l.prog w K mg base 1 "BadBook" C_BadBook "field" := ⟨⟨f_BadBook, _, _, eI_BadBook, aI_BadBook, tI_BadBook, b_BadBook⟩, ⟨⟨_, _, _, _, _, _, _, _, _, _, _, _, _, _, _, xC_BadBook, rfl⟩, sa_BadBook, eC_BadBook, tC_BadBook, kC_BadBook⟩, nb_BadBook, PySem.W.mg_of X G aC_BadBook, ⟨ga_BadBook, gg_BadBook, eC_BadBook, hC_BadBook⟩, PySem.W.exm_ref eC_BadBook hC_BadBook tC_BadBook sC_BadBook⟩
  have k_e_BadBook : Erk l.prog w K mg base 1 "BadBook" C_BadBook "field" := ⟨⟨f_BadBook, _, _, eI_BadBook, aI_BadBook, tI_BadBook, ⟨fun s us ws _ h1 h2 => match us, ws, h1, h2 with | [_], [_], _, _ => .of_eq rfl, fun r1 r2 => r1.append r2⟩⟩, er_BadBook⟩
  have eI_BadSitting : FnOk l.prog w K mg base (L2.CX l.prog w) 1 f_BadSitting _ ["self", "index"] (spErr K "index") := fnX F_BadSitting sc_BadSitting___init__ (fun vs H Q E h => by obtain ⟨_, _, _, rfl, _⟩ := h; rfl) (BodyN.x (err_body (C := C_BadSitting) rfl sc_BadSitting___init__ (Or.inl rfl) (Or.inl rfl) (by decide) (by decide)))
  have er_BadSitting : Er l.prog w K mg base 1 "BadSitting" C_BadSitting "index" := ⟨⟨f_BadSitting, _, _, eI_BadSitting, aI_BadSitting, tI_BadSitting, b_BadSitting⟩, ⟨⟨_, _, _, _, _, _, _, _, _, _, _, _, _, _, _, xC_BadSitting, rfl⟩, sa_BadSitting, eC_BadSitting, tC_BadSitting, kC_BadSitting⟩, nb_BadSitting, PySem.W.mg_of X G aC_BadSitting, ⟨ga_BadSitting, gg_BadSitting, eC_BadSitting, hC_BadSitting⟩, PySem.W.exm_ref eC_BadSitting hC_BadSitting tC_BadSitting sC_BadSitting⟩
  have k_e_BadSitting : Erk l.prog w K mg base 1 "BadSitting" C_BadSitting "index" := ⟨⟨f_BadSitting, _, _, eI_BadSitting, aI_BadSitting, tI_BadSitting, ⟨fun s us ws _ h1 h2 => match us, ws, h1, h2 with | [_], [_], _, _ => .of_eq rfl, fun r1 r2 => r1.append r2⟩⟩, er_BadSitting⟩
  have eI_NoSitting : FnOk l.prog w K mg base (L2.CX l.prog w) 1 f_NoSitting _ ["self", "number"] (spErr K "number") := fnX F_NoSitting sc_NoSitting___init__ (fun vs H Q E h => by obtain ⟨_, _, _, rfl, _⟩ := h; rfl) (BodyN.x (err_body (C := C_NoSitting) rfl sc_NoSitting___init__ (Or.inl rfl) (Or.inl rfl) (by decide) (by decide)))
  have er_NoSitting : Er l.prog w K mg base 1 "NoSitting" C_NoSitting "number" := ⟨⟨f_NoSitting, _, _, eI_NoSitting, aI_NoSitting, tI_NoSitting, b_NoSitting⟩, ⟨⟨_, _, _, _, _, _, _, _, _, _, _, _, _, _, _, xC_NoSitting, rfl⟩, sa_NoSitting, eC_NoSitting, tC_NoSitting, kC_NoSitting⟩, nb_NoSitting, PySem.W.mg_of X G aC_NoSitting, ⟨ga_NoSitting, gg_NoSitting, eC_NoSitting, hC_NoSitting⟩, PySem.W.exm_ref eC_NoSitting hC_NoSitting tC_NoSitting sC_NoSitting⟩
  have k_e_NoSitting : Erk l.prog w K mg base 1 "NoSitting" C_NoSitting "number" := ⟨⟨f_NoSitting, _, _, eI_NoSitting, aI_NoSitting, tI_NoSitting, ⟨fun s us ws _ h1 h2 => match us, ws, h1, h2 with | [_], [_], _, _ => .of_eq rfl, fun r1 r2 => r1.append r2⟩⟩, er_NoSitting⟩
  have eI_NotWaiting : FnOk l.prog w K mg base (L2.CX l.prog w) 1 f_NotWaiting _ ["self", "number"] (spErr K "number") := fnX F_NotWaiting sc_NotWaiting___init__ (fun vs H Q E h => by obtain ⟨_, _, _, rfl, _⟩ := h; rfl) (BodyN.x (err_body (C := C_NotWaiting) rfl sc_NotWaiting___init__ (Or.inl rfl) (Or.inl rfl) (by decide) (by decide)))
  have er_NotWaiting : Er l.prog w K mg base 1 "NotWaiting" C_NotWaiting "number" := ⟨⟨f_NotWaiting, _, _, eI_NotWaiting, aI_NotWaiting, tI_NotWaiting, b_NotWaiting⟩, ⟨⟨_, _, _, _, _, _, _, _, _, _, _, _, _, _, _, xC_NotWaiting, rfl⟩, sa_NotWaiting, eC_NotWaiting, tC_NotWaiting, kC_NotWaiting⟩, nb_NotWaiting, PySem.W.mg_of X G aC_NotWaiting, ⟨ga_NotWaiting, gg_NotWaiting, eC_NotWaiting, hC_NotWaiting⟩, PySem.W.exm_ref eC_NotWaiting hC_NotWaiting tC_NotWaiting sC_NotWaiting⟩
  have k_e_NotWaiting : Erk l.prog w K mg base 1 "NotWaiting" C_NotWaiting "number" := ⟨⟨f_NotWaiting, _, _, eI_NotWaiting, aI_NotWaiting, tI_NotWaiting, ⟨fun s us ws _ h1 h2 => match us, ws, h1, h2 with | [_], [_], _, _ => .of_eq rfl, fun r1 r2 => r1.append r2⟩⟩, er_NotWaiting⟩
  have eI_NotDone : FnOk l.prog w K mg base (L2.CX l.prog w) 1 f_NotDone _ ["self", "place"] (spErr K "place") := fnX F_NotDone sc_NotDone___init__ (fun vs H Q E h => by obtain ⟨_, _, _, rfl, _⟩ := h; rfl) (BodyN.x (err_body (C := C_NotDone) rfl sc_NotDone___init__ (Or.inl rfl) (Or.inl rfl) (by decide) (by decide)))
  have er_NotDone : Er l.prog w K mg base 1 "NotDone" C_NotDone "place" := ⟨⟨f_NotDone, _, _, eI_NotDone, aI_NotDone, tI_NotDone, b_NotDone⟩, ⟨⟨_, _, _, _, _, _, _, _, _, _, _, _, _, _, _, xC_NotDone, rfl⟩, sa_NotDone, eC_NotDone, tC_NotDone, kC_NotDone⟩, nb_NotDone, PySem.W.mg_of X G aC_NotDone, ⟨ga_NotDone, gg_NotDone, eC_NotDone, hC_NotDone⟩, PySem.W.exm_ref eC_NotDone hC_NotDone tC_NotDone sC_NotDone⟩
  have k_e_NotDone : Erk l.prog w K mg base 1 "NotDone" C_NotDone "place" := ⟨⟨f_NotDone, _, _, eI_NotDone, aI_NotDone, tI_NotDone, ⟨fun s us ws _ h1 h2 => match us, ws, h1, h2 with | [_], [_], _, _ => .of_eq rfl, fun r1 r2 => r1.append r2⟩⟩, er_NotDone⟩
  have eI_BadWishes : FnOk l.prog w K mg base (L2.CX l.prog w) 1 f_BadWishes _ ["self", "index"] (spErr K "index") := fnX F_BadWishes sc_BadWishes___init__ (fun vs H Q E h => by obtain ⟨_, _, _, rfl, _⟩ := h; rfl) (BodyN.x (err_body (C := C_BadWishes) rfl sc_BadWishes___init__ (Or.inl rfl) (Or.inl rfl) (by decide) (by decide)))
  have er_BadWishes : Er l.prog w K mg base 1 "BadWishes" C_BadWishes "index" := ⟨⟨f_BadWishes, _, _, eI_BadWishes, aI_BadWishes, tI_BadWishes, b_BadWishes⟩, ⟨⟨_, _, _, _, _, _, _, _, _, _, _, _, _, _, _, xC_BadWishes, rfl⟩, sa_BadWishes, eC_BadWishes, tC_BadWishes, kC_BadWishes⟩, nb_BadWishes, PySem.W.mg_of X G aC_BadWishes, ⟨ga_BadWishes, gg_BadWishes, eC_BadWishes, hC_BadWishes⟩, PySem.W.exm_ref eC_BadWishes hC_BadWishes tC_BadWishes sC_BadWishes⟩
  have k_e_BadWishes : Erk l.prog w K mg base 1 "BadWishes" C_BadWishes "index" := ⟨⟨f_BadWishes, _, _, eI_BadWishes, aI_BadWishes, tI_BadWishes, ⟨fun s us ws _ h1 h2 => match us, ws, h1, h2 with | [_], [_], _, _ => .of_eq rfl, fun r1 r2 => r1.append r2⟩⟩, er_BadWishes⟩
  have z_e_BadRecipe : Ez K mg "BadRecipe" C_BadRecipe := ⟨ex_BadRecipe, PySem.W.mg_of X G aC_BadRecipe, kC_BadRecipe⟩
  have z_e_BadHeaps : Ez K mg "BadHeaps" C_BadHeaps := ⟨ex_BadHeaps, PySem.W.mg_of X G aC_BadHeaps, kC_BadHeaps⟩
  have z_e_NotPlain : Ez K mg "NotPlain" C_NotPlain := ⟨ex_NotPlain, PySem.W.mg_of X G aC_NotPlain, kC_NotPlain⟩
  have z_e_NotHeld : Ez K mg "NotHeld" C_NotHeld := ⟨ex_NotHeld, PySem.W.mg_of X G aC_NotHeld, kC_NotHeld⟩
  have z_e_NoMatch : Ez K mg "NoMatch" C_NoMatch := ⟨ex_NoMatch, PySem.W.mg_of X G aC_NoMatch, kC_NoMatch⟩
  have z_e_BadFilling : Ez K mg "BadFilling" C_BadFilling := ⟨ex_BadFilling, PySem.W.mg_of X G aC_BadFilling, kC_BadFilling⟩
  have z_e_BadGoal : Ez K mg "BadGoal" C_BadGoal := ⟨ex_BadGoal, PySem.W.mg_of X G aC_BadGoal, kC_BadGoal⟩
  have z_e_BadCommand : Ez K mg "BadCommand" C_BadCommand := ⟨ex_BadCommand, PySem.W.mg_of X G aC_BadCommand, kC_BadCommand⟩
  have mr_BadAtom : MroAt K CR C_BadAtom := ⟨_, by unfold PySem.W.clsIn; rw [xC_BadAtom] <;> rfl, rfl⟩
  have xc_BadAtom : Xc K C_BadAtom := ⟨iC_BadAtom, ga_BadAtom, gg_BadAtom, eC_BadAtom, cc_BadAtom, hnC, htC, oc_BadAtom⟩
  have mr_BadForm : MroAt K CR C_BadForm := ⟨_, by unfold PySem.W.clsIn; rw [xC_BadForm] <;> rfl, rfl⟩
  have xc_BadForm : Xc K C_BadForm := ⟨iC_BadForm, ga_BadForm, gg_BadForm, eC_BadForm, cc_BadForm, hnC, htC, oc_BadForm⟩
  have mr_BadKey : MroAt K CR C_BadKey := ⟨_, by unfold PySem.W.clsIn; rw [xC_BadKey] <;> rfl, rfl⟩
  have xc_BadKey : Xc K C_BadKey := ⟨iC_BadKey, ga_BadKey, gg_BadKey, eC_BadKey, cc_BadKey, hnC, htC, oc_BadKey⟩
  have mr_BadText : MroAt K CR C_BadText := ⟨_, by unfold PySem.W.clsIn; rw [xC_BadText] <;> rfl, rfl⟩
  have xc_BadText : Xc K C_BadText := ⟨iC_BadText, ga_BadText, gg_BadText, eC_BadText, cc_BadText, hnC, htC, oc_BadText⟩
  have mr_BadHeap : MroAt K CR C_BadHeap := ⟨_, by unfold PySem.W.clsIn; rw [xC_BadHeap] <;> rfl, rfl⟩
  have xc_BadHeap : Xc K C_BadHeap := ⟨iC_BadHeap, ga_BadHeap, gg_BadHeap, eC_BadHeap, cc_BadHeap, hnC, htC, oc_BadHeap⟩
  have mr_BadRecipe : MroAt K CR C_BadRecipe := ⟨_, by unfold PySem.W.clsIn; rw [xC_BadRecipe] <;> rfl, rfl⟩
  have xc_BadRecipe : Xc K C_BadRecipe := ⟨iC_BadRecipe, ga_BadRecipe, gg_BadRecipe, eC_BadRecipe, cc_BadRecipe, hnC, htC, oc_BadRecipe⟩
  have mr_NoWay : MroAt K CR C_NoWay := ⟨_, by unfold PySem.W.clsIn; rw [xC_NoWay] <;> rfl, rfl⟩
  have xc_NoWay : Xc K C_NoWay := ⟨iC_NoWay, ga_NoWay, gg_NoWay, eC_NoWay, cc_NoWay, hnC, htC, oc_NoWay⟩
  have mr_BadHeaps : MroAt K CR C_BadHeaps := ⟨_, by unfold PySem.W.clsIn; rw [xC_BadHeaps] <;> rfl, rfl⟩
  have xc_BadHeaps : Xc K C_BadHeaps := ⟨iC_BadHeaps, ga_BadHeaps, gg_BadHeaps, eC_BadHeaps, cc_BadHeaps, hnC, htC, oc_BadHeaps⟩
  have mr_BadRole : MroAt K CR C_BadRole := ⟨_, by unfold PySem.W.clsIn; rw [xC_BadRole] <;> rfl, rfl⟩
  have xc_BadRole : Xc K C_BadRole := ⟨iC_BadRole, ga_BadRole, gg_BadRole, eC_BadRole, cc_BadRole, hnC, htC, oc_BadRole⟩
  have mr_NotFit : MroAt K CR C_NotFit := ⟨_, by unfold PySem.W.clsIn; rw [xC_NotFit] <;> rfl, rfl⟩
  have xc_NotFit : Xc K C_NotFit := ⟨iC_NotFit, ga_NotFit, gg_NotFit, eC_NotFit, cc_NotFit, hnC, htC, oc_NotFit⟩
  have mr_BadBook : MroAt K CR C_BadBook := ⟨_, by unfold PySem.W.clsIn; rw [xC_BadBook] <;> rfl, rfl⟩
  have xc_BadBook : Xc K C_BadBook := ⟨iC_BadBook, ga_BadBook, gg_BadBook, eC_BadBook, cc_BadBook, hnC, htC, oc_BadBook⟩
  have mr_BadSitting : MroAt K CR C_BadSitting := ⟨_, by unfold PySem.W.clsIn; rw [xC_BadSitting] <;> rfl, rfl⟩
  have xc_BadSitting : Xc K C_BadSitting := ⟨iC_BadSitting, ga_BadSitting, gg_BadSitting, eC_BadSitting, cc_BadSitting, hnC, htC, oc_BadSitting⟩
  have mr_NoSitting : MroAt K CR C_NoSitting := ⟨_, by unfold PySem.W.clsIn; rw [xC_NoSitting] <;> rfl, rfl⟩
  have xc_NoSitting : Xc K C_NoSitting := ⟨iC_NoSitting, ga_NoSitting, gg_NoSitting, eC_NoSitting, cc_NoSitting, hnC, htC, oc_NoSitting⟩
  have mr_NotPlain : MroAt K CR C_NotPlain := ⟨_, by unfold PySem.W.clsIn; rw [xC_NotPlain] <;> rfl, rfl⟩
  have xc_NotPlain : Xc K C_NotPlain := ⟨iC_NotPlain, ga_NotPlain, gg_NotPlain, eC_NotPlain, cc_NotPlain, hnC, htC, oc_NotPlain⟩
  have mr_NotWaiting : MroAt K CR C_NotWaiting := ⟨_, by unfold PySem.W.clsIn; rw [xC_NotWaiting] <;> rfl, rfl⟩
  have xc_NotWaiting : Xc K C_NotWaiting := ⟨iC_NotWaiting, ga_NotWaiting, gg_NotWaiting, eC_NotWaiting, cc_NotWaiting, hnC, htC, oc_NotWaiting⟩
  have mr_NotHeld : MroAt K CR C_NotHeld := ⟨_, by unfold PySem.W.clsIn; rw [xC_NotHeld] <;> rfl, rfl⟩
  have xc_NotHeld : Xc K C_NotHeld := ⟨iC_NotHeld, ga_NotHeld, gg_NotHeld, eC_NotHeld, cc_NotHeld, hnC, htC, oc_NotHeld⟩
  have mr_NoMatch : MroAt K CR C_NoMatch := ⟨_, by unfold PySem.W.clsIn; rw [xC_NoMatch] <;> rfl, rfl⟩
  have xc_NoMatch : Xc K C_NoMatch := ⟨iC_NoMatch, ga_NoMatch, gg_NoMatch, eC_NoMatch, cc_NoMatch, hnC, htC, oc_NoMatch⟩
  have mr_NotDone : MroAt K CR C_NotDone := ⟨_, by unfold PySem.W.clsIn; rw [xC_NotDone] <;> rfl, rfl⟩
  have xc_NotDone : Xc K C_NotDone := ⟨iC_NotDone, ga_NotDone, gg_NotDone, eC_NotDone, cc_NotDone, hnC, htC, oc_NotDone⟩
  have mr_BadFilling : MroAt K CR C_BadFilling := ⟨_, by unfold PySem.W.clsIn; rw [xC_BadFilling] <;> rfl, rfl⟩
  have xc_BadFilling : Xc K C_BadFilling := ⟨iC_BadFilling, ga_BadFilling, gg_BadFilling, eC_BadFilling, cc_BadFilling, hnC, htC, oc_BadFilling⟩
  have mr_BadWishes : MroAt K CR C_BadWishes := ⟨_, by unfold PySem.W.clsIn; rw [xC_BadWishes] <;> rfl, rfl⟩
  have xc_BadWishes : Xc K C_BadWishes := ⟨iC_BadWishes, ga_BadWishes, gg_BadWishes, eC_BadWishes, cc_BadWishes, hnC, htC, oc_BadWishes⟩
  have mr_BadGoal : MroAt K CR C_BadGoal := ⟨_, by unfold PySem.W.clsIn; rw [xC_BadGoal] <;> rfl, rfl⟩
  have xc_BadGoal : Xc K C_BadGoal := ⟨iC_BadGoal, ga_BadGoal, gg_BadGoal, eC_BadGoal, cc_BadGoal, hnC, htC, oc_BadGoal⟩
  have mr_BadCommand : MroAt K CR C_BadCommand := ⟨_, by unfold PySem.W.clsIn; rw [xC_BadCommand] <;> rfl, rfl⟩
  have xc_BadCommand : Xc K C_BadCommand := ⟨iC_BadCommand, ga_BadCommand, gg_BadCommand, eC_BadCommand, cc_BadCommand, hnC, htC, oc_BadCommand⟩
  have XC : ∀ C ∈ [C_BadAtom, C_BadForm, C_BadKey, C_BadText, C_BadHeap, C_BadRecipe, C_NoWay, C_BadHeaps, C_BadRole, C_NotFit, C_BadBook, C_BadSitting, C_NoSitting, C_NotPlain, C_NotWaiting, C_NotHeld, C_NoMatch, C_NotDone, C_BadFilling, C_BadWishes, C_BadGoal, C_BadCommand], Xc K C := fun C hC => by
    simp only [List.mem_cons, List.not_mem_nil, or_false] at hC
    rcases hC with rfl | rfl | rfl | rfl | rfl | rfl | rfl | rfl | rfl | rfl | rfl | rfl | rfl | rfl | rfl | rfl | rfl | rfl | rfl | rfl | rfl | rfl
    · exact xc_BadAtom
    · exact xc_BadForm
    · exact xc_BadKey
    · exact xc_BadText
    · exact xc_BadHeap
    · exact xc_BadRecipe
    · exact xc_NoWay
    · exact xc_BadHeaps
    · exact xc_BadRole
    · exact xc_NotFit
    · exact xc_BadBook
    · exact xc_BadSitting
    · exact xc_NoSitting
    · exact xc_NotPlain
    · exact xc_NotWaiting
    · exact xc_NotHeld
    · exact xc_NoMatch
    · exact xc_NotDone
    · exact xc_BadFilling
    · exact xc_BadWishes
    · exact xc_BadGoal
    · exact xc_BadCommand
  have MR : ∀ C ∈ [C_BadAtom, C_BadForm, C_BadKey, C_BadText, C_BadHeap, C_BadRecipe, C_NoWay, C_BadHeaps, C_BadRole, C_NotFit, C_BadBook, C_BadSitting, C_NoSitting, C_NotPlain, C_NotWaiting, C_NotHeld, C_NoMatch, C_NotDone, C_BadFilling, C_BadWishes, C_BadGoal, C_BadCommand], MroAt K CR C := fun C hC => by
    simp only [List.mem_cons, List.not_mem_nil, or_false] at hC
    rcases hC with rfl | rfl | rfl | rfl | rfl | rfl | rfl | rfl | rfl | rfl | rfl | rfl | rfl | rfl | rfl | rfl | rfl | rfl | rfl | rfl | rfl | rfl
    · exact mr_BadAtom
    · exact mr_BadForm
    · exact mr_BadKey
    · exact mr_BadText
    · exact mr_BadHeap
    · exact mr_BadRecipe
    · exact mr_NoWay
    · exact mr_BadHeaps
    · exact mr_BadRole
    · exact mr_NotFit
    · exact mr_BadBook
    · exact mr_BadSitting
    · exact mr_NoSitting
    · exact mr_NotPlain
    · exact mr_NotWaiting
    · exact mr_NotHeld
    · exact mr_NoMatch
    · exact mr_NotDone
    · exact mr_BadFilling
    · exact mr_BadWishes
    · exact mr_BadGoal
    · exact mr_BadCommand
  have IC : ∀ C ∈ [C_BadAtom, C_BadForm, C_BadKey, C_BadText, C_BadHeap, C_BadRecipe, C_NoWay, C_BadHeaps, C_BadRole, C_NotFit, C_BadBook, C_BadSitting, C_NoSitting, C_NotPlain, C_NotWaiting, C_NotHeld, C_NoMatch, C_NotDone, C_BadFilling, C_BadWishes, C_BadGoal, C_BadCommand], PySem.W.isClsIn K C = true := fun C hC => by
    simp only [List.mem_cons, List.not_mem_nil, or_false] at hC
    rcases hC with rfl | rfl | rfl | rfl | rfl | rfl | rfl | rfl | rfl | rfl | rfl | rfl | rfl | rfl | rfl | rfl | rfl | rfl | rfl | rfl | rfl | rfl
    · exact iC_BadAtom
    · exact iC_BadForm
    · exact iC_BadKey
    · exact iC_BadText
    · exact iC_BadHeap
    · exact iC_BadRecipe
    · exact iC_NoWay
    · exact iC_BadHeaps
    · exact iC_BadRole
    · exact iC_NotFit
    · exact iC_BadBook
    · exact iC_BadSitting
    · exact iC_NoSitting
    · exact iC_NotPlain
    · exact iC_NotWaiting
    · exact iC_NotHeld
    · exact iC_NoMatch
    · exact iC_NotDone
    · exact iC_BadFilling
    · exact iC_BadWishes
    · exact iC_BadGoal
    · exact iC_BadCommand
  have TC : ∀ C ∈ [C_BadAtom, C_BadForm, C_BadKey, C_BadText, C_BadHeap, C_BadRecipe, C_NoWay, C_BadHeaps, C_BadRole, C_NotFit, C_BadBook, C_BadSitting, C_NoSitting, C_NotPlain, C_NotWaiting, C_NotHeld, C_NoMatch, C_NotDone, C_BadFilling, C_BadWishes, C_BadGoal, C_BadCommand], PySem.W.typeIn K (.ref C) = some (.type "type") := fun C hC => by
    simp only [List.mem_cons, List.not_mem_nil, or_false] at hC
    rcases hC with rfl | rfl | rfl | rfl | rfl | rfl | rfl | rfl | rfl | rfl | rfl | rfl | rfl | rfl | rfl | rfl | rfl | rfl | rfl | rfl | rfl | rfl
    · exact tC_BadAtom
    · exact tC_BadForm
    · exact tC_BadKey
    · exact tC_BadText
    · exact tC_BadHeap
    · exact tC_BadRecipe
    · exact tC_NoWay
    · exact tC_BadHeaps
    · exact tC_BadRole
    · exact tC_NotFit
    · exact tC_BadBook
    · exact tC_BadSitting
    · exact tC_NoSitting
    · exact tC_NotPlain
    · exact tC_NotWaiting
    · exact tC_NotHeld
    · exact tC_NoMatch
    · exact tC_NotDone
    · exact tC_BadFilling
    · exact tC_BadWishes
    · exact tC_BadGoal
    · exact tC_BadCommand
  have KT : ∀ C ∈ [C_BadAtom, C_BadForm, C_BadKey, C_BadText, C_BadHeap, C_BadRecipe, C_NoWay, C_BadHeaps, C_BadRole, C_NotFit, C_BadBook, C_BadSitting, C_NoSitting, C_NotPlain, C_NotWaiting, C_NotHeld, C_NoMatch, C_NotDone, C_BadFilling, C_BadWishes, C_BadGoal, C_BadCommand], ∀ C' ∈ [C_BadAtom, C_BadForm, C_BadKey, C_BadText, C_BadHeap, C_BadRecipe, C_NoWay, C_BadHeaps, C_BadRole, C_NotFit, C_BadBook, C_BadSitting, C_NoSitting, C_NotPlain, C_NotWaiting, C_NotHeld, C_NoMatch, C_NotDone, C_BadFilling, C_BadWishes, C_BadGoal, C_BadCommand], PySem.W.kitOne K (.ref C) (.ref C') = some (C == C') := fun C hC C' hC' => kit31b (MR C hC) (IC C' hC') (TC C' hC') fun z => ndR (z ▸ hC')
  have KR : ∀ C ∈ [C_BadAtom, C_BadForm, C_BadKey, C_BadText, C_BadHeap, C_BadRecipe, C_NoWay, C_BadHeaps, C_BadRole, C_NotFit, C_BadBook, C_BadSitting, C_NoSitting, C_NotPlain, C_NotWaiting, C_NotHeld, C_NoMatch, C_NotDone, C_BadFilling, C_BadWishes, C_BadGoal, C_BadCommand], PySem.W.kitOne K (.ref C) (.ref CR) = some true := fun C hC => kit31r (MR C hC) iCR tCR
  have KV : ∀ C ∈ [C_BadAtom, C_BadForm, C_BadKey, C_BadText, C_BadHeap, C_BadRecipe, C_NoWay, C_BadHeaps, C_BadRole, C_NotFit, C_BadBook, C_BadSitting, C_NoSitting, C_NotPlain, C_NotWaiting, C_NotHeld, C_NoMatch, C_NotDone, C_BadFilling, C_BadWishes, C_BadGoal, C_BadCommand], PySem.W.kitOne K (.ref C) (.type "ValueError") = some true := fun C hC => kit31v (MR C hC)
  have w1 := ca_law_with_text T k_e_BadAtom k_e_BadForm k_e_BadKey k_e_BadText k_e_BadHeap k_e_NoWay k_e_BadRole k_e_NotFit k_e_BadBook k_e_BadSitting k_e_NoSitting k_e_NotWaiting k_e_NotDone k_e_BadWishes D_law_with_text
  have w2 := ca_law_made T k_e_BadAtom k_e_BadForm k_e_BadKey k_e_BadText k_e_BadHeap k_e_NoWay k_e_BadRole k_e_NotFit k_e_BadBook k_e_BadSitting k_e_NoSitting k_e_NotWaiting k_e_NotDone k_e_BadWishes z_e_BadRecipe z_e_BadHeaps z_e_NotPlain z_e_NotHeld z_e_NoMatch z_e_BadFilling z_e_BadGoal z_e_BadCommand D_law_made
  have w3 := ca_law_kinds T k_e_BadAtom k_e_BadForm k_e_BadKey k_e_BadText k_e_BadHeap k_e_NoWay k_e_BadRole k_e_NotFit k_e_BadBook k_e_BadSitting k_e_NoSitting k_e_NotWaiting k_e_NotDone k_e_BadWishes z_e_BadRecipe z_e_BadHeaps z_e_NotPlain z_e_NotHeld z_e_NoMatch z_e_BadFilling z_e_BadGoal z_e_BadCommand XC KT D_law_kinds
  exact fn_law T F_law c1 c3 w1 w2 w3 (PySem.W.mg_of X G aCR) XC nd31 rfl KR KV
theorem walk {l : PySem.W.OpenLaw} {q : Program} {loose : List Str} {XP : (Str → Option Value) → Heap → Prop} {YP : World → Heap → Prop} {d : DefRec} {K : Params → PySem.W.Frag} (hn : l.most = some 63) (hdf : d.params.defaults = [])
    (hY : ∀ (w : World) (h : Heap), YP w h → (K w.params).In h)
    (F : ∀ (w : World) (mg : Str → Option Value) (fa : Addr) (h : Heap), (K w.params).In h → h.Ns mainGlobals mg → mg d.name = some (.ref fa) →
      ∃ fd : FuncData, (∀ (s : Shared) (u : Value), BindsTo s fd ⟨[u], []⟩ [("_law_script", u)]) ∧ ∀ base : Heap, (K w.params).In base → base.Ns mainGlobals mg → FnOk l.prog w (K w.params) mg base (L2.CX l.prog w) 7 fa fd ["_law_script"] (spLaw (K w.params))) :
    PySem.W.WalkO q loose XP YP l.row.toRowW d [] (fun f vs => PySem.call f vs) :=
  L2.walk_of (n := 63) (k := 7) (x := "_law_script") (CX := fun w => L2.CX l.prog w) (sp := fun w => spLaw (K w.params)) hn (by decide) hdf ⟨rfl, by decide, by decide⟩ hY F (fun _ _ a ns hl _ hS => ⟨a, ns, rfl, hS, hl, fun _ => rfl⟩) fun _ _ _ _ _ z => by
    obtain ⟨_, _, _, _, _, _, _, _, _, _, _, _, y⟩ := z
    exact y
end Op
open PySem PySem.W PyProof.Rows in
set_option maxRecDepth 100000 in
set_option maxHeartbeats 0 in
theorem PySem.Challenge.cw_openroads_k31_errors_made_holds : PySem.Challenge.rw_openroads_k31_errors_made.Holds := by
  w_on; o_law; k_head; (case hw => w_witness2)
  k_fill
  refine Op.walk (l := PySem.Challenge.rw_openroads_k31_errors_made) rfl rfl (fun w h Y => PySem.W.kIn_of Y) ?F
  case F =>
    intro w mg fa h KX G hmg
    refine' Op.all_mk KX G hmg ?a_law_stream ?l_law_stream ?c_law_stream ?k_law_stream ?a_law_draw ?l_law_draw ?c_law_draw ?k_law_draw ?a_law_pick ?l_law_pick ?c_law_pick ?k_law_pick ?a_law_with_text ?l_law_with_text ?c_law_with_text ?k_law_with_text ?a_law_made ?l_law_made ?c_law_made ?k_law_made ?a_law_kinds ?l_law_kinds ?c_law_kinds ?k_law_kinds ?a_law ?l_law ?c_law ?k_law ?aC_BadAtom ?xC_BadAtom ?sa_BadAtom ?ga_BadAtom ?gg_BadAtom ?kC_BadAtom ?eC_BadAtom ?tC_BadAtom ?hC_BadAtom ?iC_BadAtom ?sC_BadAtom ?nb_BadAtom ?aI_BadAtom ?tI_BadAtom ?l_BadAtom ?c_BadAtom ?k_BadAtom ?aC_BadForm ?xC_BadForm ?sa_BadForm ?ga_BadForm ?gg_BadForm ?kC_BadForm ?eC_BadForm ?tC_BadForm ?hC_BadForm ?iC_BadForm ?sC_BadForm ?nb_BadForm ?aI_BadForm ?tI_BadForm ?l_BadForm ?c_BadForm ?k_BadForm ?aC_BadKey ?xC_BadKey ?sa_BadKey ?ga_BadKey ?gg_BadKey ?kC_BadKey ?eC_BadKey ?tC_BadKey ?hC_BadKey ?iC_BadKey ?sC_BadKey ?nb_BadKey ?aI_BadKey ?tI_BadKey ?l_BadKey ?c_BadKey ?k_BadKey ?aC_BadText ?xC_BadText ?sa_BadText ?ga_BadText ?gg_BadText ?kC_BadText ?eC_BadText ?tC_BadText ?hC_BadText ?iC_BadText ?sC_BadText ?nb_BadText ?aI_BadText ?tI_BadText ?l_BadText ?c_BadText ?k_BadText ?aC_BadHeap ?xC_BadHeap ?sa_BadHeap ?ga_BadHeap ?gg_BadHeap ?kC_BadHeap ?eC_BadHeap ?tC_BadHeap ?hC_BadHeap ?iC_BadHeap ?sC_BadHeap ?nb_BadHeap ?aI_BadHeap ?tI_BadHeap ?l_BadHeap ?c_BadHeap ?k_BadHeap ?aC_NoWay ?xC_NoWay ?sa_NoWay ?ga_NoWay ?gg_NoWay ?kC_NoWay ?eC_NoWay ?tC_NoWay ?hC_NoWay ?iC_NoWay ?sC_NoWay ?nb_NoWay ?aI_NoWay ?tI_NoWay ?l_NoWay ?c_NoWay ?k_NoWay ?aC_BadRole ?xC_BadRole ?sa_BadRole ?ga_BadRole ?gg_BadRole ?kC_BadRole ?eC_BadRole ?tC_BadRole ?hC_BadRole ?iC_BadRole ?sC_BadRole ?nb_BadRole ?aI_BadRole ?tI_BadRole ?l_BadRole ?c_BadRole ?k_BadRole ?aC_NotFit ?xC_NotFit ?sa_NotFit ?ga_NotFit ?gg_NotFit ?kC_NotFit ?eC_NotFit ?tC_NotFit ?hC_NotFit ?iC_NotFit ?sC_NotFit ?nb_NotFit ?aI_NotFit ?tI_NotFit ?l_NotFit ?c_NotFit ?k_NotFit ?aC_BadBook ?xC_BadBook ?sa_BadBook ?ga_BadBook ?gg_BadBook ?kC_BadBook ?eC_BadBook ?tC_BadBook ?hC_BadBook ?iC_BadBook ?sC_BadBook ?nb_BadBook ?aI_BadBook ?tI_BadBook ?l_BadBook ?c_BadBook ?k_BadBook ?aC_BadSitting ?xC_BadSitting ?sa_BadSitting ?ga_BadSitting ?gg_BadSitting ?kC_BadSitting ?eC_BadSitting ?tC_BadSitting ?hC_BadSitting ?iC_BadSitting ?sC_BadSitting ?nb_BadSitting ?aI_BadSitting ?tI_BadSitting ?l_BadSitting ?c_BadSitting ?k_BadSitting ?aC_NoSitting ?xC_NoSitting ?sa_NoSitting ?ga_NoSitting ?gg_NoSitting ?kC_NoSitting ?eC_NoSitting ?tC_NoSitting ?hC_NoSitting ?iC_NoSitting ?sC_NoSitting ?nb_NoSitting ?aI_NoSitting ?tI_NoSitting ?l_NoSitting ?c_NoSitting ?k_NoSitting ?aC_NotWaiting ?xC_NotWaiting ?sa_NotWaiting ?ga_NotWaiting ?gg_NotWaiting ?kC_NotWaiting ?eC_NotWaiting ?tC_NotWaiting ?hC_NotWaiting ?iC_NotWaiting ?sC_NotWaiting ?nb_NotWaiting ?aI_NotWaiting ?tI_NotWaiting ?l_NotWaiting ?c_NotWaiting ?k_NotWaiting ?aC_NotDone ?xC_NotDone ?sa_NotDone ?ga_NotDone ?gg_NotDone ?kC_NotDone ?eC_NotDone ?tC_NotDone ?hC_NotDone ?iC_NotDone ?sC_NotDone ?nb_NotDone ?aI_NotDone ?tI_NotDone ?l_NotDone ?c_NotDone ?k_NotDone ?aC_BadWishes ?xC_BadWishes ?sa_BadWishes ?ga_BadWishes ?gg_BadWishes ?kC_BadWishes ?eC_BadWishes ?tC_BadWishes ?hC_BadWishes ?iC_BadWishes ?sC_BadWishes ?nb_BadWishes ?aI_BadWishes ?tI_BadWishes ?l_BadWishes ?c_BadWishes ?k_BadWishes ?aC_BadRecipe ?xC_BadRecipe ?ex_BadRecipe ?ga_BadRecipe ?gg_BadRecipe ?kC_BadRecipe ?eC_BadRecipe ?tC_BadRecipe ?iC_BadRecipe ?aC_BadHeaps ?xC_BadHeaps ?ex_BadHeaps ?ga_BadHeaps ?gg_BadHeaps ?kC_BadHeaps ?eC_BadHeaps ?tC_BadHeaps ?iC_BadHeaps ?aC_NotPlain ?xC_NotPlain ?ex_NotPlain ?ga_NotPlain ?gg_NotPlain ?kC_NotPlain ?eC_NotPlain ?tC_NotPlain ?iC_NotPlain ?aC_NotHeld ?xC_NotHeld ?ex_NotHeld ?ga_NotHeld ?gg_NotHeld ?kC_NotHeld ?eC_NotHeld ?tC_NotHeld ?iC_NotHeld ?aC_NoMatch ?xC_NoMatch ?ex_NoMatch ?ga_NoMatch ?gg_NoMatch ?kC_NoMatch ?eC_NoMatch ?tC_NoMatch ?iC_NoMatch ?aC_BadFilling ?xC_BadFilling ?ex_BadFilling ?ga_BadFilling ?gg_BadFilling ?kC_BadFilling ?eC_BadFilling ?tC_BadFilling ?iC_BadFilling ?aC_BadGoal ?xC_BadGoal ?ex_BadGoal ?ga_BadGoal ?gg_BadGoal ?kC_BadGoal ?eC_BadGoal ?tC_BadGoal ?iC_BadGoal ?aC_BadCommand ?xC_BadCommand ?ex_BadCommand ?ga_BadCommand ?gg_BadCommand ?kC_BadCommand ?eC_BadCommand ?tC_BadCommand ?iC_BadCommand ?cc_BadAtom ?cc_BadForm ?cc_BadKey ?cc_BadText ?cc_BadHeap ?cc_BadRecipe ?cc_NoWay ?cc_BadHeaps ?cc_BadRole ?cc_NotFit ?cc_BadBook ?cc_BadSitting ?cc_NoSitting ?cc_NotPlain ?cc_NotWaiting ?cc_NotHeld ?cc_NoMatch ?cc_NotDone ?cc_BadFilling ?cc_BadWishes ?cc_BadGoal ?cc_BadCommand ?oc_BadAtom ?oc_BadForm ?oc_BadKey ?oc_BadText ?oc_BadHeap ?oc_BadRecipe ?oc_NoWay ?oc_BadHeaps ?oc_BadRole ?oc_NotFit ?oc_BadBook ?oc_BadSitting ?oc_NoSitting ?oc_NotPlain ?oc_NotWaiting ?oc_NotHeld ?oc_NoMatch ?oc_NotDone ?oc_BadFilling ?oc_BadWishes ?oc_BadGoal ?oc_BadCommand ?hnC ?htC ?aCR ?iCR ?tCR ?nd31 ?ndR ?z_ValueError ?z_abs ?z_any ?z_int ?z_isinstance ?z_len ?z_range
    (case a_law_stream => k_is)
    (case l_law_stream => k_is)
    (case c_law_stream => k_is)
    (case k_law_stream => k_is)
    (case a_law_draw => k_is)
    (case l_law_draw => k_is)
    (case c_law_draw => k_is)
    (case k_law_draw => k_is)
    (case a_law_pick => k_is)
    (case l_law_pick => k_is)
    (case c_law_pick => k_is)
    (case k_law_pick => k_is)
    (case a_law_with_text => k_is)
    (case l_law_with_text => k_is)
    (case c_law_with_text => k_is)
    (case k_law_with_text => k_is)
    (case a_law_made => k_is)
    (case l_law_made => k_is)
    (case c_law_made => k_is)
    (case k_law_made => k_is)
    (case a_law_kinds => k_is)
    (case l_law_kinds => k_is)
    (case c_law_kinds => k_is)
    (case k_law_kinds => k_is)
    (case a_law => k_is)
    (case l_law => k_is)
    (case c_law => k_is)
    (case k_law => k_is)
    (case aC_BadAtom => k_is)
    (case xC_BadAtom => k_is)
    (case sa_BadAtom => k_is)
    (case ga_BadAtom => k_is)
    (case gg_BadAtom => k_is)
    (case kC_BadAtom => k_is)
    (case eC_BadAtom => k_is)
    (case tC_BadAtom => k_is)
    (case hC_BadAtom => k_is)
    (case iC_BadAtom => k_is)
    (case sC_BadAtom => k_is)
    (case nb_BadAtom => k_is)
    (case aI_BadAtom => k_is)
    (case tI_BadAtom => k_is)
    (case l_BadAtom => k_is)
    (case c_BadAtom => k_is)
    (case k_BadAtom => k_is)
    (case aC_BadForm => k_is)
    (case xC_BadForm => k_is)
    (case sa_BadForm => k_is)
    (case ga_BadForm => k_is)
    (case gg_BadForm => k_is)
    (case kC_BadForm => k_is)
    (case eC_BadForm => k_is)
    (case tC_BadForm => k_is)
    (case hC_BadForm => k_is)
    (case iC_BadForm => k_is)
    (case sC_BadForm => k_is)
    (case nb_BadForm => k_is)
    (case aI_BadForm => k_is)
    (case tI_BadForm => k_is)
    (case l_BadForm => k_is)
    (case c_BadForm => k_is)
    (case k_BadForm => k_is)
    (case aC_BadKey => k_is)
    (case xC_BadKey => k_is)
    (case sa_BadKey => k_is)
    (case ga_BadKey => k_is)
    (case gg_BadKey => k_is)
    (case kC_BadKey => k_is)
    (case eC_BadKey => k_is)
    (case tC_BadKey => k_is)
    (case hC_BadKey => k_is)
    (case iC_BadKey => k_is)
    (case sC_BadKey => k_is)
    (case nb_BadKey => k_is)
    (case aI_BadKey => k_is)
    (case tI_BadKey => k_is)
    (case l_BadKey => k_is)
    (case c_BadKey => k_is)
    (case k_BadKey => k_is)
    (case aC_BadText => k_is)
    (case xC_BadText => k_is)
    (case sa_BadText => k_is)
    (case ga_BadText => k_is)
    (case gg_BadText => k_is)
    (case kC_BadText => k_is)
    (case eC_BadText => k_is)
    (case tC_BadText => k_is)
    (case hC_BadText => k_is)
    (case iC_BadText => k_is)
    (case sC_BadText => k_is)
    (case nb_BadText => k_is)
    (case aI_BadText => k_is)
    (case tI_BadText => k_is)
    (case l_BadText => k_is)
    (case c_BadText => k_is)
    (case k_BadText => k_is)
    (case aC_BadHeap => k_is)
    (case xC_BadHeap => k_is)
    (case sa_BadHeap => k_is)
    (case ga_BadHeap => k_is)
    (case gg_BadHeap => k_is)
    (case kC_BadHeap => k_is)
    (case eC_BadHeap => k_is)
    (case tC_BadHeap => k_is)
    (case hC_BadHeap => k_is)
    (case iC_BadHeap => k_is)
    (case sC_BadHeap => k_is)
    (case nb_BadHeap => k_is)
    (case aI_BadHeap => k_is)
    (case tI_BadHeap => k_is)
    (case l_BadHeap => k_is)
    (case c_BadHeap => k_is)
    (case k_BadHeap => k_is)
    (case aC_NoWay => k_is)
    (case xC_NoWay => k_is)
    (case sa_NoWay => k_is)
    (case ga_NoWay => k_is)
    (case gg_NoWay => k_is)
    (case kC_NoWay => k_is)
    (case eC_NoWay => k_is)
    (case tC_NoWay => k_is)
    (case hC_NoWay => k_is)
    (case iC_NoWay => k_is)
    (case sC_NoWay => k_is)
    (case nb_NoWay => k_is)
    (case aI_NoWay => k_is)
    (case tI_NoWay => k_is)
    (case l_NoWay => k_is)
    (case c_NoWay => k_is)
    (case k_NoWay => k_is)
    (case aC_BadRole => k_is)
    (case xC_BadRole => k_is)
    (case sa_BadRole => k_is)
    (case ga_BadRole => k_is)
    (case gg_BadRole => k_is)
    (case kC_BadRole => k_is)
    (case eC_BadRole => k_is)
    (case tC_BadRole => k_is)
    (case hC_BadRole => k_is)
    (case iC_BadRole => k_is)
    (case sC_BadRole => k_is)
    (case nb_BadRole => k_is)
    (case aI_BadRole => k_is)
    (case tI_BadRole => k_is)
    (case l_BadRole => k_is)
    (case c_BadRole => k_is)
    (case k_BadRole => k_is)
    (case aC_NotFit => k_is)
    (case xC_NotFit => k_is)
    (case sa_NotFit => k_is)
    (case ga_NotFit => k_is)
    (case gg_NotFit => k_is)
    (case kC_NotFit => k_is)
    (case eC_NotFit => k_is)
    (case tC_NotFit => k_is)
    (case hC_NotFit => k_is)
    (case iC_NotFit => k_is)
    (case sC_NotFit => k_is)
    (case nb_NotFit => k_is)
    (case aI_NotFit => k_is)
    (case tI_NotFit => k_is)
    (case l_NotFit => k_is)
    (case c_NotFit => k_is)
    (case k_NotFit => k_is)
    (case aC_BadBook => k_is)
    (case xC_BadBook => k_is)
    (case sa_BadBook => k_is)
    (case ga_BadBook => k_is)
    (case gg_BadBook => k_is)
    (case kC_BadBook => k_is)
    (case eC_BadBook => k_is)
    (case tC_BadBook => k_is)
    (case hC_BadBook => k_is)
    (case iC_BadBook => k_is)
    (case sC_BadBook => k_is)
    (case nb_BadBook => k_is)
    (case aI_BadBook => k_is)
    (case tI_BadBook => k_is)
    (case l_BadBook => k_is)
    (case c_BadBook => k_is)
    (case k_BadBook => k_is)
    (case aC_BadSitting => k_is)
    (case xC_BadSitting => k_is)
    (case sa_BadSitting => k_is)
    (case ga_BadSitting => k_is)
    (case gg_BadSitting => k_is)
    (case kC_BadSitting => k_is)
    (case eC_BadSitting => k_is)
    (case tC_BadSitting => k_is)
    (case hC_BadSitting => k_is)
    (case iC_BadSitting => k_is)
    (case sC_BadSitting => k_is)
    (case nb_BadSitting => k_is)
    (case aI_BadSitting => k_is)
    (case tI_BadSitting => k_is)
    (case l_BadSitting => k_is)
    (case c_BadSitting => k_is)
    (case k_BadSitting => k_is)
    (case aC_NoSitting => k_is)
    (case xC_NoSitting => k_is)
    (case sa_NoSitting => k_is)
    (case ga_NoSitting => k_is)
    (case gg_NoSitting => k_is)
    (case kC_NoSitting => k_is)
    (case eC_NoSitting => k_is)
    (case tC_NoSitting => k_is)
    (case hC_NoSitting => k_is)
    (case iC_NoSitting => k_is)
    (case sC_NoSitting => k_is)
    (case nb_NoSitting => k_is)
    (case aI_NoSitting => k_is)
    (case tI_NoSitting => k_is)
    (case l_NoSitting => k_is)
    (case c_NoSitting => k_is)
    (case k_NoSitting => k_is)
    (case aC_NotWaiting => k_is)
    (case xC_NotWaiting => k_is)
    (case sa_NotWaiting => k_is)
    (case ga_NotWaiting => k_is)
    (case gg_NotWaiting => k_is)
    (case kC_NotWaiting => k_is)
    (case eC_NotWaiting => k_is)
    (case tC_NotWaiting => k_is)
    (case hC_NotWaiting => k_is)
    (case iC_NotWaiting => k_is)
    (case sC_NotWaiting => k_is)
    (case nb_NotWaiting => k_is)
    (case aI_NotWaiting => k_is)
    (case tI_NotWaiting => k_is)
    (case l_NotWaiting => k_is)
    (case c_NotWaiting => k_is)
    (case k_NotWaiting => k_is)
    (case aC_NotDone => k_is)
    (case xC_NotDone => k_is)
    (case sa_NotDone => k_is)
    (case ga_NotDone => k_is)
    (case gg_NotDone => k_is)
    (case kC_NotDone => k_is)
    (case eC_NotDone => k_is)
    (case tC_NotDone => k_is)
    (case hC_NotDone => k_is)
    (case iC_NotDone => k_is)
    (case sC_NotDone => k_is)
    (case nb_NotDone => k_is)
    (case aI_NotDone => k_is)
    (case tI_NotDone => k_is)
    (case l_NotDone => k_is)
    (case c_NotDone => k_is)
    (case k_NotDone => k_is)
    (case aC_BadWishes => k_is)
    (case xC_BadWishes => k_is)
    (case sa_BadWishes => k_is)
    (case ga_BadWishes => k_is)
    (case gg_BadWishes => k_is)
    (case kC_BadWishes => k_is)
    (case eC_BadWishes => k_is)
    (case tC_BadWishes => k_is)
    (case hC_BadWishes => k_is)
    (case iC_BadWishes => k_is)
    (case sC_BadWishes => k_is)
    (case nb_BadWishes => k_is)
    (case aI_BadWishes => k_is)
    (case tI_BadWishes => k_is)
    (case l_BadWishes => k_is)
    (case c_BadWishes => k_is)
    (case k_BadWishes => k_is)
    (case aC_BadRecipe => k_is)
    (case xC_BadRecipe => k_is)
    (case ex_BadRecipe => k_exc)
    (case ga_BadRecipe => k_is)
    (case gg_BadRecipe => k_is)
    (case kC_BadRecipe => k_is)
    (case eC_BadRecipe => k_is)
    (case tC_BadRecipe => k_is)
    (case iC_BadRecipe => k_is)
    (case aC_BadHeaps => k_is)
    (case xC_BadHeaps => k_is)
    (case ex_BadHeaps => k_exc)
    (case ga_BadHeaps => k_is)
    (case gg_BadHeaps => k_is)
    (case kC_BadHeaps => k_is)
    (case eC_BadHeaps => k_is)
    (case tC_BadHeaps => k_is)
    (case iC_BadHeaps => k_is)
    (case aC_NotPlain => k_is)
    (case xC_NotPlain => k_is)
    (case ex_NotPlain => k_exc)
    (case ga_NotPlain => k_is)
    (case gg_NotPlain => k_is)
    (case kC_NotPlain => k_is)
    (case eC_NotPlain => k_is)
    (case tC_NotPlain => k_is)
    (case iC_NotPlain => k_is)
    (case aC_NotHeld => k_is)
    (case xC_NotHeld => k_is)
    (case ex_NotHeld => k_exc)
    (case ga_NotHeld => k_is)
    (case gg_NotHeld => k_is)
    (case kC_NotHeld => k_is)
    (case eC_NotHeld => k_is)
    (case tC_NotHeld => k_is)
    (case iC_NotHeld => k_is)
    (case aC_NoMatch => k_is)
    (case xC_NoMatch => k_is)
    (case ex_NoMatch => k_exc)
    (case ga_NoMatch => k_is)
    (case gg_NoMatch => k_is)
    (case kC_NoMatch => k_is)
    (case eC_NoMatch => k_is)
    (case tC_NoMatch => k_is)
    (case iC_NoMatch => k_is)
    (case aC_BadFilling => k_is)
    (case xC_BadFilling => k_is)
    (case ex_BadFilling => k_exc)
    (case ga_BadFilling => k_is)
    (case gg_BadFilling => k_is)
    (case kC_BadFilling => k_is)
    (case eC_BadFilling => k_is)
    (case tC_BadFilling => k_is)
    (case iC_BadFilling => k_is)
    (case aC_BadGoal => k_is)
    (case xC_BadGoal => k_is)
    (case ex_BadGoal => k_exc)
    (case ga_BadGoal => k_is)
    (case gg_BadGoal => k_is)
    (case kC_BadGoal => k_is)
    (case eC_BadGoal => k_is)
    (case tC_BadGoal => k_is)
    (case iC_BadGoal => k_is)
    (case aC_BadCommand => k_is)
    (case xC_BadCommand => k_is)
    (case ex_BadCommand => k_exc)
    (case ga_BadCommand => k_is)
    (case gg_BadCommand => k_is)
    (case kC_BadCommand => k_is)
    (case eC_BadCommand => k_is)
    (case tC_BadCommand => k_is)
    (case iC_BadCommand => k_is)
    (case cc_BadAtom => k_is)
    (case cc_BadForm => k_is)
    (case cc_BadKey => k_is)
    (case cc_BadText => k_is)
    (case cc_BadHeap => k_is)
    (case cc_BadRecipe => k_is)
    (case cc_NoWay => k_is)
    (case cc_BadHeaps => k_is)
    (case cc_BadRole => k_is)
    (case cc_NotFit => k_is)
    (case cc_BadBook => k_is)
    (case cc_BadSitting => k_is)
    (case cc_NoSitting => k_is)
    (case cc_NotPlain => k_is)
    (case cc_NotWaiting => k_is)
    (case cc_NotHeld => k_is)
    (case cc_NoMatch => k_is)
    (case cc_NotDone => k_is)
    (case cc_BadFilling => k_is)
    (case cc_BadWishes => k_is)
    (case cc_BadGoal => k_is)
    (case cc_BadCommand => k_is)
    (case oc_BadAtom => k_is)
    (case oc_BadForm => k_is)
    (case oc_BadKey => k_is)
    (case oc_BadText => k_is)
    (case oc_BadHeap => k_is)
    (case oc_BadRecipe => k_is)
    (case oc_NoWay => k_is)
    (case oc_BadHeaps => k_is)
    (case oc_BadRole => k_is)
    (case oc_NotFit => k_is)
    (case oc_BadBook => k_is)
    (case oc_BadSitting => k_is)
    (case oc_NoSitting => k_is)
    (case oc_NotPlain => k_is)
    (case oc_NotWaiting => k_is)
    (case oc_NotHeld => k_is)
    (case oc_NoMatch => k_is)
    (case oc_NotDone => k_is)
    (case oc_BadFilling => k_is)
    (case oc_BadWishes => k_is)
    (case oc_BadGoal => k_is)
    (case oc_BadCommand => k_is)
    (case hnC => k_is)
    (case htC => k_is)
    (case aCR => k_is)
    (case iCR => k_is)
    (case tCR => k_is)
    (case nd31 => decide)
    (case ndR => decide)
    (case z_ValueError => k_is)
    (case z_abs => k_is)
    (case z_any => k_is)
    (case z_int => k_is)
    (case z_isinstance => k_is)
    (case z_len => k_is)
    (case z_range => k_is)
