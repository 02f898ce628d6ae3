import PyProof.Rows.All
import Wide.All
import OpenK.AllK
import Wide.FinOn
import HandS.ForMost
import HandS.ForExc
import HandS.ExcInit
import HandS.ExcField
import HandS.IsInst
import HandS.ExcIs
import HandS.HotCalls
import HandS.StrMore
import HandS.Codes
import HandS.Wide
import HandS.Evl
import HandS.TupLe
import HandS.TupAny
import HandS.ClsMeth
import HandS.ReplaceLit
import HandS.ReplaceDef
import HandS.ReplaceList
import PySem.Challenge.RW_openroads_k08_letter_texts_refused
set_option Elab.async false
set_option linter.all false
set_option maxRecDepth 100000
set_option maxHeartbeats 4000000
namespace Op
open PySem PySem.Spec PyProof.Rows L2
def top (i : Nat) : Stmt := PySem.Challenge.pw_openroads_k08_letter_texts_refused.main.body.getD i (.Pass ⟨0, 0, 0, 0⟩)
abbrev s_law_stream : Stmt := (top 33)
abbrev N_law_stream : List Str := ["_law_script", "_law_k", "_law_cell"]
abbrev p_law_stream : List Str := ["_law_script", "_law_k"]
theorem sc_law_stream : FnScope N_law_stream p_law_stream (defScope s_law_stream) := ⟨rfl, rfl, rfl, by decide +kernel, rfl, by decide +kernel, by decide +kernel⟩
abbrev s_law_draw : Stmt := (top 34)
abbrev N_law_draw : List Str := ["_law_stream_here", "_law_many", "_law_digit", "_law_spread"]
abbrev p_law_draw : List Str := ["_law_stream_here", "_law_many"]
theorem sc_law_draw : FnScope N_law_draw p_law_draw (defScope s_law_draw) := ⟨rfl, rfl, rfl, by decide +kernel, rfl, by decide +kernel, by decide +kernel⟩
abbrev s_law_pick : Stmt := (top 35)
abbrev N_law_pick : List Str := ["_law_stream_here", "_law_things"]
abbrev p_law_pick : List Str := ["_law_stream_here", "_law_things"]
theorem sc_law_pick : FnScope N_law_pick p_law_pick (defScope s_law_pick) := ⟨rfl, rfl, rfl, by decide +kernel, rfl, by decide +kernel, by decide +kernel⟩
abbrev s_law_word : Stmt := (top 36)
abbrev N_law_word : List Str := ["_law_stream_here", "_law_size", "_law_k"]
abbrev p_law_word : List Str := ["_law_stream_here"]
theorem sc_law_word : FnScope N_law_word p_law_word (defScope s_law_word) := ⟨rfl, rfl, rfl, by decide +kernel, rfl, by decide +kernel, by decide +kernel⟩
abbrev s_law_name : Stmt := (top 37)
abbrev N_law_name : List Str := ["_law_stream_here", "_law_size", "_law_many", "_law_letters", "_law_k"]
abbrev p_law_name : List Str := ["_law_stream_here"]
theorem sc_law_name : FnScope N_law_name p_law_name (defScope s_law_name) := ⟨rfl, rfl, rfl, by decide +kernel, rfl, by decide +kernel, by decide +kernel⟩
abbrev s_made_of : Stmt := (top 6)
abbrev N_made_of : List Str := ["text", "signs", "sign"]
abbrev p_made_of : List Str := ["text", "signs"]
theorem sc_made_of : FnScope N_made_of p_made_of (defScope s_made_of) := ⟨rfl, rfl, rfl, by decide +kernel, rfl, by decide +kernel, by decide +kernel⟩
abbrev s_is_word : Stmt := (top 7)
abbrev N_is_word : List Str := ["text"]
abbrev p_is_word : List Str := ["text"]
theorem sc_is_word : FnScope N_is_word p_is_word (defScope s_is_word) := ⟨rfl, rfl, rfl, by decide +kernel, rfl, by decide +kernel, by decide +kernel⟩
abbrev s_is_name : Stmt := (top 8)
abbrev N_is_name : List Str := ["text", "capitals"]
abbrev p_is_name : List Str := ["text"]
theorem sc_is_name : FnScope N_is_name p_is_name (defScope s_is_name) := ⟨rfl, rfl, rfl, by decide +kernel, rfl, by decide +kernel, by decide +kernel⟩
abbrev s_is_unknown : Stmt := (top 9)
abbrev N_is_unknown : List Str := ["text"]
abbrev p_is_unknown : List Str := ["text"]
theorem sc_is_unknown : FnScope N_is_unknown p_is_unknown (defScope s_is_unknown) := ⟨rfl, rfl, rfl, by decide +kernel, rfl, by decide +kernel, by decide +kernel⟩
abbrev s_atom_form : Stmt := (top 11)
abbrev N_atom_form : List Str := ["text"]
abbrev p_atom_form : List Str := ["text"]
theorem sc_atom_form : FnScope N_atom_form p_atom_form (defScope s_atom_form) := ⟨rfl, rfl, rfl, by decide +kernel, rfl, by decide +kernel, by decide +kernel⟩
abbrev s_atom_text : Stmt := (top 12)
abbrev N_atom_text : List Str := ["form"]
abbrev p_atom_text : List Str := ["form"]
theorem sc_atom_text : FnScope N_atom_text p_atom_text (defScope s_atom_text) := ⟨rfl, rfl, rfl, by decide +kernel, rfl, by decide +kernel, by decide +kernel⟩
abbrev s_form_text : Stmt := (top 27)
abbrev N_form_text : List Str := ["form", "pieces", "left", "part"]
abbrev p_form_text : List Str := ["form"]
theorem sc_form_text : FnScope N_form_text p_form_text (defScope s_form_text) := ⟨rfl, rfl, rfl, by decide +kernel, rfl, by decide +kernel, by decide +kernel⟩
abbrev s_Letter___init__ : Stmt := (inClass (top 31) 0)
abbrev N_Letter___init__ : List Str := ["self", "atom", "shape"]
abbrev p_Letter___init__ : List Str := ["self", "atom"]
theorem sc_Letter___init__ : FnScope N_Letter___init__ p_Letter___init__ (defScope s_Letter___init__) := ⟨rfl, rfl, rfl, by decide +kernel, rfl, by decide +kernel, by decide +kernel⟩
abbrev s_Letter_form : Stmt := (inClass (top 31) 3)
abbrev N_Letter_form : List Str := ["self"]
abbrev p_Letter_form : List Str := ["self"]
theorem sc_Letter_form : FnScope N_Letter_form p_Letter_form (defScope s_Letter_form) := ⟨rfl, rfl, rfl, by decide +kernel, rfl, by decide +kernel, by decide +kernel⟩
abbrev s_Letter_written : Stmt := (inClass (top 31) 4)
abbrev N_Letter_written : List Str := ["self"]
abbrev p_Letter_written : List Str := ["self"]
theorem sc_Letter_written : FnScope N_Letter_written p_Letter_written (defScope s_Letter_written) := ⟨rfl, rfl, rfl, by decide +kernel, rfl, by decide +kernel, by decide +kernel⟩
abbrev s_Letter___add__ : Stmt := (inClass (top 31) 8)
abbrev N_Letter___add__ : List Str := ["self", "other"]
abbrev p_Letter___add__ : List Str := ["self", "other"]
theorem sc_Letter___add__ : FnScope N_Letter___add__ p_Letter___add__ (defScope s_Letter___add__) := ⟨rfl, rfl, rfl, by decide +kernel, rfl, by decide +kernel, by decide +kernel⟩
abbrev s_Letter___mul__ : Stmt := (inClass (top 31) 9)
abbrev N_Letter___mul__ : List Str := ["self", "other"]
abbrev p_Letter___mul__ : List Str := ["self", "other"]
theorem sc_Letter___mul__ : FnScope N_Letter___mul__ p_Letter___mul__ (defScope s_Letter___mul__) := ⟨rfl, rfl, rfl, by decide +kernel, rfl, by decide +kernel, by decide +kernel⟩
abbrev s_Letter___xor__ : Stmt := (inClass (top 31) 10)
abbrev N_Letter___xor__ : List Str := ["self", "other"]
abbrev p_Letter___xor__ : List Str := ["self", "other"]
theorem sc_Letter___xor__ : FnScope N_Letter___xor__ p_Letter___xor__ (defScope s_Letter___xor__) := ⟨rfl, rfl, rfl, by decide +kernel, rfl, by decide +kernel, by decide +kernel⟩
abbrev s_Letter___invert__ : Stmt := (inClass (top 31) 11)
abbrev N_Letter___invert__ : List Str := ["self"]
abbrev p_Letter___invert__ : List Str := ["self"]
theorem sc_Letter___invert__ : FnScope N_Letter___invert__ p_Letter___invert__ (defScope s_Letter___invert__) := ⟨rfl, rfl, rfl, by decide +kernel, rfl, by decide +kernel, by decide +kernel⟩
abbrev s_Letter___pos__ : Stmt := (inClass (top 31) 12)
abbrev N_Letter___pos__ : List Str := ["self"]
abbrev p_Letter___pos__ : List Str := ["self"]
theorem sc_Letter___pos__ : FnScope N_Letter___pos__ p_Letter___pos__ (defScope s_Letter___pos__) := ⟨rfl, rfl, rfl, by decide +kernel, rfl, by decide +kernel, by decide +kernel⟩
abbrev s_Letter___neg__ : Stmt := (inClass (top 31) 13)
abbrev N_Letter___neg__ : List Str := ["self"]
abbrev p_Letter___neg__ : List Str := ["self"]
theorem sc_Letter___neg__ : FnScope N_Letter___neg__ p_Letter___neg__ (defScope s_Letter___neg__) := ⟨rfl, rfl, rfl, by decide +kernel, rfl, by decide +kernel, by decide +kernel⟩
abbrev s_law_atom : Stmt := (top 38)
abbrev N_law_atom : List Str := ["_law_stream_here", "_law_unknowns", "_law_way"]
abbrev p_law_atom : List Str := ["_law_stream_here", "_law_unknowns"]
theorem sc_law_atom : FnScope N_law_atom p_law_atom (defScope s_law_atom) := ⟨rfl, rfl, rfl, by decide +kernel, rfl, by decide +kernel, by decide +kernel⟩
abbrev s_law_form : Stmt := (top 39)
abbrev N_law_form : List Str := ["_law_stream_here", "_law_unknowns", "_law_deep", "_law_way", "_law_one", "_law_other"]
abbrev p_law_form : List Str := ["_law_stream_here", "_law_unknowns", "_law_deep"]
theorem sc_law_form : FnScope N_law_form p_law_form (defScope s_law_form) := ⟨rfl, rfl, rfl, by decide +kernel, rfl, by decide +kernel, by decide +kernel⟩
abbrev s_is_atom : Stmt := (top 10)
abbrev N_is_atom : List Str := ["kind", "text"]
abbrev p_is_atom : List Str := ["kind", "text"]
theorem sc_is_atom : FnScope N_is_atom p_is_atom (defScope s_is_atom) := ⟨rfl, rfl, rfl, by decide +kernel, rfl, by decide +kernel, by decide +kernel⟩
abbrev s_stands_alone : Stmt := (top 22)
abbrev N_stands_alone : List Str := ["part", "kind"]
abbrev p_stands_alone : List Str := ["part"]
theorem sc_stands_alone : FnScope N_stands_alone p_stands_alone (defScope s_stands_alone) := ⟨rfl, rfl, rfl, by decide +kernel, rfl, by decide +kernel, by decide +kernel⟩
abbrev s_first_fault : Stmt := (top 23)
abbrev N_first_fault : List Str := ["thing", "left", "path", "part", "is_behind", "at"]
abbrev p_first_fault : List Str := ["thing"]
theorem sc_first_fault : FnScope N_first_fault p_first_fault (defScope s_first_fault) := ⟨rfl, rfl, rfl, by decide +kernel, rfl, by decide +kernel, by decide +kernel⟩
abbrev s_law_kind : Stmt := (top 41)
abbrev N_law_kind : List Str := ["_law_text_here", "_law_count", "_law_sign"]
abbrev p_law_kind : List Str := ["_law_text_here"]
theorem sc_law_kind : FnScope N_law_kind p_law_kind (defScope s_law_kind) := ⟨rfl, rfl, rfl, by decide +kernel, rfl, by decide +kernel, by decide +kernel⟩
abbrev s_tokens : Stmt := (top 28)
abbrev N_tokens : List Str := ["text", "parted"]
abbrev p_tokens : List Str := ["text"]
theorem sc_tokens : FnScope N_tokens p_tokens (defScope s_tokens) := ⟨rfl, rfl, rfl, by decide +kernel, rfl, by decide +kernel, by decide +kernel⟩
abbrev s_text_form : Stmt := (top 29)
abbrev N_text_form : List Str := ["text", "frames", "is_wanted", "token", "atom", "ended"]
abbrev p_text_form : List Str := ["text"]
theorem sc_text_form : FnScope N_text_form p_text_form (defScope s_text_form) := ⟨rfl, rfl, rfl, by decide +kernel, rfl, by decide +kernel, by decide +kernel⟩
abbrev s_law_text : Stmt := (top 40)
abbrev N_law_text : List Str := ["_law_form_here", "_law_part"]
abbrev p_law_text : List Str := ["_law_form_here"]
theorem sc_law_text : FnScope N_law_text p_law_text (defScope s_law_text) := ⟨rfl, rfl, rfl, by decide +kernel, rfl, by decide +kernel, by decide +kernel⟩
abbrev s_law_read_at : Stmt := (top 42)
abbrev N_law_read_at : List Str := ["_law_text_here", "_law_at", "_law_end", "_law_word_here", "_law_size", "_law_parts", "_law_k", "_law_part", "_law_gap"]
abbrev p_law_read_at : List Str := ["_law_text_here", "_law_at"]
theorem sc_law_read_at : FnScope N_law_read_at p_law_read_at (defScope s_law_read_at) := ⟨rfl, rfl, rfl, by decide +kernel, rfl, by decide +kernel, by decide +kernel⟩
abbrev s_law_read : Stmt := (top 43)
abbrev N_law_read : List Str := ["_law_text_here", "_law_form_here", "_law_end"]
abbrev p_law_read : List Str := ["_law_text_here"]
theorem sc_law_read : FnScope N_law_read p_law_read (defScope s_law_read) := ⟨rfl, rfl, rfl, by decide +kernel, rfl, by decide +kernel, by decide +kernel⟩
abbrev s_Letter_read : Stmt := (inClass (top 31) 2)
abbrev N_Letter_read : List Str := ["text", "form"]
abbrev p_Letter_read : List Str := ["text"]
theorem sc_Letter_read : FnScope N_Letter_read p_Letter_read (defScope s_Letter_read) := ⟨rfl, rfl, rfl, by decide +kernel, rfl, by decide +kernel, by decide +kernel⟩
abbrev s_law_spoilt : Stmt := (top 44)
abbrev N_law_spoilt : List Str := ["_law_stream_here", "_law_text_here", "_law_at", "_law_sign", "_law_way", "_law_some"]
abbrev p_law_spoilt : List Str := ["_law_stream_here", "_law_text_here"]
theorem sc_law_spoilt : FnScope N_law_spoilt p_law_spoilt (defScope s_law_spoilt) := ⟨rfl, rfl, rfl, by decide +kernel, rfl, by decide +kernel, by decide +kernel⟩
abbrev s_BadText___init__ : Stmt := (inClass (top 18) 0)
abbrev N_BadText___init__ : List Str := ["self", "line"]
abbrev p_BadText___init__ : List Str := ["self", "line"]
theorem sc_BadText___init__ : FnScope N_BadText___init__ p_BadText___init__ (defScope s_BadText___init__) := ⟨rfl, rfl, rfl, by decide +kernel, rfl, by decide +kernel, by decide +kernel⟩
abbrev s_BadAtom___init__ : Stmt := (inClass (top 15) 0)
abbrev N_BadAtom___init__ : List Str := ["self", "text"]
abbrev p_BadAtom___init__ : List Str := ["self", "text"]
theorem sc_BadAtom___init__ : FnScope N_BadAtom___init__ p_BadAtom___init__ (defScope s_BadAtom___init__) := ⟨rfl, rfl, rfl, by decide +kernel, rfl, by decide +kernel, by decide +kernel⟩
abbrev s_law_told : Stmt := (top 45)
abbrev N_law_told : List Str := ["_law_text_here", "e"]
abbrev p_law_told : List Str := ["_law_text_here"]
theorem sc_law_told : FnScope N_law_told p_law_told (defScope s_law_told) := ⟨rfl, rfl, rfl, by decide +kernel, rfl, by decide +kernel, by decide +kernel⟩
abbrev s_law : Stmt := (top 46)
abbrev N_law : List Str := ["_law_script", "_law_k", "_law_stream_here", "_law_text_here", "_law_turn", "_law_form_here"]
abbrev p_law : List Str := ["_law_script"]
theorem sc_law : FnScope N_law p_law (defScope s_law) := ⟨rfl, rfl, rfl, by decide +kernel, rfl, by decide +kernel, by decide +kernel⟩
/-- what the top leaves of the built-in names and of its constants -/
structure Bl (K : PySem.W.Frag) (mg : Str → Option Value) : Prop where
  b_abs : mg "abs" = none
  b_all : mg "all" = none
  b_int : mg "int" = none
  b_isinstance : mg "isinstance" = none
  b_len : mg "len" = none
  b_list : mg "list" = none
  b_max : mg "max" = none
  b_range : mg "range" = none
  b_str : mg "str" = none
  b_tuple : mg "tuple" = none
  c_SMALL : ∃ u, mg "SMALL" = some u ∧ RelV (.str "abcdefghijklmnopqrstuvwxyz") u
  c_CAPITALS : ∃ u, mg "CAPITALS" = some u ∧ RelV (.str "ABCDEFGHIJKLMNOPQRSTUVWXYZ") u
  c_DIGITS : ∃ u, mg "DIGITS" = some u ∧ RelV (.str "0123456789") u
  t_ATOMS : ∃ a, mg "ATOMS" = some (.ref a) ∧ ∀ H : Hp, SqT K H a [.str "word", .str "name", .str "unknown"]
  t_KEYS : ∃ a, mg "KEYS" = some (.ref a) ∧ ∀ H : Hp, SqT K H a [.str "open", .str "own"]
end Op
namespace Op
open PySem PySem.Spec PyProof.Rows L2
/-! ## defs of the module, and how they are called -/
/-- a def of the module, under its name -/
structure Df (K : PySem.W.Frag) (mg : Str → Option Value) (x : Str) (st : Stmt) (ps : List Str) : Prop where
  ex : ∃ (f : Addr) (fd : FuncData), Fun K x x st f fd ∧ mg x = some (.ref f) ∧ Binds K fd ps []
/-- a method of the class at C -/
structure Dm (K : PySem.W.Frag) (C : Addr) (m qual : Str) (st : Stmt) (ps : List Str) : Prop where
  ex : ∃ (f : Addr) (fd : FuncData), Fun K m qual st f fd ∧ Meth K C m f ∧ Binds K fd ps []
/-- a def that keeps sp -/
structure Ca (P : Program) (w : World) (K : PySem.W.Frag) (mg : Str → Option Value) (base : Heap) (k : Nat) (x : Str) (sp : Sp) : Prop where
  ex : ∃ (f : Addr) (fd : FuncData) (ps : List Str), FnOk P w K mg base (L2.CX P w) k f fd ps sp ∧ mg x = some (.ref f) ∧ PySem.W.keepIn K (.ref f) = true ∧ Binds K fd ps []
structure Cm (P : Program) (w : World) (K : PySem.W.Frag) (mg : Str → Option Value) (base : Heap) (k : Nat) (C : Addr) (m : Str) (sp : Sp) : Prop where
  ex : ∃ (f : Addr) (fd : FuncData) (ps : List Str), FnOk P w K mg base (L2.CX P w) k f fd ps sp ∧ Meth K C m f ∧ Binds K fd ps []
section
variable {P : Program} {w : World} {K : PySem.W.Frag} {mg : Str → Option Value} {base : Heap}
/-- the body of a def that raises nothing -/
abbrev BodyN (P : Program) (w : World) (K : PySem.W.Frag) (mg : Str → Option Value) (base : Heap) (N : List Str) (qual : Str) (st : Stmt) (k : Nat) (sp : Sp) : Prop :=
  ∀ (f : Addr) (cdv : Value) (A : Around) (outer : List Env) (s : Shared) (H : Hp) (vs : List V) (Q : VK) (E : XK), Room k (A.deeper (envOfC qual (defScope st) s.heap.objs.size f cdv)) → sp vs H Q E →
      ∃ t, PSs (cxOf (L2.CX P w) P w K mg base N qual (defScope st) f cdv A outer s H E).nox (defBody st) t ∧ t { nx := fun _ H' => Q .non H', rt := Q } (start N vs) H
/-- .. of one that may raise -/
abbrev BodyX (P : Program) (w : World) (K : PySem.W.Frag) (mg : Str → Option Value) (base : Heap) (N : List Str) (qual : Str) (st : Stmt) (k : Nat) (sp : Sp) : Prop :=
  ∀ (f : Addr) (cdv : Value) (A : Around) (outer : List Env) (s : Shared) (H : Hp) (vs : List V) (Q : VK) (E : XK), Room k (A.deeper (envOfC qual (defScope st) s.heap.objs.size f cdv)) → sp vs H Q E →
      ∃ t, PSs (cxOf (L2.CX P w) P w K mg base N qual (defScope st) f cdv A outer s H E) (defBody st) t ∧ t { nx := fun _ H' => Q .non H', rt := Q } (start N vs) H
theorem fnX {x qual : Str} {st : Stmt} {f : Addr} {fd : FuncData} {N ps : List Str} {k : Nat} {sp : Sp} (F : Fun K x qual st f fd) (S : FnScope N ps (defScope st)) (len : ∀ vs H Q E, sp vs H Q E → vs.length = ps.length)
    (hb : BodyX P w K mg base N qual st k sp) : FnOk P w K mg base (L2.CX P w) (k + 1) f fd ps sp := by
  obtain ⟨oc, od, kV, doc, pm, an, cdv, ct, osl, rfl, lk, hcd⟩ := F.ex
  exact fn_of lk hcd S len fun A outer s H vs Q E hr hsp => hb f cdv A outer s H vs Q E hr hsp
theorem BodyN.x {N : List Str} {qual : Str} {st : Stmt} {k : Nat} {sp : Sp} (h : BodyN P w K mg base N qual st k sp) : BodyX P w K mg base N qual st k sp := fun f cdv A outer s H vs Q E hr hsp => by
  obtain ⟨t, p, q⟩ := h f cdv A outer s H vs Q E hr hsp
  exact ⟨t, p.nox, q⟩
theorem ca_x {x : Str} {st : Stmt} {N ps : List Str} {k : Nat} {sp : Sp} (D : Df K mg x st ps) (S : FnScope N ps (defScope st)) (len : ∀ vs H Q E, sp vs H Q E → vs.length = ps.length)
    (hb : BodyX P w K mg base N x st k sp) : Ca P w K mg base (k + 1) x sp := by
  obtain ⟨f, fd, F, hm, b⟩ := D.ex
  exact ⟨f, fd, ps, fnX F S len hb, hm, F.kp, b⟩
theorem ca_n {x : Str} {st : Stmt} {N ps : List Str} {k : Nat} {sp : Sp} (D : Df K mg x st ps) (S : FnScope N ps (defScope st)) (len : ∀ vs H Q E, sp vs H Q E → vs.length = ps.length)
    (hb : BodyN P w K mg base N x st k sp) : Ca P w K mg base (k + 1) x sp := ca_x D S len hb.x
theorem cm_x {C : Addr} {m qual : Str} {st : Stmt} {N ps : List Str} {k : Nat} {sp : Sp} (D : Dm K C m qual st ps) (S : FnScope N ps (defScope st)) (len : ∀ vs H Q E, sp vs H Q E → vs.length = ps.length)
    (hb : BodyX P w K mg base N qual st k sp) : Cm P w K mg base (k + 1) C m sp := by
  obtain ⟨f, fd, F, hm, b⟩ := D.ex
  exact ⟨f, fd, ps, fnX F S len hb, hm, b⟩
theorem cm_n {C : Addr} {m qual : Str} {st : Stmt} {N ps : List Str} {k : Nat} {sp : Sp} (D : Dm K C m qual st ps) (S : FnScope N ps (defScope st)) (len : ∀ vs H Q E, sp vs H Q E → vs.length = ps.length)
    (hb : BodyN P w K mg base N qual st k sp) : Cm P w K mg base (k + 1) C m sp := cm_x D S len hb.x
end
section
variable {X : Cx} {k j : Nat} {C : Addr} {x m : Str} {sp : Sp} {p pos apos : Pos} {e o : Expr} {es : List Expr} {ta : TE} {t : TA}
/-- f(..), nothing raised -/
def tCa (sp : Sp) (t : TA) : TE := fun σ H Q => t σ H fun vs H1 => sp vs H1 Q E0
theorem pe_ca (c : Ca X.prog X.w X.K X.mg X.base k x sp) (hr : Room j X.A) (hk : k ≤ j) (hg : Gl X x) (ha : PA X (e :: es) t)
    (hdb : (x == ("__debug__" : Str)) = false := by decide) (he : starEach (e :: es) X.env = (false, eval e X.env) :: starEach es X.env := by rfl) (hpl : (backTo pos (starEach es X.env)).any (·.1) = false := by rfl) :
    PE X (.Call (.Name x p) (e :: es) [] pos) (tCa sp t) := by
  obtain ⟨f, fd, ps, F, hm, kp, b⟩ := c.ex
  have h := pe_call (p := p) (pos := pos) F (hr.mono hk) hg hm kp b .nil passL ha hdb he hpl
  have q : tCall sp [] E0 t = tCa sp t := by
    funext σ H Q
    show (t σ H fun vs H1 => sp (vs ++ []) H1 Q E0) = t σ H fun vs H1 => sp vs H1 Q E0
    congr 1
    funext vs H1
    rw [List.append_nil]
  rw [← q]
  exact h
theorem pe_ca0 (c : Ca X.prog X.w X.K X.mg X.base k x sp) (hr : Room j X.A) (hk : k ≤ j) (hg : Gl X x)
    (hdb : (x == ("__debug__" : Str)) = false := by decide) :
    PE X (.Call (.Name x p) [] [] pos) (tCa sp tNil) := by
  obtain ⟨f, fd, ps, F, hm, kp, b⟩ := c.ex
  exact pe_call0 (p := p) (pos := pos) F (hr.mono hk) hg hm kp b .nil passL hdb
end
/-! ## heaps: all but one object stay -/
/-- all that is tracked stays, but what stands at a -/
def But (a : Addr) (H H' : Hp) : Prop := ∀ b o, b ≠ a → H b = some o → H' b = some o
theorem But.refl {a : Addr} (H : Hp) : But a H H := fun _ _ _ h => h
theorem But.trans {a : Addr} {H H1 H2 : Hp} (x : But a H H1) (y : But a H1 H2) : But a H H2 := fun b o n h => y b o n (x b o n h)
theorem But.of {a : Addr} {H H' : Hp} (x : Same H H') : But a H H' := fun b o _ h => x b o h
theorem But.upd {a : Addr} {H : Hp} {o : HO} : But a H (upd H a o) := fun b u n h => by rw [upd_ne n]; exact h
theorem Same.upd {a : Addr} {H : Hp} {o : HO} (h : H a = none) : Same H (upd H a o) := fun b u e => by rw [upd_ne (ne_of_none e h)]; exact e
theorem But.same {a : Addr} {H H' : Hp} {o : HO} (x : But a H H') (h : H a = some o) (h' : H' a = some o) : Same H H' := fun b u e => by
  by_cases q : b = a
  · rw [q] at e ⊢
    rw [h] at e
    cases e
    exact h'
  · exact x b u q e
theorem But.none {a p : Addr} {H H' : Hp} (x : But a H H') (hp : H' p = Option.none) (n : p ≠ a) : H p = Option.none := by
  cases q : H p with
  | none => rfl
  | some o =>
    rw [x p o n q] at hp
    cases hp
end Op

namespace Op
open PySem PySem.Spec PyProof.Rows L2
/-! ## readings answered from the left, one rule a construct; walk_at "go" tries them -/
/-- named readings -/
def rLenQ (K : PySem.W.Frag) : List V → Hp → VK → Prop := fun xs H Q => ∃ p ys, xs = [.ref p] ∧ (SqL K H p ys ∨ SqT K H p ys) ∧ Q (.int ys.length) H
theorem cq_len {X : Cx} : CallR X (.builtin "len") (rLenQ X.K) := call_len_seq
def rLenS : List V → Hp → VK → Prop := fun xs H Q => ∃ z, xs = [.str z] ∧ z.length ≤ sizeLine ∧ Q (.int z.length) H
theorem cq_lens {X : Cx} : CallR X (.builtin "len") rLenS := call_len_str
def rAbs : List V → Hp → VK → Prop := fun xs H Q => ∃ i, xs = [.int i] ∧ Q (.int (if i < 0 then -i else i)) H
theorem cq_abs {X : Cx} : CallR X (.builtin "abs") rAbs := call_abs
def rInt1 : List V → Hp → VK → Prop := fun xs H Q => (∃ i, xs = [.int i] ∧ Q (.int i) H) ∨ ∃ k, xs = [.bl k] ∧ Q (.int (if k = true then 1 else 0)) H
theorem cq_int {X : Cx} : CallR X (.type "int") rInt1 := call_int1
def rCatS : R2 := fun x y H Q => ∃ i j, x = .str i ∧ y = .str j ∧ i.length + j.length ≤ sizeLine ∧ Q (.str (i ++ j)) H
theorem oq_adds {X : Cx} : OpR X (binaryOp .Add) rCatS := op_add_str
def rInSg : R2 := fun x y H Q => ∃ (c : Nat) (z : Str), x = .str ⟨#[c]⟩ ∧ y = .str z ∧ Q (.bl (decide (c ∈ z.cps.toList))) H
theorem oq_insg {X : Cx} : OpR X (compareOp .In) rInSg := op_in_sign
def rNinSg : R2 := fun x y H Q => ∃ (c : Nat) (z : Str), x = .str ⟨#[c]⟩ ∧ y = .str z ∧ Q (.bl (!decide (c ∈ z.cps.toList))) H
theorem oq_ninsg {X : Cx} : OpR X (compareOp .NotIn) rNinSg := op_notIn_sign
def rIsNn : R2 := fun x y H Q => y = .non ∧ Q (.bl (decide (x = .non))) H
theorem oq_isN {X : Cx} : OpR X (compareOp .Is) rIsNn := op_isN
def rNotNn : R2 := fun x y H Q => y = .non ∧ Q (.bl (!decide (x = .non))) H
theorem oq_notN {X : Cx} : OpR X (compareOp .IsNot) rNotNn := op_notN
def rJoin (K : PySem.W.Frag) : V → List V → Hp → VK → Prop := fun x xs H Q => ∃ a p, ∃ ys : List Str, x = .str a ∧ xs = [.ref p] ∧ (SqL K H p (ys.map V.str) ∨ SqT K H p (ys.map V.str)) ∧ (ys.map (·.length)).sum + ys.length * a.length ≤ 16777216 ∧ Q (.str (Txt.join a ys)) H
theorem pq_join {X : Cx} {o e : Expr} {to te : TE} {apos pos : Pos} (ho : PE X o to) (he : PE X e te) (hs : starEach [e] X.env = [(false, eval e X.env)] := by rfl) (hbase : attributeBase o "join" X.env (eval o X.env) = eval o X.env := by rfl) (hline : (apos.endLine == pos.line) = true := by rfl) :
    PE X (.Call (.Attribute o "join" apos) [e] [] pos) (tM1 (rJoin X.K) to te) := pe_join ho he hs hbase hline
def rStarts : V → List V → Hp → VK → Prop := fun x xs H Q => ∃ a b, x = .str a ∧ xs = [.str b] ∧ Q (.bl (Txt.startswith a b)) H
theorem mq_starts {X : Cx} : MtR X "str.startswith" rStarts := mt_startswith
def rRstrip : V → List V → Hp → VK → Prop := fun x xs H Q => ∃ a b, x = .str a ∧ xs = [.str b] ∧ a.length ≤ sizeLine ∧ Q (.str (Txt.rstripChars a b)) H
theorem mq_rstrip {X : Cx} : MtR X "str.rstrip" rRstrip := mt_rstripChars
def tTruQ (K : PySem.W.Frag) (ta : TE) : TT := fun σ H Q => ta σ H fun x H' => ∃ k, TruV K x H' k ∧ Q k H'
def rTru (K : PySem.W.Frag) (x : V) (H : Hp) (Q : Bool → Hp → Prop) : Prop := ∃ k, TruV K x H k ∧ Q k H
theorem pq_truth {X : Cx} {a : Expr} {ta : TE} (ha : PE X a ta) (he : ∀ whole, isTrue a X.env whole = (do let v ← whole; standAt a.pos; holding [v] (truthy v))) : PT X a (tTruQ X.K ta) := pt_truth ha he
section
variable {K : PySem.W.Frag} {σ : L2.St} {H : Hp} {i : Nat} {v x y z : V} {ta tb te tc : TE} {b : Bool} {a C dx : Addr} {fs : List (Str × V)} {f : Str} {t u c : TT} {Q : VK} {R : Bool → Hp → Prop} {ts us : TS} {D : Ends} {g : TG} {r : R2} {tl tr : TA} {L : List V → Hp → Prop} {S : L2.St → Hp → Prop}
theorem g_var (h : σ[i]? = some (some v)) (k : Q v H) : tVar i σ H Q := ⟨v, h, k⟩
theorem g_c (k : Q v H) : tC v σ H Q := k
theorem g_op (k : ta σ H fun x H1 => tb σ H1 fun y H2 => r x y H2 Q) : tOp r ta tb σ H Q := k
theorem g_un {r : V → Hp → VK → Prop} (k : ta σ H fun x H1 => r x H1 Q) : tUn r ta σ H Q := k
theorem g_if (k : t σ H fun c H1 => if c = true then ta σ H1 Q else tb σ H1 Q) : tIf t ta tb σ H Q := k
theorem g_test (k : te σ H fun x H' => ∃ k, x = .bl k ∧ R k H') : tTest te σ H R := k
theorem g_B (k : te σ H fun x H' => ∃ k, x = .bl k ∧ R k H') : tB te σ H R := k
theorem g_bl {A : Bool → Prop} (k : A b) : ∃ c, V.bl b = V.bl c ∧ A c := ⟨b, rfl, k⟩
theorem g_not (k : t σ H fun c H1 => R (!c) H1) : tNot t σ H R := k
theorem g_and (k : t σ H fun c H1 => if c = true then u σ H1 R else R false H1) : tAnd t u σ H R := k
theorem g_or (k : t σ H fun c H1 => if c = true then R true H1 else u σ H1 R) : tOr t u σ H R := k
theorem g_andV (k : ta σ H fun x H1 => ∃ c, x = .bl c ∧ if c = true then tb σ H1 Q else Q (.bl false) H1) : tAndV ta tb σ H Q := k
theorem g_orV (k : ta σ H fun x H1 => ∃ c, x = .bl c ∧ if c = true then Q (.bl true) H1 else tb σ H1 Q) : tOrV ta tb σ H Q := k
theorem g_notV (k : ta σ H fun x H1 => ∃ c, x = .bl c ∧ Q (.bl (!c)) H1) : tNotV ta σ H Q := k
theorem g_nil (k : L [] H) : tNil σ H L := k
theorem g_cons (k : ta σ H fun x H1 => tr σ H1 fun xs H2 => L (x :: xs) H2) : tCons ta tr σ H L := k
theorem g_CB {r : List V → Hp → VK → Prop} (k : tl σ H fun vs H1 => r vs H1 Q) : tCB r tl σ H Q := k
theorem g_ca {sp : Sp} (k : tl σ H fun vs H1 => sp vs H1 Q E0) : tCa sp tl σ H Q := k
theorem g_seq (k : ts { D with nx := us D } σ H) : tSeq ts us D σ H := k
theorem g_next (k : D.nx σ H) : tNext D σ H := k
theorem g_asg (k : te σ H fun x H1 => g x σ H1 D.nx) : tAsg te g D σ H := k
theorem g_name (k : S (σ.set i (some v)) H) : gName i v σ H S := k
theorem g_ret (k : te σ H D.rt) : tRet te D σ H := k
theorem g_retN (k : D.rt .non H) : tRetN D σ H := k
theorem g_drop (k : te σ H fun _ H1 => D.nx σ H1) : tDrop te D σ H := k
theorem g_ifS (k : c σ H fun b H1 => if b = true then ts D σ H1 else us D σ H1) : tIfS c ts us D σ H := k
theorem g_sub {to ti : TE} {s : TSet} (k : to σ H fun o H1 => ti σ H1 fun i H2 => s o i v H2 fun H3 => S σ H3) : gSub to ti s v σ H S := k
theorem g_I0 {f : Int → Int → V} {i j : Int} (k : Q (f i j) H) : rI0 f (.int i) (.int j) H Q := ⟨i, j, rfl, rfl, k⟩
theorem g_I {A : Int → Int → Prop} {f : Int → Int → V} {i j : Int} (h : A i j) (k : Q (f i j) H) : rI A f (.int i) (.int j) H Q := ⟨i, j, rfl, rfl, h, k⟩
theorem g_U {f : Int → V} {i : Int} (k : Q (f i) H) : rU f (.int i) H Q := ⟨i, rfl, k⟩
theorem g_eq (h : scal x y = true) (k : Q (.bl (decide (x = y))) H) : rEq x y H Q := ⟨h, k⟩
theorem g_ne (h : scal x y = true) (k : Q (.bl (!decide (x = y))) H) : rNe x y H Q := ⟨h, k⟩
theorem g_lenL {xs : List V} (h : SqL K H a xs) (k : Q (.int xs.length) H) : rLenQ K [.ref a] H Q := ⟨a, xs, rfl, .inl h, k⟩
theorem g_lenT {xs : List V} (h : SqT K H a xs) (k : Q (.int xs.length) H) : rLenQ K [.ref a] H Q := ⟨a, xs, rfl, .inr h, k⟩
theorem g_lenS {s : Str} (h : s.length ≤ sizeLine) (k : Q (.int s.length) H) : rLenS [.str s] H Q := ⟨s, rfl, h, k⟩
theorem g_abs {i : Int} (k : ∀ j : Int, 0 ≤ j → (j = i ∨ j = -i) → Q (.int j) H) : rAbs [.int i] H Q := ⟨i, rfl, k _ (by split <;> omega) (by split <;> omega)⟩
theorem g_int {i : Int} (k : Q (.int i) H) : rInt1 [.int i] H Q := .inl ⟨i, rfl, k⟩
theorem g_ixL {xs : List V} {i : Int} (h : SqL K H a xs) (ha : atI xs i = some v) (k : Q v H) : rIxL K (.ref a) (.int i) H Q := ⟨a, xs, i, v, rfl, rfl, h, ha, k⟩
theorem g_ixT {xs : List V} {i : Int} (h : SqT K H a xs) (ha : atI xs i = some v) (k : Q v H) : rIxT K (.ref a) (.int i) H Q := ⟨a, xs, i, v, rfl, rfl, h, ha, k⟩
theorem g_setL {xs : List V} {i : Int} {j : Nat} {S : Hp → Prop} (h : H a = some (.lst xs)) (hi : ixN xs.length i = some j) (k : S (L2.upd H a (.lst (xs.set j v)))) : rSetL (.ref a) (.int i) v H S := ⟨a, xs, i, j, rfl, rfl, h, hi, k⟩
theorem g_catS {s t : Str} (h : s.length + t.length ≤ sizeLine) (k : Q (.str (s ++ t)) H) : rCatS (.str s) (.str t) H Q := ⟨s, t, rfl, rfl, h, k⟩
theorem g_insg {c : Nat} {s : Str} (k : Q (.bl (decide (c ∈ s.cps.toList))) H) : rInSg (.str ⟨#[c]⟩) (.str s) H Q := ⟨c, s, rfl, rfl, k⟩
theorem g_ninsg {c : Nat} {s : Str} (k : Q (.bl (!decide (c ∈ s.cps.toList))) H) : rNinSg (.str ⟨#[c]⟩) (.str s) H Q := ⟨c, s, rfl, rfl, k⟩
theorem g_isN (k : Q (.bl (decide (x = .non))) H) : rIsNn x .non H Q := ⟨rfl, k⟩
theorem g_notN (k : Q (.bl (!decide (x = .non))) H) : rNotNn x .non H Q := ⟨rfl, k⟩
theorem g_lst {L : TA} (k : L σ H fun xs H1 => xs.length ≤ sizeLine ∧ ∀ p, H1 p = none → Q (.ref p) (L2.upd H1 p (.lst xs))) : tLst L σ H Q := k
theorem g_tup {L : TA} (k : L σ H fun xs H1 => xs.length ≤ sizeLine ∧ ∀ p, H1 p = none → Q (.ref p) (L2.upd H1 p (.tup xs))) : tTup L σ H Q := k
theorem g_app {xs : List V} (h : H a = some (.lst xs)) (hl : xs.length < sizeLine) (k : Q .non (L2.upd H a (.lst (xs ++ [y])))) : rAppend (.ref a) [y] H Q := ⟨a, xs, y, rfl, rfl, h, hl, k⟩
theorem g_pop {xs : List V} (h : H a = some (.lst (xs ++ [y]))) (k : Q y (L2.upd H a (.lst xs))) : rPop (.ref a) [] H Q :=
  ⟨a, xs ++ [y], y, rfl, rfl, h, by rw [List.length_append, List.length_singleton, Nat.add_sub_cancel, List.getElem?_append_right (Nat.le_refl _), Nat.sub_self]; rfl, by rw [List.dropLast_concat]; exact k⟩
theorem g_ext {b : Addr} {xs zs : List V} (h : H a = some (.lst xs)) (h2 : H b = some (.lst zs)) (hl : xs.length + zs.length ≤ sizeLine) (k : Q .non (L2.upd H a (.lst (xs ++ zs)))) : rExtend (.ref a) [.ref b] H Q := ⟨a, b, xs, zs, rfl, rfl, h, h2, hl, k⟩
theorem g_BM {T : String} {r : V → List V → Hp → VK → Prop} (k : ta σ H fun x H1 => tyV K T x H1 ∧ tl σ H1 fun xs H2 => r x xs H2 Q) : tBM K T r ta tl σ H Q := k
theorem g_BM0 {T : String} {r : V → List V → Hp → VK → Prop} (k : ta σ H fun x H1 => tyV K T x H1 ∧ r x [] H1 Q) : tBM0 K T r ta σ H Q := k
theorem g_M1 {r : V → List V → Hp → VK → Prop} (k : ta σ H fun x H1 => (∃ a, x = .str a) ∧ te σ H1 fun y H2 => r x [y] H2 Q) : tM1 r ta te σ H Q := k
theorem g_isS {s : Str} {A : Prop} (k : A) : (∃ a, V.str s = V.str a) ∧ A := ⟨⟨s, rfl⟩, k⟩
theorem g_tyS {s : Str} {A : Prop} (k : A) : tyV K "str" (.str s) H ∧ A := ⟨rfl, k⟩
theorem g_tyL {xs : List V} {A : Prop} (h : H a = some (.lst xs)) (k : A) : tyV K "list" (.ref a) H ∧ A := ⟨.inl ⟨rfl, xs, SqL.of h⟩, k⟩
theorem g_join {s : Str} {ys : List Str} (h : SqL K H a (ys.map V.str)) (hl : (ys.map (·.length)).sum + ys.length * s.length ≤ 16777216) (k : Q (.str (Txt.join s ys)) H) : rJoin K (.str s) [.ref a] H Q := ⟨s, a, ys, rfl, rfl, .inl h, hl, k⟩
theorem g_cat {b : Addr} {xs zs : List V} (h : H a = some (.lst xs)) (h2 : H b = some (.lst zs)) (hl : xs.length + zs.length ≤ sizeLine) (k : ∀ p, H p = none → Q (.ref p) (L2.upd H p (.lst (xs ++ zs)))) : rCat (.ref a) (.ref b) H Q := ⟨a, b, xs, zs, rfl, rfl, h, h2, hl, k⟩
theorem g_starts {s t : Str} (k : Q (.bl (Txt.startswith s t)) H) : rStarts (.str s) [.str t] H Q := ⟨s, t, rfl, rfl, k⟩
theorem g_rstrip {s t : Str} (h : s.length ≤ sizeLine) (k : Q (.str (Txt.rstripChars s t)) H) : rRstrip (.str s) [.str t] H Q := ⟨s, t, rfl, rfl, h, k⟩
theorem g_chain {r r' : R2} (k : ta σ H fun x H1 => tb σ H1 fun y H2 => r x y H2 fun z H3 => ∃ k, z = .bl k ∧ (if k = true then tc σ H3 fun w' H4 => r' y w' H4 Q else Q (.bl false) H3)) : tChain r r' ta tb tc σ H Q := k
theorem g_sl {r : V → Option Int → Option Int → Hp → VK → Prop} {lo hi : TO} (k : ta σ H fun x H1 => lo σ H1 fun l H2 => hi σ H2 fun u H3 => r x l u H3 Q) : tSl r ta lo hi σ H Q := k
theorem g_nopart {Q : Option Int → Hp → Prop} (k : Q none H) : tNoPart σ H Q := k
theorem g_part {Q : Option Int → Hp → Prop} (k : te σ H fun x H1 => ∃ i, x = .int i ∧ Q (some i) H1) : tPart te σ H Q := k
theorem g_isI {i : Int} {A : Int → Prop} (k : A i) : ∃ j, V.int i = V.int j ∧ A j := ⟨i, rfl, k⟩
theorem g_inT {xs : List V} (h : SqT K H a xs) (hx : flatV x = true) (ha : xs.all flatV = true) (k : Q (.bl (inV x xs)) H) : rIn K false x (.ref a) H Q := ⟨a, xs, rfl, .inr h, hx, ha, by rw [if_neg Bool.false_ne_true]; exact k⟩
theorem g_ninT {xs : List V} (h : SqT K H a xs) (hx : flatV x = true) (ha : xs.all flatV = true) (k : Q (.bl (!inV x xs)) H) : rIn K true x (.ref a) H Q := ⟨a, xs, rfl, .inr h, hx, ha, by rw [if_pos rfl]; exact k⟩
theorem g_inL {xs : List V} (h : SqL K H a xs) (hx : flatV x = true) (ha : xs.all flatV = true) (k : Q (.bl (inV x xs)) H) : rIn K false x (.ref a) H Q := ⟨a, xs, rfl, .inl h, hx, ha, by rw [if_neg Bool.false_ne_true]; exact k⟩
theorem g_isi {c : V} {t u : Value} {b : Bool} (hc : ClsV c u) (ht : TyX K H x t) (hk : PySem.W.kitOne K t u = some b) (k : Q (.bl b) H) : rIsi K [x, c] H Q := ⟨x, c, t, u, b, rfl, hc, ht, hk, k⟩
theorem g_tru (k : ta σ H fun x H' => rTru K x H' R) : tTruQ K ta σ H R := k
theorem g_truL {xs : List V} (h : SqL K H a xs) (k : R (!xs.isEmpty) H) : rTru K (.ref a) H R := ⟨_, .inl ⟨xs, h, rfl⟩, k⟩
theorem g_while {tb : TS} (W : Nat → L2.St → Hp → Prop) (m0 : Nat) (h0 : W m0 σ H) (hs : ∀ m σ' H', W m σ' H' → c σ' H' fun b H1 => if b = true then ∃ N : L2.St → Hp → Prop, (∀ σ' H', N σ' H' → ∃ m', m' < m ∧ W m' σ' H') ∧ tb { D with nx := N, ct := N, bk := D.nx } σ' H1 else D.nx σ' H1) : tWhile c tb D σ H := ⟨W, ⟨m0, h0⟩, hs⟩
theorem ty_l {xs : List V} (h : H a = some (.lst xs)) : tyV K "list" (.ref a) H := .inl ⟨rfl, xs, SqL.of h⟩
theorem iteD {c A B : Prop} [Decidable c] (h1 : c → A) (h2 : ¬ c → B) : if decide c = true then A else B := by
  by_cases h : c
  · rw [decide_eq_true h]; exact h1 h
  · rw [decide_eq_false h]; exact h2 h
theorem iteND {c A B : Prop} [Decidable c] (h1 : ¬ c → A) (h2 : c → B) : if (!decide c) = true then A else B := by
  by_cases h : c
  · rw [decide_eq_true h]; exact h2 h
  · rw [decide_eq_false h]; exact h1 h
theorem iteDT {c A B : Prop} [Decidable c] (h : c) (k : A) : if decide c = true then A else B := by rw [decide_eq_true h]; exact k
theorem iteDF {c A B : Prop} [Decidable c] (h : ¬ c) (k : B) : if decide c = true then A else B := by rw [decide_eq_false h]; exact k
theorem iteNT {A B : Prop} (h : B) : if (!true) = true then A else B := h
theorem iteNF {A B : Prop} (h : A) : if (!false) = true then A else B := h
theorem iteB {b : Bool} {A B : Prop} (h1 : b = true → A) (h2 : b = false → B) : if b = true then A else B := by
  cases b
  · exact h2 rfl
  · exact h1 rfl
end
/-- [e for x in range(n)]: behind the range's argument -/
def rLcR (j : Nat) (te : TE) (vs : List Nat) (σ : L2.St) (xs : List V) (H : Hp) (Q : VK) : Prop := ∃ n : Int, xs = [.int n] ∧ -(2 ^ 62) ≤ n ∧ n < 2 ^ 62 ∧ ∀ D, H D = none → ∃ W : Nat → Nat → Hp → Prop, (∃ m, W 0 m (L2.upd H D (.lst []))) ∧ ∀ i m H, W i m H →
  ((Itr 0 n.toNat).stop i H ∧ Q (.ref D) H) ∨ ((Itr 0 n.toNat).go i H ∧ ∃ Nx : Hp → Prop, (∀ H', Nx H' → ∃ m', m' < m ∧ W (i + 1) m' H') ∧ ∀ x H', (Itr 0 n.toNat).yld i H x H' → gName j x (wipe σ vs) H' fun σ2 H2 => wipe σ2 vs = wipe σ vs ∧ tYes σ2 H2 fun b H3 =>
    if b = true then te σ2 H3 fun y H4 => ∃ acc, H4 D = some (.lst acc) ∧ acc.length < sizeLine ∧ Nx (L2.upd H4 D (.lst (acc ++ [y]))) else Nx H3)
theorem g_lcR {σ : L2.St} {H : Hp} {Q : VK} {tl : TA} {te : TE} {j : Nat} {vs : List Nat} (k : tl σ H fun xs H1 => rLcR j te vs σ xs H1 Q) : tLc (iRng1 tl) (gName j) tYes te vs σ H Q := k
/-- the tuples stay -/
def Tps (H H' : Hp) : Prop := ∀ b xs, H b = some (.tup xs) → H' b = some (.tup xs)
theorem Tps.refl (H : Hp) : Tps H H := fun _ _ h => h
theorem Tps.trans {H H1 H2 : Hp} (a : Tps H H1) (b : Tps H1 H2) : Tps H H2 := fun x xs h => b x xs (a x xs h)
theorem Tps.new {H : Hp} {p : Addr} {o : HO} (h : H p = none) : Tps H (L2.upd H p o) := fun b ys e => Same.upd h b _ e
theorem Tps.lst {H : Hp} {p : Addr} {o : HO} {xs : List V} (h : H p = some (.lst xs)) : Tps H (L2.upd H p o) := fun b ys e => by
  rw [upd_ne (ne_of e h (by intro z; cases z))]
  exact e
theorem Same.mut {H H' : Hp} {p : Addr} {o : HO} (s : Same H H') (h : H p = none) : Same H (L2.upd H' p o) := fun b u e => by
  rw [upd_ne (ne_of_none e h)]
  exact s b u e
theorem Tps.same {H H' : Hp} (s : Same H H') : Tps H H' := fun b xs h => s b _ h
/-- a turn's end: the new item stands behind those so far -/
def lcPost (J : Addr → Nat → List V → Hp → Prop) (D : Addr) (i : Nat) : VK := fun y H => ∃ acc, H D = some (.lst acc) ∧ acc.length < sizeLine ∧ ∃ acc', (L2.upd H D (.lst (acc ++ [y]))) D = some (.lst acc') ∧ acc'.length = i + 1 ∧ J D (i + 1) acc' (L2.upd H D (.lst (acc ++ [y])))
theorem lcPost.of {J : Addr → Nat → List V → Hp → Prop} {D : Addr} {i : Nat} {acc : List V} {y : V} {H : Hp} (h : H D = some (.lst acc)) (hl : acc.length = i) (hi : i < 1000000) (k : J D (i + 1) (acc ++ [y]) (L2.upd H D (.lst (acc ++ [y])))) : lcPost J D i y H :=
  ⟨acc, h, by rw [sizeLine_eq]; omega, acc ++ [y], upd_same, by rw [List.length_append, hl]; rfl, k⟩
/-- the walk of rLcR: J says what the turns so far have left -/
theorem r_lcR {σ : L2.St} {H : Hp} {Q : VK} {te : TE} {j : Nat} {n : Int} {vs : List Nat} (J : Addr → Nat → List V → Hp → Prop) (hn : 0 ≤ n ∧ n < 1000000) (hw : ∀ x, wipe ((wipe σ vs).set j (some x)) vs = wipe σ vs)
    (h0 : ∀ D, H D = none → J D 0 [] (L2.upd H D (.lst [])))
    (hs : ∀ (D : Addr) (i : Nat) (acc : List V) (H2 : Hp), H D = none → (i : Int) < n → H2 D = some (.lst acc) → acc.length = i → J D i acc H2 → te ((wipe σ vs).set j (some (.int (i : Int)))) H2 (lcPost J D i))
    (hd : ∀ D acc H2, H D = none → H2 D = some (.lst acc) → (acc.length : Int) = n → J D n.toNat acc H2 → Q (.ref D) H2) : rLcR j te vs σ [.int n] H Q := by
  refine ⟨n, rfl, by omega, by omega, fun D hD => ?_⟩
  refine lc_range (lo := 0) (n := n.toNat) (fun i H2 => ∃ acc, H2 D = some (.lst acc) ∧ acc.length = i ∧ J D i acc H2) ⟨[], upd_same, rfl, h0 D hD⟩ (fun i H2 hi p => ?_) (fun H2 p => ?_)
  · obtain ⟨acc, h1, h2, h3⟩ := p
    have e0 : (0 : Int) + (i : Int) = (i : Int) := Int.zero_add _
    have r := hs D i acc H2 hD (by omega) h1 h2 h3
    rw [← e0] at r
    exact ⟨hw _, r⟩
  · obtain ⟨acc, h1, h2, h3⟩ := p
    exact hd D acc H2 hD h1 (by omega) h3
theorem len_le {cs : List Nat} (h : cs.length < 1000000) : (SX.S cs).length ≤ sizeLine := by rw [SX.S_len, sizeLine_eq]; omega
/-! ### comprehensions over the signs of a text, whose tests and items change nothing -/
def rLcS (j : Nat) (tt : TT) (te : TE) (vs : List Nat) (σ : L2.St) (v : V) (H : Hp) (Q : VK) : Prop := ∃ x : Str, v = .str x ∧ ∀ D, H D = none → ∃ W : Nat → Nat → Hp → Prop, (∃ m, W 0 m (L2.upd H D (.lst []))) ∧ ∀ i m H, W i m H →
  ((Its x).stop i H ∧ Q (.ref D) H) ∨ ((Its x).go i H ∧ ∃ Nx : Hp → Prop, (∀ H', Nx H' → ∃ m', m' < m ∧ W (i + 1) m' H') ∧ ∀ x' H', (Its x).yld i H x' H' → gName j x' (wipe σ vs) H' fun σ2 H2 => wipe σ2 vs = wipe σ vs ∧ tt σ2 H2 fun b H3 =>
    if b = true then te σ2 H3 fun y H4 => ∃ acc, H4 D = some (.lst acc) ∧ acc.length < sizeLine ∧ Nx (L2.upd H4 D (.lst (acc ++ [y]))) else Nx H3)
theorem g_lcS {σ : L2.St} {H : Hp} {Q : VK} {tl : TE} {tt : TT} {te : TE} {j : Nat} {vs : List Nat} (k : tl σ H fun v H1 => rLcS j tt te vs σ v H1 Q) : tLc (iStr tl) (gName j) tt te vs σ H Q := k
theorem r_lcS {σ : L2.St} {H : Hp} {Q : VK} {tt : TT} {te : TE} {j : Nat} {cs : List Nat} {vs : List Nat} (b : Nat → Bool) (f : Nat → V) (hn : cs.length < 1000000) (hw : ∀ x, wipe ((wipe σ vs).set j (some x)) vs = wipe σ vs)
    (ht : ∀ c H2 (R : Bool → Hp → Prop), c ∈ cs → Same H H2 → R (b c) H2 → tt ((wipe σ vs).set j (some (.str (SX.S [c])))) H2 R)
    (he : ∀ c H2 (R : VK), c ∈ cs → b c = true → Same H H2 → R (f c) H2 → te ((wipe σ vs).set j (some (.str (SX.S [c])))) H2 R)
    (k : ∀ D, H D = none → Q (.ref D) (L2.upd H D (.lst ((cs.filter b).map f)))) : rLcS j tt te vs σ (.str (SX.S cs)) H Q := by
  refine ⟨SX.S cs, rfl, fun D hD => ?_⟩
  have hsz : (SX.S cs).cps.size = cs.length := by simp [SX.S]
  refine ⟨fun i m H2 => m = cs.length - i ∧ i ≤ cs.length ∧ H2 = L2.upd H D (.lst (((cs.take i).filter b).map f)), ⟨cs.length, by simp, Nat.zero_le _, rfl⟩, ?_⟩
  rintro i m H2 ⟨rfl, hi, rfl⟩
  by_cases hlt : i < cs.length
  · refine .inr ⟨?_, fun H' => H' = L2.upd H D (.lst (((cs.take (i + 1)).filter b).map f)), fun H' e => ⟨cs.length - (i + 1), by omega, rfl, by omega, e⟩, ?_⟩
    · show i < (SX.S cs).cps.size
      rw [hsz]; exact hlt
    · rintro x' H' ⟨rfl, c, hc, rfl⟩
      have hc' : cs[i]? = some c := by
        have : (SX.S cs).cps[i]? = cs[i]? := by simp [SX.S]
        rw [← this]; exact hc
      have hget : cs[i] = c := by
        rw [List.getElem?_eq_getElem hlt] at hc'
        exact Option.some.inj hc'
      have hmem : c ∈ cs := hget ▸ List.getElem_mem hlt
      have htk : cs.take (i + 1) = cs.take i ++ [c] := by rw [List.take_succ, hc']; rfl
      have hS : Same H (L2.upd H D (.lst (((cs.take i).filter b).map f))) := Same.upd hD
      refine ⟨hw _, ?_⟩
      refine ht c _ _ hmem hS ?_
      cases hb : b c with
      | false =>
        rw [if_neg Bool.false_ne_true, htk, List.filter_append, List.filter_cons, if_neg (by rw [hb]; decide), List.filter_nil, List.append_nil]
      | true =>
        rw [if_pos rfl]
        refine he c _ _ hmem hb hS ⟨_, upd_same, ?_, ?_⟩
        · rw [List.length_map, sizeLine_eq]
          have := List.length_filter_le b (cs.take i)
          rw [List.length_take] at this
          omega
        · rw [upd_upd, htk, List.filter_append, List.filter_cons, if_pos hb, List.filter_nil, List.map_append]
          rfl
  · have e : i = cs.length := by omega
    refine .inl ⟨by show (SX.S cs).cps.size ≤ i; rw [hsz]; omega, ?_⟩
    rw [e, List.take_length]
    exact k D hD
/-- .. without a test -/
theorem r_lcS1 {σ : L2.St} {H : Hp} {Q : VK} {te : TE} {j : Nat} {cs : List Nat} {vs : List Nat} (f : Nat → V) (hn : cs.length < 1000000) (hw : ∀ x, wipe ((wipe σ vs).set j (some x)) vs = wipe σ vs)
    (he : ∀ c H2 (R : VK), c ∈ cs → Same H H2 → R (f c) H2 → te ((wipe σ vs).set j (some (.str (SX.S [c])))) H2 R)
    (k : ∀ D, H D = none → Q (.ref D) (L2.upd H D (.lst (cs.map f)))) : rLcS j tYes te vs σ (.str (SX.S cs)) H Q :=
  r_lcS (fun _ => true) f hn hw (fun c H2 R _ _ r => r) (fun c H2 R h1 _ h3 => he c H2 R h1 h3) (fun D hD => by
    have e : cs.filter (fun _ => true) = cs := List.filter_eq_self.mpr fun _ _ => rfl
    rw [e]
    exact k D hD)
def rAllQ (K : PySem.W.Frag) : List V → Hp → VK → Prop := rAll K
theorem g_all {K : PySem.W.Frag} {H : Hp} {Q : VK} {a : Addr} {bs : List Bool} (h : SqL K H a (bs.map V.bl)) (k : Q (.bl (bs.all id)) H) : rAll K [.ref a] H Q := ⟨a, bs, rfl, h, k⟩
theorem g_any {K : PySem.W.Frag} {H : Hp} {Q : VK} {a : Addr} {bs : List Bool} (h : SqL K H a (bs.map V.bl)) (k : Q (.bl (bs.any id)) H) : rAny K [.ref a] H Q := ⟨a, bs, rfl, h, k⟩
theorem g_slX {H : Hp} {Q : VK} {z : Str} {lo hi : Option Int} (h : z.length ≤ sizeLine) (k : Q (.str (Txt.slice z lo hi)) H) : C8.rSlX (.str z) lo hi H Q := ⟨z, rfl, h, k⟩
/-! ### list(text) -/
theorem vals_of_get : ∀ {xs : List V} {us : List Value}, xs.length = us.length → (∀ (j : Nat) (x : V) (u : Value), xs[j]? = some x → us[j]? = some u → RelV x u) → Vals xs us
  | [], [], _, _ => .nil
  | [], _ :: _, h, _ => by simp at h
  | _ :: _, [], h, _ => by simp at h
  | x :: xs, u :: us, h, k => .cons (k 0 x u rfl rfl) (vals_of_get (by simpa using h) fun j y z h1 h2 => k (j + 1) y z (by simpa using h1) (by simpa using h2))
def rListS : List V → Hp → VK → Prop := fun xs H Q => ∃ cs : List Nat, xs = [.str (SX.S cs)] ∧ cs.length ≤ 1000000 ∧ ∀ l, H l = none → Q (.ref l) (L2.upd H l (.lst (cs.map fun c => .str (SX.S [c]))))
theorem cq_list_str {X : Cx} (hc : X.calm = true) : CallR X (.type "list") rListS := by
  intro pins s σ H xs us Q I r h
  obtain ⟨cs, rfl, hl, q⟩ := h
  obtain ⟨u, rfl, t, rfl⟩ := vals1 r
  have hsz : (SX.S cs).cps.size = cs.length := by simp [SX.S]
  refine call_list_str (I.ok.hd hc) (SX.S cs) t (fun h' tk acc' c' kp e items => ?_) (by rw [hsz, sizeLine_eq]; omega)
  have rv : Vals (cs.map fun c => V.str (SX.S [c])) acc'.toList := by
    have h0 : acc'.toList.length = cs.length := by rw [← hsz, ← items.1]; simp
    refine vals_of_get (by rw [List.length_map, h0]) fun j x u h1 h2 => ?_
    obtain ⟨c, tk2, hc1, rfl⟩ := items.2 j u (by simpa using h2)
    have hc2 : cs[j]? = some c := by
      have : (SX.S cs).cps[j]? = cs[j]? := by simp [SX.S]
      rw [← this]; exact hc1
    rw [List.getElem?_map, hc2] at h1
    have e2 : V.str (SX.S [c]) = x := Option.some.inj h1
    rw [← e2]
    exact ⟨tk2, rfl⟩
  exact ⟨.ref s.heap.objs.size, _, I.laid (t' := tk) kp (Nat.le_refl _) (show ObjOk X.prog X.w _ h' _ (.lst _) from ⟨by rw [List.length_map, sizeLine_eq]; omega, acc'.toList, c', rv, by simpa using e⟩), rfl, q _ (I.hok.fresh (Nat.le_refl _))⟩
end Op

namespace Op
open PySem PySem.Spec PyProof.Rows L2
local macro_rules | `(tactic| walk_at "go1") => `(tactic| first
  | ((with_reducible refine' g_var ?h ?_); (case h => rfl)) | with_reducible refine' g_c ?_ | with_reducible refine' g_op ?_ | with_reducible refine' g_un ?_ | with_reducible refine' g_if ?_ | with_reducible refine' g_test ?_ | with_reducible refine' g_B ?_ | with_reducible refine' g_bl ?_
  | with_reducible refine' g_not ?_ | with_reducible refine' g_and ?_ | with_reducible refine' g_or ?_ | with_reducible refine' g_andV ?_ | with_reducible refine' g_orV ?_ | with_reducible refine' g_notV ?_ | with_reducible refine' g_nil ?_ | with_reducible refine' g_cons ?_ | with_reducible refine' g_CB ?_ | with_reducible refine' g_ca ?_
  | with_reducible refine' g_seq ?_ | with_reducible refine' g_next ?_ | with_reducible refine' g_asg ?_ | with_reducible refine' g_name ?_ | with_reducible refine' g_ret ?_ | with_reducible refine' g_retN ?_ | with_reducible refine' g_drop ?_ | with_reducible refine' g_ifS ?_ | with_reducible refine' g_sub ?_
  | with_reducible refine' g_I0 ?_ | with_reducible refine' g_U ?_ | ((with_reducible refine' g_eq ?h ?_); (case h => rfl)) | ((with_reducible refine' g_ne ?h ?_); (case h => rfl))
  | ((with_reducible refine' g_lenL ?h ?_); (case h => first | assumption | exact SqL.of (by assumption) | exact SqL.of upd_same)) | ((with_reducible refine' g_lenT ?h ?_); (case h => first | assumption | exact SqT.of (by assumption) | exact SqT.of upd_same))
  | ((with_reducible refine' g_ixL ?h ?ha ?_); (case h => first | assumption | exact SqL.of (by assumption) | exact SqL.of upd_same); (case ha => rfl)) | ((with_reducible refine' g_ixT ?h ?ha ?_); (case h => first | assumption | exact SqT.of (by assumption) | exact SqT.of upd_same); (case ha => rfl))
  | ((with_reducible refine' g_I ?h ?_); (case h => first | decide | omega | (first | refine' ⟨?_, ?_, ?_⟩ | refine' ⟨?_, ?_⟩ | refine' Or.inl ⟨?_, ?_⟩) <;> omega | (refine' Or.inr ⟨?_, ?_⟩ <;> omega)))
  | ((with_reducible refine' g_setL ?h ?ha ?_); (case h => first | assumption | exact upd_same); (case ha => rfl))
  | with_reducible refine' g_lcR ?_
  | with_reducible refine' g_M1 ?_ | with_reducible refine' g_isS ?_ | with_reducible refine' g_tyS ?_ | ((with_reducible refine' g_tyL ?h ?_); (case h => first | assumption | exact upd_same))
  | ((with_reducible refine' g_cat ?h ?h2 ?hl ?_); (case h => first | assumption | exact upd_same); (case h2 => first | assumption | exact upd_same); (case hl => first | decide | (simp; omega)))
  | with_reducible refine' g_lcS ?_
  | with_reducible refine' g_starts ?_ | with_reducible refine' g_chain ?_
  | ((with_reducible refine' g_lenS ?h ?_); (case h => first | exact len_le (by assumption) | exact len_le (by omega))) | ((with_reducible refine' g_rstrip ?h ?_); (case h => first | exact len_le (by assumption) | exact len_le (by omega))) | ((with_reducible refine' g_slX ?h ?_); (case h => first | exact len_le (by assumption) | exact len_le (by omega)))
  | with_reducible refine' g_sl ?_ | with_reducible refine' g_nopart ?_ | with_reducible refine' g_part ?_ | with_reducible refine' g_isI ?_
  | with_reducible refine' g_tru ?_
  | with_reducible refine' iteT ?_ | with_reducible refine' iteF ?_ | with_reducible refine' iteNT ?_ | with_reducible refine' iteNF ?_
  | with_reducible refine' g_int ?_ | with_reducible refine' g_insg ?_ | with_reducible refine' g_ninsg ?_ | with_reducible refine' g_isN ?_ | with_reducible refine' g_notN ?_ | with_reducible refine' g_lst ?_ | with_reducible refine' g_tup ?_ | with_reducible refine' g_BM ?_ | with_reducible refine' g_BM0 ?_)
local macro_rules | `(tactic| walk_at "go") => `(tactic| repeat' walk_at "go1")
/-! ## the law's stream of draws -/
/-- at st a stream that has been asked at most n times -/
def StAt (H : Hp) (st : Addr) (n : Nat) : Prop := ∃ a b c : Int, H st = some (.lst [.int a, .int b, .int c]) ∧ 0 ≤ a ∧ 0 ≤ b ∧ b < 4294967296 ∧ 0 ≤ c ∧ c ≤ (n : Int)
theorem StAt.mono {H : Hp} {st : Addr} {n m : Nat} (h : StAt H st n) (l : n ≤ m) : StAt H st m := by
  obtain ⟨a, b, c, h0, h1, h2, h3, h4, h5⟩ := h
  exact ⟨a, b, c, h0, h1, h2, h3, h4, by omega⟩
theorem StAt.same {H H' : Hp} {st : Addr} {n : Nat} (h : StAt H st n) (s : Same H H') : StAt H' st n := by
  obtain ⟨a, b, c, h0, h1⟩ := h
  exact ⟨a, b, c, s _ _ h0, h1⟩
theorem StAt.ne {H : Hp} {st p : Addr} {n : Nat} (h : StAt H st n) (hp : H p = none) : st ≠ p := by
  obtain ⟨a, b, c, h0, _⟩ := h
  exact ne_of_none h0 hp
/-- _law_stream(script, k) -/
def spStream (K : PySem.W.Frag) : Sp := fun vs H Q _ => ∃ (a : Addr) (ns : List Int) (k : Nat), vs = [.ref a, .int (k : Int)] ∧ SqL K H a (ns.map V.int) ∧ k < 64 ∧
  ∀ H' st, H st = none → Same H H' → StAt H' st 0 → Q (.ref st) H'
/-- _law_draw(stream, many) -/
def spDraw : Sp := fun vs H Q _ => ∃ (st : Addr) (m n : Nat), vs = [.ref st, .int (m : Int)] ∧ 0 < m ∧ m < 1000000 ∧ StAt H st n ∧ n < 1000000000000 ∧
  ∀ H' (d : Nat), d < m → But st H H' → StAt H' st (n + 1) → Q (.int (d : Int)) H'
/-- _law_pick(stream, things) -/
def spPick (K : PySem.W.Frag) : Sp := fun vs H Q _ => ∃ (st l : Addr) (xs : List V) (n : Nat), vs = [.ref st, .ref l] ∧ SqL K H l xs ∧ l ≠ st ∧ 0 < xs.length ∧ xs.length < 1000000 ∧ StAt H st n ∧ n < 1000000000000 ∧
  ∀ H' v, v ∈ xs → But st H H' → StAt H' st (n + 1) → Q v H'
theorem SqL.but {K : PySem.W.Frag} {H H' : Hp} {a st : Addr} {xs : List V} (h : SqL K H a xs) (n : a ≠ st) (b : But st H H') : SqL K H' a xs := by
  rcases h with (h | ⟨o, h⟩) | h
  · exact .inl (.inl (b _ _ n h))
  · exact .inl (.inr ⟨o, b _ _ n h⟩)
  · exact .inr h
section
variable {P : Program} {w : World} {K : PySem.W.Frag} {mg : Str → Option Value} {base : Heap}
theorem ca_stream (T : Bl K mg) (D : Df K mg "_law_stream" s_law_stream p_law_stream) : Ca P w K mg base 1 "_law_stream" (spStream K) := by
  refine ca_n D sc_law_stream (fun vs H Q E h => ?_) (fun f cdv A outer s H vs Q E hr h => ?_)
  · obtain ⟨a, ns, k, rfl, _⟩ := h
    rfl
  · obtain ⟨a, ns, k, rfl, hS, hk, q⟩ := h
    refine ⟨_, (C8.pss_cut (ps_set (i := 2) sc_law_stream.nd rfl (Or.inl rfl) (pe_ifExp (pt_cmpR op_lt (pv 1) (pe_callB cq_len (by rfl) T.b_len (by decide +kernel) (pa_cons (pv 0) pa_nil)) (nomark _)) (pe_callB cq_abs (by rfl) T.b_abs (by decide +kernel) (pa_cons (pe_ix ix_list (pv 0) (pv 1) (fun _ _ => rfl)) pa_nil)) pe_int))
  (pss_one (ps_ret (pe_lst (pa_cons (pe_ifExp (pt_cmpR op_ge (pv 2) (pe_op op_pow pe_int pe_int) (nomark _)) (pv 2) pe_int) (pa_cons (pe_op op_add (pe_op op_mod (pe_callTy cq_int (by rfl) T.b_int (by decide +kernel) (pa_cons (pv 2) pa_nil)) pe_int) (pe_op op_mul pe_int (pv 1))) (pa_cons pe_int pa_nil))))))), ?_⟩
    refine ⟨fun σ' H' => ∃ z : Int, 0 ≤ z ∧ σ' = [some (.ref a), some (.int (k : Int)), some (.int z)] ∧ H' = H, ?_, ?_⟩
    · walk_at "go"
      refine iteD (fun h => ?_) (fun h => ?_)
      · rw [List.length_map] at h
        have hk2 : k < ns.length := by omega
        have ha : atI (ns.map V.int) ((k : Nat) : Int) = some (.int ns[k]) := atI_nat (by rw [List.getElem?_map, List.getElem?_eq_getElem hk2]; rfl)
        walk_at "go"
        refine g_ixL hS ha ?_
        walk_at "go"
        refine g_abs fun j hj _ => ?_
        walk_at "go"
        exact ⟨j, hj, rfl, rfl⟩
      · walk_at "go"
        exact ⟨0, Int.le_refl _, rfl, rfl⟩
    · rintro σ' H' ⟨z, hz, rfl, rfl⟩
      walk_at "go"
      have e1 : z % 2147483647 < 2147483647 := Int.emod_lt_of_pos z (by decide)
      have e2 : 0 ≤ z % 2147483647 := Int.emod_nonneg z (by decide)
      refine iteD (fun h => ?_) (fun h => ?_)
      all_goals
        walk_at "go"
        refine ⟨by show 3 ≤ sizeLine; decide, fun p hp => ?_⟩
        refine q _ p hp (Same.upd hp) ?_
      · exact ⟨z, _, 0, upd_same, hz, by omega, by omega, by omega, by omega⟩
      · exact ⟨0, _, 0, upd_same, by omega, by omega, by omega, by omega, by omega⟩
theorem fdiv_nonneg {a : Int} {m : Nat} (ha : 0 ≤ a) : 0 ≤ a.fdiv (m : Int) := by
  rw [Int.fdiv_eq_ediv_of_nonneg _ (by omega)]
  exact Int.ediv_nonneg ha (by omega)
theorem ca_draw (T : Bl K mg) (D : Df K mg "_law_draw" s_law_draw p_law_draw) : Ca P w K mg base 1 "_law_draw" spDraw := by
  refine ca_n D sc_law_draw (fun vs H Q E h => ?_) (fun f cdv A outer s H vs Q E hr h => ?_)
  · obtain ⟨st, m, n, rfl, _⟩ := h
    rfl
  · obtain ⟨st, m, n, rfl, hm, hm2, ⟨a, b, c, hs, ha, hb, hb2, hc, hc2⟩, hn, q⟩ := h
    refine ⟨_, (pss_cons (ps_if (pt_cmpR op_gt (pe_ix ix_list (pv 0) pe_int (fun _ _ => rfl)) pe_int (nomark _))
  (pss_cons (ps_set (i := 2) sc_law_draw.nd rfl (Or.inl rfl) (pe_op op_mod (pe_callTy cq_int (by rfl) T.b_int (by decide +kernel) (pa_cons (pe_ix ix_list (pv 0) pe_int (fun _ _ => rfl)) pa_nil)) (pv 1)))
  (pss_cons (ps_asg (pe_op op_fdivN (pe_ix ix_list (pv 0) pe_int (fun _ _ => rfl)) (pv 1)) (pg_sub (pv 0) pe_int set_list))
  (pss_one (ps_ret (pv 2)))))
  pss_nil)
  (pss_cons (ps_asg (pe_op op_add (pe_ix ix_list (pv 0) pe_int (fun _ _ => rfl)) pe_int) (pg_sub (pv 0) pe_int set_list))
  (pss_cons (ps_set (i := 3) sc_law_draw.nd rfl (Or.inl rfl) (pe_op op_mod (pe_op op_pow (pe_callTy cq_int (by rfl) T.b_int (by decide +kernel) (pa_cons (pe_op op_add (pe_op op_add (pe_ix ix_list (pv 0) pe_int (fun _ _ => rfl)) (pe_op op_mul pe_int (pe_ix ix_list (pv 0) pe_int (fun _ _ => rfl)))) pe_int) pa_nil)) pe_int) pe_int))
  (pss_one (ps_ret (pe_op op_mod (pe_op op_fdivN (pe_op op_mod (pe_callTy cq_int (by rfl) T.b_int (by decide +kernel) (pa_cons (pe_op op_mul (pe_op op_add (pv 3) (pe_ix ix_list (pv 0) pe_int (fun _ _ => rfl))) pe_int) pa_nil)) pe_int) pe_int) (pv 1))))))), ?_⟩
    walk_at "go"
    refine iteD (fun h => ?_) (fun h => ?_)
    · walk_at "go"
      have e1 : a % (m : Int) < (m : Int) := Int.emod_lt_of_pos a (by omega)
      have e2 : 0 ≤ a % (m : Int) := Int.emod_nonneg a (by omega)
      have e3 : (((a % (m : Int)).toNat : Nat) : Int) = a % (m : Int) := Int.toNat_of_nonneg e2
      have r := q (L2.upd H st (.lst [.int (a.fdiv (m : Int)), .int b, .int c])) (a % (m : Int)).toNat (by omega) But.upd ⟨_, b, c, upd_same, fdiv_nonneg ha, hb, hb2, hc, by omega⟩
      rw [e3] at r
      exact r
    · walk_at "go"
      generalize hX : ((b + 7919 * (c + 1) + 104729) ^ Int.toNat 5 % 2147483647 + (c + 1)) * 40692 % 2147483629 = X
      have e1 : X.fdiv 7 % (m : Int) < (m : Int) := Int.emod_lt_of_pos _ (by omega)
      have e2 : 0 ≤ X.fdiv 7 % (m : Int) := Int.emod_nonneg _ (by omega)
      have e3 : (((X.fdiv 7 % (m : Int)).toNat : Nat) : Int) = X.fdiv 7 % (m : Int) := Int.toNat_of_nonneg e2
      have r := q (L2.upd H st (.lst [.int a, .int b, .int (c + 1)])) (X.fdiv 7 % (m : Int)).toNat (by omega) But.upd ⟨a, b, c + 1, upd_same, ha, hb, hb2, by omega, by omega⟩
      rw [e3] at r
      exact r
/-- a draw, its many told -/
theorem g_draw {st : Addr} {n m : Nat} {z : Int} {H : Hp} {Q : VK} (hz : z = (m : Int)) (h0 : 0 < m) (h1 : m < 1000000) (hst : StAt H st n) (hn : n < 1000000000000) (k : ∀ H' (d : Nat), d < m → But st H H' → StAt H' st (n + 1) → Q (.int (d : Int)) H') :
    spDraw [.ref st, .int z] H Q E0 := by
  subst hz
  exact ⟨st, m, n, rfl, h0, h1, hst, hn, k⟩
theorem at_lt {xs : List V} {d : Nat} (h : d < xs.length) : ∃ v, v ∈ xs ∧ atI xs ((d : Nat) : Int) = some v := ⟨xs[d], List.getElem_mem h, atI_nat (List.getElem?_eq_getElem h)⟩
theorem ca_pick (T : Bl K mg) (D : Df K mg "_law_pick" s_law_pick p_law_pick) (c_law_draw : Ca P w K mg base 1 "_law_draw" spDraw) : Ca P w K mg base 2 "_law_pick" (spPick K) := by
  refine ca_n D sc_law_pick (fun vs H Q E h => ?_) (fun f cdv A outer s H vs Q E hr h => ?_)
  · obtain ⟨st, l, xs, n, rfl, _⟩ := h
    rfl
  · obtain ⟨st, l, xs, n, rfl, hS, hne, h0, h1, hst, hn, q⟩ := h
    refine ⟨_, (pss_one (ps_ret (pe_ix ix_list (pv 1) (pe_ca c_law_draw hr (by decide) (by rfl) (pa_cons (pv 0) (pa_cons (pe_callB cq_len (by rfl) T.b_len (by decide +kernel) (pa_cons (pv 1) pa_nil)) pa_nil))) (fun _ _ => rfl)))), ?_⟩
    walk_at "go"
    refine ⟨st, xs.length, n, rfl, h0, h1, hst, hn, fun H' d hd hb hst' => ?_⟩
    obtain ⟨v, hv, ha⟩ := at_lt hd
    refine g_ixL (SqL.but hS hne hb) ha ?_
    exact q H' v hv hb hst'
/-- things[draw(stream, n)], the things written there -/
theorem g_pick {st p : Addr} {n : Nat} {xs : List V} {z : Int} {H : Hp} {Q : VK} (hz : z = ((xs.length : Nat) : Int)) (hp : H p = none) (hst : StAt H st n) (hn : n < 1000000000000) (h0 : 0 < xs.length) (h1 : xs.length < 1000000) (k : ∀ H' v, v ∈ xs → But st H H' → StAt H' st (n + 1) → Q v H') :
    spDraw [.ref st, .int z] (L2.upd H p (.lst xs)) (fun y H2 => rIxL K (.ref p) y H2 Q) E0 := by
  subst hz
  refine ⟨st, xs.length, n, rfl, h0, h1, hst.same (Same.upd hp), hn, fun H1 d hd b1 s1 => ?_⟩
  obtain ⟨v, hv, ha⟩ := at_lt hd
  refine g_ixL (SqL.of (b1 _ _ (hst.ne hp).symm upd_same)) ha ?_
  exact k H1 v hv ((But.of (Same.upd hp)).trans b1) s1
end
end Op

namespace Op
open PySem PySem.Spec PyProof.Rows L2 SX
local macro_rules | `(tactic| walk_at "go1") => `(tactic| first
  | ((with_reducible refine' g_var ?h ?_); (case h => rfl)) | with_reducible refine' g_c ?_ | with_reducible refine' g_op ?_ | with_reducible refine' g_un ?_ | with_reducible refine' g_if ?_ | with_reducible refine' g_test ?_ | with_reducible refine' g_B ?_ | with_reducible refine' g_bl ?_
  | with_reducible refine' g_not ?_ | with_reducible refine' g_and ?_ | with_reducible refine' g_or ?_ | with_reducible refine' g_andV ?_ | with_reducible refine' g_orV ?_ | with_reducible refine' g_notV ?_ | with_reducible refine' g_nil ?_ | with_reducible refine' g_cons ?_ | with_reducible refine' g_CB ?_ | with_reducible refine' g_ca ?_
  | with_reducible refine' g_seq ?_ | with_reducible refine' g_next ?_ | with_reducible refine' g_asg ?_ | with_reducible refine' g_name ?_ | with_reducible refine' g_ret ?_ | with_reducible refine' g_retN ?_ | with_reducible refine' g_drop ?_ | with_reducible refine' g_ifS ?_ | with_reducible refine' g_sub ?_
  | with_reducible refine' g_I0 ?_ | with_reducible refine' g_U ?_ | ((with_reducible refine' g_eq ?h ?_); (case h => rfl)) | ((with_reducible refine' g_ne ?h ?_); (case h => rfl))
  | ((with_reducible refine' g_lenL ?h ?_); (case h => first | assumption | exact SqL.of (by assumption) | exact SqL.of upd_same)) | ((with_reducible refine' g_lenT ?h ?_); (case h => first | assumption | exact SqT.of (by assumption) | exact SqT.of upd_same))
  | ((with_reducible refine' g_ixL ?h ?ha ?_); (case h => first | assumption | exact SqL.of (by assumption) | exact SqL.of upd_same); (case ha => rfl)) | ((with_reducible refine' g_ixT ?h ?ha ?_); (case h => first | assumption | exact SqT.of (by assumption) | exact SqT.of upd_same); (case ha => rfl))
  | ((with_reducible refine' g_I ?h ?_); (case h => first | decide | omega | (first | refine' ⟨?_, ?_, ?_⟩ | refine' ⟨?_, ?_⟩ | refine' Or.inl ⟨?_, ?_⟩) <;> omega | (refine' Or.inr ⟨?_, ?_⟩ <;> omega)))
  | ((with_reducible refine' g_setL ?h ?ha ?_); (case h => first | assumption | exact upd_same); (case ha => rfl))
  | with_reducible refine' g_lcR ?_
  | with_reducible refine' g_M1 ?_ | with_reducible refine' g_isS ?_ | with_reducible refine' g_tyS ?_ | ((with_reducible refine' g_tyL ?h ?_); (case h => first | assumption | exact upd_same))
  | ((with_reducible refine' g_cat ?h ?h2 ?hl ?_); (case h => first | assumption | exact upd_same); (case h2 => first | assumption | exact upd_same); (case hl => first | decide | (simp; omega)))
  | with_reducible refine' g_lcS ?_
  | with_reducible refine' g_starts ?_ | with_reducible refine' g_chain ?_
  | ((with_reducible refine' g_lenS ?h ?_); (case h => first | exact len_le (by assumption) | exact len_le (by omega))) | ((with_reducible refine' g_rstrip ?h ?_); (case h => first | exact len_le (by assumption) | exact len_le (by omega))) | ((with_reducible refine' g_slX ?h ?_); (case h => first | exact len_le (by assumption) | exact len_le (by omega)))
  | with_reducible refine' g_sl ?_ | with_reducible refine' g_nopart ?_ | with_reducible refine' g_part ?_ | with_reducible refine' g_isI ?_
  | with_reducible refine' g_tru ?_
  | with_reducible refine' iteT ?_ | with_reducible refine' iteF ?_ | with_reducible refine' iteNT ?_ | with_reducible refine' iteNF ?_
  | with_reducible refine' g_int ?_ | with_reducible refine' g_insg ?_ | with_reducible refine' g_ninsg ?_ | with_reducible refine' g_isN ?_ | with_reducible refine' g_notN ?_ | with_reducible refine' g_lst ?_ | with_reducible refine' g_tup ?_ | with_reducible refine' g_BM ?_ | with_reducible refine' g_BM0 ?_)
local macro_rules | `(tactic| walk_at "go") => `(tactic| repeat' walk_at "go1")
/-! ## drawn words and names -/
/-- all signs in a .. b -/
def Signs (a b : Nat) (cs : List Nat) : Prop := ∀ c ∈ cs, a ≤ c ∧ c ≤ b
def isWordL (cs : List Nat) : Prop := 1 ≤ cs.length ∧ cs.length ≤ 8 ∧ Signs 97 122 cs
def isNameL (cs : List Nat) : Prop := ∃ as bs, cs = as ++ bs ∧ 1 ≤ as.length ∧ cs.length ≤ 8 ∧ Signs 65 90 as ∧ Signs 48 57 bs
def spWord : Sp := fun vs H Q _ => ∃ (st : Addr) (n : Nat), vs = [.ref st] ∧ StAt H st n ∧ n + 9 ≤ 1000000000000 ∧
  ∀ H' cs, isWordL cs → But st H H' → StAt H' st (n + 9) → Q (.str (S cs)) H'
def spName : Sp := fun vs H Q _ => ∃ (st : Addr) (n : Nat), vs = [.ref st] ∧ StAt H st n ∧ n + 11 ≤ 1000000000000 ∧
  ∀ H' cs, isNameL cs → But st H H' → StAt H' st (n + 11) → Q (.str (S cs)) H'
theorem g_ixS {K : PySem.W.Frag} {H : Hp} {Q : VK} {z : Str} {i : Int} {c : Nat} (h : z.length ≤ sizeLine) (ha : atI z.cps.toList i = some c) (k : Q (.str (S [c])) H) : rIxS (.str z) (.int i) H Q := ⟨z, i, c, rfl, rfl, h, ha, k⟩
theorem at_ltL {α : Type} {xs : List α} {d : Nat} (h : d < xs.length) : ∃ v, v ∈ xs ∧ atI xs ((d : Nat) : Int) = some v := ⟨xs[d], List.getElem_mem h, atI_nat (List.getElem?_eq_getElem h)⟩
theorem joinL_signs : ∀ cs : List Nat, TL.joinL [] (cs.map fun c => [c]) = cs
  | [] => rfl
  | [c] => rfl
  | c :: d :: r => by
    have ih := joinL_signs (d :: r)
    show [c] ++ ([] ++ TL.joinL [] ((d :: r).map fun c => [c])) = c :: d :: r
    rw [ih]
    rfl
theorem signs_map (cs : List Nat) : (cs.map fun c => V.str (S [c])) = ((cs.map fun c => [c]).map S).map V.str := by rw [List.map_map, List.map_map]; rfl
theorem join_signs (cs : List Nat) : Txt.join (Str.ofString "") ((cs.map fun c => [c]).map S) = S cs := by
  rw [show Str.ofString "" = S [] by decide +kernel, join_S, joinL_signs]
theorem sum_ones : ∀ cs : List Nat, (((cs.map fun c => [c]).map S).map (·.length)).sum = cs.length
  | [] => rfl
  | c :: r => by
    have ih := sum_ones r
    show (S [c]).length + (((r.map fun c => [c]).map S).map (·.length)).sum = r.length + 1
    rw [ih, S_len]
    show 1 + r.length = r.length + 1
    omega
/-- [sign of the alphabet, drawn, for k in range(n)] -/
theorem lc_signs {σ : L2.St} {H1 : Hp} {Q : VK} {j m n lo hi : Nat} {vs : List Nat} {st : Addr} {z : Str} {zm N : Int} (hm : zm = (m : Int)) (hz : z.cps.toList.length = m) (hl : z.length ≤ sizeLine) (h0 : 0 < m) (h1 : m < 1000000) (hr : ∀ c ∈ z.cps.toList, lo ≤ c ∧ c ≤ hi) (hN : 0 ≤ N ∧ N < 1000000)
    (hw : ∀ x, wipe ((wipe σ vs).set j (some x)) vs = wipe σ vs) (hs0 : ∀ x, ((wipe σ vs).set j (some x))[0]? = some (some (V.ref st))) (hst : StAt H1 st n) (hn : n + N.toNat ≤ 1000000000000)
    (k : ∀ D H2 cs, H1 D = none → But st H1 H2 → StAt H2 st (n + N.toNat) → H2 D = some (.lst (cs.map fun c => V.str (S [c]))) → (cs.length : Int) = N → Signs lo hi cs → Q (.ref D) H2) :
    rLcR j (tOp rIxS (tC (.str z)) (tCa spDraw (tCons (tVar 0) (tCons (tC (.int zm)) tNil)))) vs σ [.int N] H1 Q := by
  refine r_lcR (fun D i acc H2 => But st H1 H2 ∧ StAt H2 st (n + i) ∧ ∃ cs, acc = cs.map (fun c => V.str (S [c])) ∧ Signs lo hi cs) hN hw (fun D hD => ?_) (fun D i acc H2 hD hi hacc hlen J => ?_) (fun D acc H2 hD hacc hlen J => ?_)
  · exact ⟨But.of (Same.upd hD), hst.same (Same.upd hD), [], rfl, fun c hc => nomatch hc⟩
  · obtain ⟨b2, s2, cs, rfl, hcs⟩ := J
    refine g_op (g_c (g_ca (g_cons (g_var (hs0 _) (g_cons (g_c (g_nil ?_)))))))
    refine g_draw hm h0 h1 s2 (by omega) fun H3 d hd b3 s3 => ?_
    obtain ⟨c, hc, ha⟩ := at_ltL (xs := z.cps.toList) (d := d) (by omega)
    have nD : D ≠ st := (hst.ne hD).symm
    refine g_ixS (K := []) hl ha (lcPost.of (b3 _ _ nD hacc) hlen (by omega) ⟨fun b o hb e => ?_, ?_, cs ++ [c], by rw [List.map_append]; rfl, fun y hy => ?_⟩)
    · rw [upd_ne (ne_of_none e hD)]
      exact b3 _ _ hb (b2 _ _ hb e)
    · obtain ⟨a1, a2, a3, e, r⟩ := s3
      exact ⟨a1, a2, a3, by rw [upd_ne nD.symm]; exact e, r⟩
    · rcases List.mem_append.mp hy with hy | hy
      · exact hcs y hy
      · rw [List.mem_singleton.mp hy]
        exact hr c hc
  · obtain ⟨b2, s2, cs, rfl, hcs⟩ := J
    exact k D H2 cs hD b2 s2 hacc (by rw [List.length_map] at hlen; exact hlen) hcs
section
variable {P : Program} {w : World} {K : PySem.W.Frag} {mg : Str → Option Value} {base : Heap}
theorem ca_word (T : Bl K mg) (D : Df K mg "_law_word" s_law_word p_law_word) (c_law_draw : Ca P w K mg base 1 "_law_draw" spDraw) : Ca P w K mg base 2 "_law_word" spWord := by
  refine ca_n D sc_law_word (fun vs H Q E h => ?_) (fun f cdv A outer s H vs Q E hr h => ?_)
  · obtain ⟨st, n, rfl, _⟩ := h
    rfl
  · obtain ⟨st, n, rfl, hst, hn, q⟩ := h
    refine ⟨_, (pss_cons (ps_set (i := 1) sc_law_word.nd rfl (Or.inl rfl) (pe_ix ix_list (pe_lst (pa_cons pe_int (pa_cons pe_int (pa_cons pe_int (pa_cons pe_int (pa_cons pe_int (pa_cons pe_int pa_nil))))))) (pe_ca c_law_draw hr (by decide) (by rfl) (pa_cons (pv 0) (pa_cons pe_int pa_nil))) (fun _ _ => rfl)))
  (pss_one (ps_ret (pq_join pe_str (pe_lc (own := [("_law_k", 2)]) (g := gName 2) (tt := tYes) rfl sc_law_word.nd (pi_range1 rfl T.b_range (pa_cons (pv 1) pa_nil)) (blkOk_by (own := [("_law_k", 2)]) (N := N_law_word) (sc := defScope s_law_word) (by decide +kernel)) (fun _ _ _ _ _ => pg_name (i := 2) sc_law_word.nd rfl (Or.inl rfl)) (fun _ _ _ _ _ => pts_nil) (fun _ _ _ _ _ => (pe_ix ix_str pe_str (pe_ca c_law_draw hr (by decide) (by rfl) (pa_cons (pv 0) (pa_cons pe_int pa_nil))) (fun _ _ => rfl)))))))), ?_⟩
    walk_at "go"
    refine ⟨by show 6 ≤ sizeLine; decide, fun p hp => ?_⟩
    walk_at "go"
    refine' g_pick ?hz hp hst ?hn ?h0 ?h1 ?_
    case hz => rfl
    case hn => omega
    case h0 => decide
    case h1 => decide
    intro H1 v hv b1 s1
    obtain ⟨z, rfl, hz1, hz2⟩ : ∃ z : Int, v = .int z ∧ 1 ≤ z ∧ z ≤ 8 := by
      simp only [List.mem_cons, List.not_mem_nil, or_false] at hv
      rcases hv with rfl | rfl | rfl | rfl | rfl | rfl <;> exact ⟨_, rfl, by decide, by decide⟩
    walk_at "go"
    refine lc_signs (m := 26) (lo := 97) (hi := 122) (n := n + 1) rfl (by decide +kernel) (by decide +kernel) (by decide) (by decide) (by decide +kernel) ⟨by omega, by omega⟩ (fun _ => rfl) (fun _ => rfl) s1 (by omega) fun D H2 cs hD b2 s2 hacc hlen hcs => ?_
    refine g_join (by rw [← signs_map]; exact SqL.of hacc) ?_ ?_
    · rw [sum_ones, List.length_map, List.length_map, show (Str.ofString "").length = 0 by decide +kernel]
      omega
    · rw [join_signs]
      exact q _ cs ⟨by omega, by omega, hcs⟩ (b1.trans b2) (s2.mono (by omega))
theorem ca_name (T : Bl K mg) (D : Df K mg "_law_name" s_law_name p_law_name) (c_law_draw : Ca P w K mg base 1 "_law_draw" spDraw) : Ca P w K mg base 2 "_law_name" spName := by
  refine ca_n D sc_law_name (fun vs H Q E h => ?_) (fun f cdv A outer s H vs Q E hr h => ?_)
  · obtain ⟨st, n, rfl, _⟩ := h
    rfl
  · obtain ⟨st, n, rfl, hst, hn, q⟩ := h
    refine ⟨_, (pss_cons (ps_set (i := 1) sc_law_name.nd rfl (Or.inl rfl) (pe_ix ix_list (pe_lst (pa_cons pe_int (pa_cons pe_int (pa_cons pe_int (pa_cons pe_int (pa_cons pe_int (pa_cons pe_int pa_nil))))))) (pe_ca c_law_draw hr (by decide) (by rfl) (pa_cons (pv 0) (pa_cons pe_int pa_nil))) (fun _ _ => rfl)))
  (pss_cons (ps_set (i := 2) sc_law_name.nd rfl (Or.inl rfl) (pe_ix ix_list (pe_lst (pa_cons pe_int (pa_cons pe_int (pa_cons pe_int (pa_cons pe_int (pa_cons pe_int pa_nil)))))) (pe_ca c_law_draw hr (by decide) (by rfl) (pa_cons (pv 0) (pa_cons pe_int pa_nil))) (fun _ _ => rfl)))
  (pss_cons (ps_setLc (i := 3) (own := [("_law_k", 4)]) (g := gName 4) (tt := tYes) rfl sc_law_name.nd rfl rfl (sw_true rfl rfl rfl (by decide +kernel)) (pi_range1 rfl T.b_range (pa_cons (pe_callB (cr_max rfl) (by rfl) T.b_max (by decide +kernel) (pa_cons (pe_lst (pa_cons pe_int (pa_cons (pe_op op_sub (pv 1) (pv 2)) pa_nil))) pa_nil)) pa_nil)) (blkOk_by (own := [("_law_k", 4)]) (N := N_law_name) (sc := defScope s_law_name) (by decide +kernel)) (fun _ _ _ _ _ => pg_name (i := 4) sc_law_name.nd rfl (Or.inl rfl)) (fun _ _ _ _ _ => pts_nil) (fun _ _ _ _ _ => (pe_ix ix_str pe_str (pe_ca c_law_draw hr (by decide) (by rfl) (pa_cons (pv 0) (pa_cons pe_int pa_nil))) (fun _ _ => rfl))))
  (pss_one (ps_ret (pq_join pe_str (pe_op op_cat (pv 3) (pe_lc (own := [("_law_k", 4)]) (g := gName 4) (tt := tYes) rfl sc_law_name.nd (pi_range1 rfl T.b_range (pa_cons (pe_op op_sub (pv 1) (pe_callB cq_len (by rfl) T.b_len (by decide +kernel) (pa_cons (pv 3) pa_nil))) pa_nil)) (blkOk_by (own := [("_law_k", 4)]) (N := N_law_name) (sc := defScope s_law_name) (by decide +kernel)) (fun _ _ _ _ _ => pg_name (i := 4) sc_law_name.nd rfl (Or.inl rfl)) (fun _ _ _ _ _ => pts_nil) (fun _ _ _ _ _ => (pe_ix ix_str pe_str (pe_ca c_law_draw hr (by decide) (by rfl) (pa_cons (pv 0) (pa_cons pe_int pa_nil))) (fun _ _ => rfl))))))))))), ?_⟩
    walk_at "go"
    refine ⟨by show 6 ≤ sizeLine; decide, fun p hp => ?_⟩
    walk_at "go"
    refine' g_pick ?hz hp hst ?hn ?h0 ?h1 ?_
    case hz => rfl
    case hn => omega
    case h0 => decide
    case h1 => decide
    intro H1 v hv b1 s1
    obtain ⟨z, rfl, hz1, hz2⟩ : ∃ z : Int, v = .int z ∧ 1 ≤ z ∧ z ≤ 8 := by
      simp only [List.mem_cons, List.not_mem_nil, or_false] at hv
      rcases hv with rfl | rfl | rfl | rfl | rfl | rfl <;> exact ⟨_, rfl, by decide, by decide⟩
    walk_at "go"
    refine ⟨by show 5 ≤ sizeLine; decide, fun p2 hp2 => ?_⟩
    walk_at "go"
    refine' g_pick ?hz hp2 s1 ?hn ?h0 ?h1 ?_
    case hz => rfl
    case hn => omega
    case h0 => decide
    case h1 => decide
    intro H2 v hv b2 s2
    obtain ⟨y, rfl, hy1, hy2⟩ : ∃ z : Int, v = .int z ∧ 0 ≤ z ∧ z ≤ 2 := by
      simp only [List.mem_cons, List.not_mem_nil, or_false] at hv
      rcases hv with rfl | rfl | rfl | rfl | rfl <;> exact ⟨_, rfl, by decide, by decide⟩
    walk_at "go"
    refine ⟨by show 2 ≤ sizeLine; decide, fun p3 hp3 => ?_⟩
    refine ⟨p3, [1, z - y], rfl, SqL.of upd_same, Nat.zero_lt_succ _, fun m hm1 hm2 => ?_⟩
    have m1 : 1 ≤ m := hm2 1 (List.mem_cons_self ..)
    have m2 : z - y ≤ m := hm2 _ (List.mem_cons_of_mem _ (List.mem_cons_self ..))
    have m3 : m = 1 ∨ m = z - y := by
      simp only [List.mem_cons, List.not_mem_nil, or_false] at hm1
      exact hm1
    walk_at "go"
    refine lc_signs (m := 26) (lo := 65) (hi := 90) (n := n + 1 + 1) rfl (by decide +kernel) (by decide +kernel) (by decide) (by decide) (by decide +kernel) ⟨by omega, by omega⟩ (fun _ => rfl) (fun _ => rfl) (s2.same (Same.upd hp3)) (by omega) fun D3 H3 as hD3 b3 s3 hacc3 hlen3 has => ?_
    walk_at "go"
    have nD3 : D3 ≠ st := ((s2.same (Same.upd hp3)).ne hD3).symm
    have eN : (((as.map fun c => V.str (S [c])).length : Nat) : Int) = m := by rw [List.length_map]; exact hlen3
    rw [eN]
    refine lc_signs (m := 10) (lo := 48) (hi := 57) (n := n + 1 + 1 + m.toNat) rfl (by decide +kernel) (by decide +kernel) (by decide) (by decide) (by decide +kernel) ⟨by omega, by omega⟩ (fun _ => rfl) (fun _ => rfl) s3 (by omega) fun D4 H4 bs hD4 b4 s4 hacc4 hlen4 hbs => ?_
    refine g_cat (b4 _ _ nD3 hacc3) hacc4 (by rw [List.length_map, List.length_map, sizeLine_eq]; omega) fun p5 hp5 => ?_
    rw [← List.map_append]
    refine g_join (by rw [← signs_map]; exact SqL.of upd_same) ?_ ?_
    · rw [sum_ones, List.length_map, List.length_map, List.length_append, show (Str.ofString "").length = 0 by decide +kernel]
      omega
    · rw [join_signs]
      have b5 : But st H2 H4 := (But.of (Same.upd hp3)).trans (b3.trans b4)
      exact q _ (as ++ bs) ⟨as, bs, rfl, by omega, by rw [List.length_append]; omega, has, hbs⟩ ((b1.trans (b2.trans b5)).trans (But.of (Same.upd hp5))) ((s4.same (Same.upd hp5)).mono (by omega))
end
end Op

namespace Op
open PySem PySem.Spec PyProof.Rows L2 SX
local macro_rules | `(tactic| walk_at "go1") => `(tactic| first
  | ((with_reducible refine' g_var ?h ?_); (case h => rfl)) | with_reducible refine' g_c ?_ | with_reducible refine' g_op ?_ | with_reducible refine' g_un ?_ | with_reducible refine' g_if ?_ | with_reducible refine' g_test ?_ | with_reducible refine' g_B ?_ | with_reducible refine' g_bl ?_
  | with_reducible refine' g_not ?_ | with_reducible refine' g_and ?_ | with_reducible refine' g_or ?_ | with_reducible refine' g_andV ?_ | with_reducible refine' g_orV ?_ | with_reducible refine' g_notV ?_ | with_reducible refine' g_nil ?_ | with_reducible refine' g_cons ?_ | with_reducible refine' g_CB ?_ | with_reducible refine' g_ca ?_
  | with_reducible refine' g_seq ?_ | with_reducible refine' g_next ?_ | with_reducible refine' g_asg ?_ | with_reducible refine' g_name ?_ | with_reducible refine' g_ret ?_ | with_reducible refine' g_retN ?_ | with_reducible refine' g_drop ?_ | with_reducible refine' g_ifS ?_ | with_reducible refine' g_sub ?_
  | with_reducible refine' g_I0 ?_ | with_reducible refine' g_U ?_ | ((with_reducible refine' g_eq ?h ?_); (case h => rfl)) | ((with_reducible refine' g_ne ?h ?_); (case h => rfl))
  | ((with_reducible refine' g_lenL ?h ?_); (case h => first | assumption | exact SqL.of (by assumption) | exact SqL.of upd_same)) | ((with_reducible refine' g_lenT ?h ?_); (case h => first | assumption | exact SqT.of (by assumption) | exact SqT.of upd_same))
  | ((with_reducible refine' g_ixL ?h ?ha ?_); (case h => first | assumption | exact SqL.of (by assumption) | exact SqL.of upd_same); (case ha => rfl)) | ((with_reducible refine' g_ixT ?h ?ha ?_); (case h => first | assumption | exact SqT.of (by assumption) | exact SqT.of upd_same); (case ha => rfl))
  | ((with_reducible refine' g_I ?h ?_); (case h => first | decide | omega | (first | refine' ⟨?_, ?_, ?_⟩ | refine' ⟨?_, ?_⟩ | refine' Or.inl ⟨?_, ?_⟩) <;> omega | (refine' Or.inr ⟨?_, ?_⟩ <;> omega)))
  | ((with_reducible refine' g_setL ?h ?ha ?_); (case h => first | assumption | exact upd_same); (case ha => rfl))
  | with_reducible refine' g_lcR ?_
  | with_reducible refine' g_M1 ?_ | with_reducible refine' g_isS ?_ | with_reducible refine' g_tyS ?_ | ((with_reducible refine' g_tyL ?h ?_); (case h => first | assumption | exact upd_same))
  | ((with_reducible refine' g_cat ?h ?h2 ?hl ?_); (case h => first | assumption | exact upd_same); (case h2 => first | assumption | exact upd_same); (case hl => first | decide | (simp; omega)))
  | with_reducible refine' g_lcS ?_
  | with_reducible refine' g_starts ?_ | with_reducible refine' g_chain ?_
  | ((with_reducible refine' g_lenS ?h ?_); (case h => first | exact len_le (by assumption) | exact len_le (by omega))) | ((with_reducible refine' g_rstrip ?h ?_); (case h => first | exact len_le (by assumption) | exact len_le (by omega))) | ((with_reducible refine' g_slX ?h ?_); (case h => first | exact len_le (by assumption) | exact len_le (by omega)))
  | with_reducible refine' g_sl ?_ | with_reducible refine' g_nopart ?_ | with_reducible refine' g_part ?_ | with_reducible refine' g_isI ?_
  | with_reducible refine' g_tru ?_
  | with_reducible refine' iteT ?_ | with_reducible refine' iteF ?_ | with_reducible refine' iteNT ?_ | with_reducible refine' iteNF ?_
  | with_reducible refine' g_int ?_ | with_reducible refine' g_insg ?_ | with_reducible refine' g_ninsg ?_ | with_reducible refine' g_isN ?_ | with_reducible refine' g_notN ?_ | with_reducible refine' g_lst ?_ | with_reducible refine' g_tup ?_ | with_reducible refine' g_BM ?_ | with_reducible refine' g_BM0 ?_)
local macro_rules | `(tactic| walk_at "go") => `(tactic| repeat' walk_at "go1")
/-! ## the program's atoms -/
def smallL : List Nat := (Str.ofString "abcdefghijklmnopqrstuvwxyz").cps.toList
def capL : List Nat := (Str.ofString "ABCDEFGHIJKLMNOPQRSTUVWXYZ").cps.toList
def digL : List Nat := (Str.ofString "0123456789").cps.toList
theorem small_S : Str.ofString "abcdefghijklmnopqrstuvwxyz" = S smallL := (S_tl _).symm
theorem cap_S : Str.ofString "ABCDEFGHIJKLMNOPQRSTUVWXYZ" = S capL := (S_tl _).symm
theorem dig_S : Str.ofString "0123456789" = S digL := (S_tl _).symm
def allIn (cs ss : List Nat) : Bool := cs.all fun c => decide (c ∈ ss)
/-- cs without the digits at its end -/
def noDig (cs : List Nat) : List Nat := (cs.reverse.dropWhile fun c => digL.contains c).reverse
def isWordB (cs : List Nat) : Bool := decide (1 ≤ cs.length) && (decide (cs.length ≤ 8) && allIn cs smallL)
def isNameB (cs : List Nat) : Bool := decide (1 ≤ (noDig cs).length) && (decide (cs.length ≤ 8) && allIn (noDig cs) capL)
def isUnkB (cs : List Nat) : Bool := decide (1 ≤ cs.length) && (decide (cs.length ≤ 7) && allIn cs smallL)
abbrev kWord : Str := Str.ofString "word"
abbrev kName : Str := Str.ofString "name"
abbrev kUnk : Str := Str.ofString "unknown"
/-- the atom with this text: its kind, its own text -/
def kindOf (cs : List Nat) : Option (Str × List Nat) :=
  if isWordB cs then some (kWord, cs) else if isNameB cs then some (kName, cs) else if cs.head? = some 63 ∧ isUnkB cs.tail = true then some (kUnk, cs.tail) else none
theorem starts_q (cs : List Nat) : Txt.startswith (S cs) (Str.ofString "?") = decide (cs.head? = some 63) := by
  rw [show Str.ofString "?" = S [63] by decide +kernel]
  unfold Txt.startswith Builtin.Str.subAt
  rw [S_len, S_len]
  cases cs with
  | nil => rfl
  | cons c r =>
    have e : (S (c :: r)).cps.extract 0 (0 + [63].length) = [c].toArray := by simp [S]
    rw [e]
    show (decide (0 + 1 ≤ (c :: r).length) && ([c].toArray == [63].toArray)) = decide (some c = some 63)
    by_cases h : c = 63
    · subst h; simp
    · simp [h]
theorem take_drop {p : Nat → Bool} (cs : List Nat) : cs.take (cs.length - (cs.reverse.takeWhile p).length) = (cs.reverse.dropWhile p).reverse := by
  have h : cs.reverse.takeWhile p ++ cs.reverse.dropWhile p = cs.reverse := List.takeWhile_append_dropWhile
  have h2 : cs = (cs.reverse.dropWhile p).reverse ++ (cs.reverse.takeWhile p).reverse := by
    rw [← List.reverse_append, h, List.reverse_reverse]
  have hl : cs.length = (cs.reverse.dropWhile p).length + (cs.reverse.takeWhile p).length := by
    have := congrArg List.length h2
    rw [List.length_append, List.length_reverse, List.length_reverse] at this
    exact this
  have e : cs.length - (cs.reverse.takeWhile p).length = (cs.reverse.dropWhile p).reverse.length := by rw [List.length_reverse]; omega
  rw [e]
  generalize (cs.reverse.dropWhile p).reverse = X at h2 ⊢
  rw [h2]
  exact List.take_left
theorem rstrip_dig (cs : List Nat) : Txt.rstripChars (S cs) (Str.ofString "0123456789") = S (noDig cs) := by
  have hc : (Str.ofString "0123456789").cps.contains = fun c => digL.contains c := by
    funext c
    show (Str.ofString "0123456789").cps.contains c = (Str.ofString "0123456789").cps.toList.contains c
    rw [Bool.eq_iff_iff]
    simp
  have h1 : stripLo (fun c => digL.contains c) false (S cs) = 0 := rfl
  have h2 : stripHi (fun c => digL.contains c) true (S cs) 0 = cs.length - (cs.reverse.takeWhile fun c => digL.contains c).length := by
    unfold stripHi
    rw [if_pos rfl, S_len]
    rfl
  have h3 := take_drop (p := fun c => digL.contains c) cs
  unfold Txt.rstripChars Txt.stripBy
  rw [hc]
  unfold stripSame stripped
  rw [h1, h2, S_len]
  unfold noDig
  rw [← h3]
  generalize cs.length - (cs.reverse.takeWhile fun c => digL.contains c).length = m
  by_cases e : m = cs.length
  · rw [if_pos (by simp [e]), e, List.take_length]
  · rw [if_neg (by simp [e])]
    unfold Builtin.Str.strSub
    exact TL.ext_tl (by show ((S cs).cps.extract 0 _).toList = _; simp [S])
def spMadeOf : Sp := fun vs H Q _ => ∃ cs ss : List Nat, vs = [.str (S cs), .str (S ss)] ∧ cs.length < 1000000 ∧ ∀ H', Same H H' → Q (.bl (allIn cs ss)) H'
def spTextB (p : List Nat → Bool) : Sp := fun vs H Q _ => ∃ cs : List Nat, vs = [.str (S cs)] ∧ cs.length < 1000000 ∧ ∀ H', Same H H' → Q (.bl (p cs)) H'
section
variable {P : Program} {w : World} {K : PySem.W.Frag} {mg : Str → Option Value} {base : Heap}
theorem all_map_bl (cs : List Nat) (p : Nat → Bool) : (cs.map fun c => V.bl (p c)) = (cs.map p).map V.bl := by rw [List.map_map]; rfl
theorem ca_made_of (T : Bl K mg) (D : Df K mg "made_of" s_made_of p_made_of) : Ca P w K mg base 1 "made_of" spMadeOf := by
  refine ca_n D sc_made_of (fun vs H Q E h => ?_) (fun f cdv A outer s H vs Q E hr h => ?_)
  · obtain ⟨cs, ss, rfl, _⟩ := h
    rfl
  · obtain ⟨cs, ss, rfl, hl, q⟩ := h
    refine ⟨_, (pss_one (ps_ret (pe_callB (cr_all rfl) (by rfl) T.b_all (by decide +kernel) (pa_cons (pe_lc (own := [("sign", 2)]) (g := gName 2) (tt := tYes) rfl sc_made_of.nd (pi_str (pv 0)) (blkOk_by (own := [("sign", 2)]) (N := N_made_of) (sc := defScope s_made_of) (by decide +kernel)) (fun _ _ _ _ _ => pg_name (i := 2) sc_made_of.nd rfl (Or.inl rfl)) (fun _ _ _ _ _ => pts_nil) (fun _ _ _ _ _ => (pe_cmpR oq_insg (pv 2) (pv 1) rfl))) pa_nil)))), ?_⟩
    walk_at "go"
    refine r_lcS1 (fun c => .bl (decide (c ∈ ss))) hl (fun _ => rfl) (fun c H2 R hc hS r => ?_) fun D hD => ?_
    · walk_at "go"
      exact r
    · rw [all_map_bl]
      refine g_all (SqL.of upd_same) ?_
      rw [List.all_map]
      exact q _ (Same.upd hD)
theorem ca_is_word (T : Bl K mg) (D : Df K mg "is_word" s_is_word p_is_word) (c_made_of : Ca P w K mg base 1 "made_of" spMadeOf) : Ca P w K mg base 2 "is_word" (spTextB isWordB) := by
  refine ca_n D sc_is_word (fun vs H Q E h => ?_) (fun f cdv A outer s H vs Q E hr h => ?_)
  · obtain ⟨cs, rfl, _⟩ := h
    rfl
  · obtain ⟨cs, rfl, hl, q⟩ := h
    refine ⟨_, (pss_one (ps_ret (pe_and (pe_chain op_le op_le pe_int (pe_callB cq_lens (by rfl) T.b_len (by decide +kernel) (pa_cons (pv 0) pa_nil)) pe_int) (pe_one (pe_ca c_made_of hr (by decide) (by rfl) (pa_cons (pv 0) (pa_cons (C8.pe_gc (by rfl) T.c_SMALL) pa_nil))))))), ?_⟩
    walk_at "go"
    rw [S_len]
    refine iteD (fun h1 => ?_) (fun h1 => ?_)
    · walk_at "go"
      refine iteD (fun h2 => ?_) (fun h2 => ?_)
      · walk_at "go"
        rw [small_S]
        refine ⟨cs, smallL, rfl, hl, fun H' hS => ?_⟩
        have e : isWordB cs = allIn cs smallL := by unfold isWordB; rw [decide_eq_true (by omega : 1 ≤ cs.length), decide_eq_true (by omega : cs.length ≤ 8)]; rfl
        rw [← e]
        exact q _ hS
      · have e : isWordB cs = false := by unfold isWordB; rw [decide_eq_false (by omega : ¬ cs.length ≤ 8), Bool.false_and, Bool.and_false]
        rw [← e]
        exact q _ (Same.refl _)
    · walk_at "go"
      have e : isWordB cs = false := by unfold isWordB; rw [decide_eq_false (by omega : ¬ 1 ≤ cs.length), Bool.false_and]
      rw [← e]
      exact q _ (Same.refl _)
theorem ca_is_unknown (T : Bl K mg) (D : Df K mg "is_unknown" s_is_unknown p_is_unknown) (c_made_of : Ca P w K mg base 1 "made_of" spMadeOf) : Ca P w K mg base 2 "is_unknown" (spTextB isUnkB) := by
  refine ca_n D sc_is_unknown (fun vs H Q E h => ?_) (fun f cdv A outer s H vs Q E hr h => ?_)
  · obtain ⟨cs, rfl, _⟩ := h
    rfl
  · obtain ⟨cs, rfl, hl, q⟩ := h
    refine ⟨_, (pss_one (ps_ret (pe_and (pe_chain op_le op_le pe_int (pe_callB cq_lens (by rfl) T.b_len (by decide +kernel) (pa_cons (pv 0) pa_nil)) pe_int) (pe_one (pe_ca c_made_of hr (by decide) (by rfl) (pa_cons (pv 0) (pa_cons (C8.pe_gc (by rfl) T.c_SMALL) pa_nil))))))), ?_⟩
    walk_at "go"
    rw [S_len]
    refine iteD (fun h1 => ?_) (fun h1 => ?_)
    · walk_at "go"
      refine iteD (fun h2 => ?_) (fun h2 => ?_)
      · walk_at "go"
        rw [small_S]
        refine ⟨cs, smallL, rfl, hl, fun H' hS => ?_⟩
        have e : isUnkB cs = allIn cs smallL := by unfold isUnkB; rw [decide_eq_true (by omega : 1 ≤ cs.length), decide_eq_true (by omega : cs.length ≤ 7)]; rfl
        rw [← e]
        exact q _ hS
      · have e : isUnkB cs = false := by unfold isUnkB; rw [decide_eq_false (by omega : ¬ cs.length ≤ 7), Bool.false_and, Bool.and_false]
        rw [← e]
        exact q _ (Same.refl _)
    · walk_at "go"
      have e : isUnkB cs = false := by unfold isUnkB; rw [decide_eq_false (by omega : ¬ 1 ≤ cs.length), Bool.false_and]
      rw [← e]
      exact q _ (Same.refl _)
theorem noDig_len (cs : List Nat) : (noDig cs).length ≤ cs.length := by
  unfold noDig
  rw [List.length_reverse, ← List.length_reverse (as := cs)]
  exact List.Sublist.length_le (List.dropWhile_sublist _)
theorem ca_is_name (T : Bl K mg) (D : Df K mg "is_name" s_is_name p_is_name) (c_made_of : Ca P w K mg base 1 "made_of" spMadeOf) : Ca P w K mg base 2 "is_name" (spTextB isNameB) := by
  refine ca_n D sc_is_name (fun vs H Q E h => ?_) (fun f cdv A outer s H vs Q E hr h => ?_)
  · obtain ⟨cs, rfl, _⟩ := h
    rfl
  · obtain ⟨cs, rfl, hl, q⟩ := h
    refine ⟨_, (pss_cons (ps_set (i := 1) sc_is_name.nd rfl (Or.inl rfl) (pe_bm PySem.F.plainAttrs_str PySem.F.slot_str_rstrip PySem.F.type_str_rstrip mq_rstrip (pv 0) (pa_cons (C8.pe_gc (by rfl) T.c_DIGITS) pa_nil)))
  (pss_one (ps_ret (pe_and (pe_cmpR op_le pe_int (pe_callB cq_lens (by rfl) T.b_len (by decide +kernel) (pa_cons (pv 1) pa_nil)) (nomark _)) (pe_and (pe_cmpR op_le (pe_callB cq_lens (by rfl) T.b_len (by decide +kernel) (pa_cons (pv 0) pa_nil)) pe_int (nomark _)) (pe_one (pe_ca c_made_of hr (by decide) (by rfl) (pa_cons (pv 1) (pa_cons (C8.pe_gc (by rfl) T.c_CAPITALS) pa_nil))))))))), ?_⟩
    walk_at "go"
    rw [rstrip_dig]
    have hl2 := Nat.lt_of_le_of_lt (noDig_len cs) hl
    walk_at "go"
    rw [S_len]
    refine iteD (fun h1 => ?_) (fun h1 => ?_)
    · walk_at "go"
      rw [S_len]
      refine iteD (fun h2 => ?_) (fun h2 => ?_)
      · walk_at "go"
        rw [cap_S]
        refine ⟨noDig cs, capL, rfl, hl2, fun H' hS => ?_⟩
        have e : isNameB cs = allIn (noDig cs) capL := by unfold isNameB; rw [decide_eq_true (by omega : 1 ≤ (noDig cs).length), decide_eq_true (by omega : cs.length ≤ 8)]; rfl
        rw [← e]
        exact q _ hS
      · have e : isNameB cs = false := by unfold isNameB; rw [decide_eq_false (by omega : ¬ cs.length ≤ 8), Bool.false_and, Bool.and_false]
        rw [← e]
        exact q _ (Same.refl _)
    · have e : isNameB cs = false := by unfold isNameB; rw [decide_eq_false (by omega : ¬ 1 ≤ (noDig cs).length), Bool.false_and]
      rw [← e]
      exact q _ (Same.refl _)
/-- None, or the tuple of an atom -/
def AtomV (H : Hp) : Option (Str × List Nat) → V → Prop
  | none, v => v = .non
  | some (k, t), v => ∃ p, v = .ref p ∧ H p = some (.tup [.str k, .str (S t)])
def spAtomForm : Sp := fun vs H Q _ => ∃ cs : List Nat, vs = [.str (S cs)] ∧ cs.length < 1000000 ∧ ∀ H' v, Same H H' → AtomV H' (kindOf cs) v → Q v H'
theorem slice_one {cs : List Nat} : Txt.slice (S cs) (some 1) none = S cs.tail := by
  rw [slice_from (by decide)]
  show S (cs.drop 1) = S cs.tail
  rw [List.drop_one]
theorem ca_atom_form (T : Bl K mg) (D : Df K mg "atom_form" s_atom_form p_atom_form) (c_is_word : Ca P w K mg base 2 "is_word" (spTextB isWordB)) (c_is_name : Ca P w K mg base 2 "is_name" (spTextB isNameB)) (c_is_unknown : Ca P w K mg base 2 "is_unknown" (spTextB isUnkB)) :
    Ca P w K mg base 3 "atom_form" spAtomForm := by
  refine ca_n D sc_atom_form (fun vs H Q E h => ?_) (fun f cdv A outer s H vs Q E hr h => ?_)
  · obtain ⟨cs, rfl, _⟩ := h
    rfl
  · obtain ⟨cs, rfl, hl, q⟩ := h
    refine ⟨_, (pss_cons (ps_if (pt_val (pe_ca c_is_word hr (by decide) (by rfl) (pa_cons (pv 0) pa_nil)))
  (pss_one (ps_ret (pe_tup (pa_cons pe_str (pa_cons (pv 0) pa_nil)))))
  pss_nil)
  (pss_cons (ps_if (pt_val (pe_ca c_is_name hr (by decide) (by rfl) (pa_cons (pv 0) pa_nil)))
  (pss_one (ps_ret (pe_tup (pa_cons pe_str (pa_cons (pv 0) pa_nil)))))
  pss_nil)
  (pss_cons (ps_if (PW.pt (pw_and (pt_val (pe_m1 PySem.F.slot_str_startswith PySem.F.type_str_startswith mq_starts (pv 0) pe_str)) (pw_and1 (pt_val (pe_ca c_is_unknown hr (by decide) (by rfl) (pa_cons (pe_slice C8.sl_txt (pv 0) (po_some pe_int) po_none) pa_nil))))))
  (pss_one (ps_ret (pe_tup (pa_cons pe_str (pa_cons (pe_slice C8.sl_txt (pv 0) (po_some pe_int) po_none) pa_nil)))))
  pss_nil)
  (pss_one (ps_ret pe_non))))), ?_⟩
    walk_at "go"
    refine ⟨cs, rfl, hl, fun H1 e1 => ?_⟩
    walk_at "go"
    refine iteB (fun h1 => ?_) (fun h1 => ?_)
    · walk_at "go"
      refine ⟨by show 2 ≤ sizeLine; decide, fun p hp => ?_⟩
      refine q _ _ (e1.trans (Same.upd hp)) ?_
      unfold kindOf
      rw [if_pos h1]
      exact ⟨p, rfl, upd_same⟩
    walk_at "go"
    refine ⟨cs, rfl, hl, fun H2 e2 => ?_⟩
    walk_at "go"
    refine iteB (fun h2 => ?_) (fun h2 => ?_)
    · walk_at "go"
      refine ⟨by show 2 ≤ sizeLine; decide, fun p hp => ?_⟩
      refine q _ _ ((e1.trans e2).trans (Same.upd hp)) ?_
      unfold kindOf
      rw [if_neg (by rw [h1]; decide), if_pos h2]
      exact ⟨p, rfl, upd_same⟩
    walk_at "go"
    rw [starts_q]
    refine iteD (fun h3 => ?_) (fun h3 => ?_)
    · walk_at "go"
      rw [slice_one]
      refine ⟨cs.tail, rfl, by rw [List.length_tail]; omega, fun H3 e3 => ?_⟩
      walk_at "go"
      refine iteB (fun h4 => ?_) (fun h4 => ?_)
      · walk_at "go"
        rw [slice_one]
        refine ⟨by show 2 ≤ sizeLine; decide, fun p hp => ?_⟩
        refine q _ _ (((e1.trans e2).trans e3).trans (Same.upd hp)) ?_
        unfold kindOf
        rw [if_neg (by rw [h1]; decide), if_neg (by rw [h2]; decide), if_pos ⟨h3, h4⟩]
        exact ⟨p, rfl, upd_same⟩
      · walk_at "go"
        refine q _ _ ((e1.trans e2).trans e3) ?_
        unfold kindOf
        rw [if_neg (by rw [h1]; decide), if_neg (by rw [h2]; decide), if_neg (fun z => by rw [h4] at z; exact absurd z.2 (by decide))]
        rfl
    · walk_at "go"
      refine q _ _ (e1.trans e2) ?_
      unfold kindOf
      rw [if_neg (by rw [h1]; decide), if_neg (by rw [h2]; decide), if_neg (fun z => h3 z.1)]
      rfl
end
theorem dig_cap : ∀ c ∈ digL, c ∉ capL := by decide +kernel
theorem cap_dig {c : Nat} (h : c ∈ capL) : digL.contains c = false := by
  cases e : digL.contains c with
  | false => rfl
  | true => exact absurd h (dig_cap c (List.contains_iff_mem.mp e))
theorem allIn_mem {cs ss : List Nat} (h : allIn cs ss = true) : ∀ c ∈ cs, c ∈ ss := fun c hc => of_decide_eq_true (List.all_eq_true.mp h c hc)
theorem allIn_of {cs ss : List Nat} (h : ∀ c ∈ cs, c ∈ ss) : allIn cs ss = true := List.all_eq_true.mpr fun c hc => decide_eq_true (h c hc)
theorem tw_all {p : Nat → Bool} : ∀ (l : List Nat), ∀ c ∈ l.takeWhile p, p c = true
  | [], c, h => by simp at h
  | a :: r, c, h => by
    rw [List.takeWhile_cons] at h
    split at h
    · rename_i ha
      rcases List.mem_cons.mp h with e | h
      · rw [e]; exact ha
      · exact tw_all r c h
    · simp at h
theorem noDig_split (cs : List Nat) : ∃ ds, cs = noDig cs ++ ds ∧ ∀ c ∈ ds, c ∈ digL := by
  refine ⟨(cs.reverse.takeWhile fun c => digL.contains c).reverse, ?_, fun c hc => ?_⟩
  · unfold noDig
    rw [← List.reverse_append, List.takeWhile_append_dropWhile, List.reverse_reverse]
  · exact List.contains_iff_mem.mp (tw_all _ c (List.mem_reverse.mp hc))
theorem noDig_of {as ds : List Nat} (ha : ∀ c ∈ as, c ∈ capL) (hd : ∀ c ∈ ds, c ∈ digL) : noDig (as ++ ds) = as := by
  unfold noDig
  rw [List.reverse_append, List.dropWhile_append_of_pos fun c hc => List.contains_iff_mem.mpr (hd c (List.mem_reverse.mp hc))]
  cases e : as.reverse with
  | nil =>
    have : as = [] := List.reverse_eq_nil_iff.mp e
    rw [this]; rfl
  | cons c r =>
    have hc : c ∈ as := List.mem_reverse.mp (by rw [e]; exact List.mem_cons_self ..)
    rw [List.dropWhile_cons, if_neg (by rw [cap_dig (ha c hc)]; decide), ← e, List.reverse_reverse]
theorem filter_of {as ds : List Nat} (ha : ∀ c ∈ as, c ∈ capL) (hd : ∀ c ∈ ds, c ∈ digL) : (as ++ ds).filter (fun c => decide (c ∈ capL)) = as := by
  rw [List.filter_append, List.filter_eq_self.mpr fun c hc => decide_eq_true (ha c hc), List.filter_eq_nil_iff.mpr fun c hc => by simpa using dig_cap c (hd c hc), List.append_nil]
theorem name_iff {cs : List Nat} (h8 : cs.length ≤ 8) : isNameB cs = true ↔ 0 < (cs.filter fun c => decide (c ∈ capL)).length ∧ allIn (cs.take (cs.filter fun c => decide (c ∈ capL)).length) capL = true ∧ allIn (cs.drop (cs.filter fun c => decide (c ∈ capL)).length) digL = true := by
  constructor
  · intro h
    simp only [isNameB, Bool.and_eq_true, decide_eq_true_eq] at h
    obtain ⟨h1, _, h2⟩ := h
    obtain ⟨ds, e, hd⟩ := noDig_split cs
    have ha := allIn_mem h2
    generalize noDig cs = as at e ha h1 h2
    subst e
    rw [filter_of ha hd, List.take_left, List.drop_left]
    exact ⟨h1, h2, allIn_of hd⟩
  · rintro ⟨h1, h2, h3⟩
    have e := (List.take_append_drop (cs.filter fun c => decide (c ∈ capL)).length cs).symm
    have hn : noDig cs = cs.take (cs.filter fun c => decide (c ∈ capL)).length := by
      conv => lhs; rw [e]
      exact noDig_of (allIn_mem h2) (allIn_mem h3)
    have hl : (cs.filter fun c => decide (c ∈ capL)).length ≤ cs.length := List.length_filter_le _ _
    simp only [isNameB, Bool.and_eq_true, decide_eq_true_eq]
    rw [hn]
    exact ⟨by rw [List.length_take]; omega, h8, h2⟩
theorem name_head {cs : List Nat} (h : isNameB cs = true) : ∃ c r, cs = c :: r ∧ c ∈ capL := by
  simp only [isNameB, Bool.and_eq_true, decide_eq_true_eq] at h
  obtain ⟨h1, _, h2⟩ := h
  obtain ⟨ds, e, _⟩ := noDig_split cs
  cases q : noDig cs with
  | nil => rw [q] at h1; exact absurd h1 (by decide)
  | cons c r =>
    rw [q] at e h2
    exact ⟨c, r ++ ds, e, allIn_mem h2 c (List.mem_cons_self ..)⟩
end Op

namespace Op
open PySem PySem.Spec PyProof.Rows L2 SX
local macro_rules | `(tactic| walk_at "go1") => `(tactic| first
  | ((with_reducible refine' g_var ?h ?_); (case h => rfl)) | with_reducible refine' g_c ?_ | with_reducible refine' g_op ?_ | with_reducible refine' g_un ?_ | with_reducible refine' g_if ?_ | with_reducible refine' g_test ?_ | with_reducible refine' g_B ?_ | with_reducible refine' g_bl ?_
  | with_reducible refine' g_not ?_ | with_reducible refine' g_and ?_ | with_reducible refine' g_or ?_ | with_reducible refine' g_andV ?_ | with_reducible refine' g_orV ?_ | with_reducible refine' g_notV ?_ | with_reducible refine' g_nil ?_ | with_reducible refine' g_cons ?_ | with_reducible refine' g_CB ?_ | with_reducible refine' g_ca ?_
  | with_reducible refine' g_seq ?_ | with_reducible refine' g_next ?_ | with_reducible refine' g_asg ?_ | with_reducible refine' g_name ?_ | with_reducible refine' g_ret ?_ | with_reducible refine' g_retN ?_ | with_reducible refine' g_drop ?_ | with_reducible refine' g_ifS ?_ | with_reducible refine' g_sub ?_
  | with_reducible refine' g_I0 ?_ | with_reducible refine' g_U ?_ | ((with_reducible refine' g_eq ?h ?_); (case h => rfl)) | ((with_reducible refine' g_ne ?h ?_); (case h => rfl))
  | ((with_reducible refine' g_lenL ?h ?_); (case h => first | assumption | exact SqL.of (by assumption) | exact SqL.of upd_same)) | ((with_reducible refine' g_lenT ?h ?_); (case h => first | assumption | exact SqT.of (by assumption) | exact SqT.of upd_same))
  | ((with_reducible refine' g_ixL ?h ?ha ?_); (case h => first | assumption | exact SqL.of (by assumption) | exact SqL.of upd_same); (case ha => rfl)) | ((with_reducible refine' g_ixT ?h ?ha ?_); (case h => first | assumption | exact SqT.of (by assumption) | exact SqT.of upd_same); (case ha => rfl))
  | ((with_reducible refine' g_I ?h ?_); (case h => first | decide | omega | (first | refine' ⟨?_, ?_, ?_⟩ | refine' ⟨?_, ?_⟩ | refine' Or.inl ⟨?_, ?_⟩) <;> omega | (refine' Or.inr ⟨?_, ?_⟩ <;> omega)))
  | ((with_reducible refine' g_setL ?h ?ha ?_); (case h => first | assumption | exact upd_same); (case ha => rfl))
  | with_reducible refine' g_lcR ?_
  | with_reducible refine' g_M1 ?_ | with_reducible refine' g_isS ?_ | with_reducible refine' g_tyS ?_ | ((with_reducible refine' g_tyL ?h ?_); (case h => first | assumption | exact upd_same))
  | ((with_reducible refine' g_cat ?h ?h2 ?hl ?_); (case h => first | assumption | exact upd_same); (case h2 => first | assumption | exact upd_same); (case hl => first | decide | (simp; omega)))
  | with_reducible refine' g_lcS ?_
  | with_reducible refine' g_starts ?_ | with_reducible refine' g_chain ?_
  | ((with_reducible refine' g_lenS ?h ?_); (case h => first | exact len_le (by assumption) | exact len_le (by omega))) | ((with_reducible refine' g_rstrip ?h ?_); (case h => first | exact len_le (by assumption) | exact len_le (by omega))) | ((with_reducible refine' g_slX ?h ?_); (case h => first | exact len_le (by assumption) | exact len_le (by omega)))
  | with_reducible refine' g_sl ?_ | with_reducible refine' g_nopart ?_ | with_reducible refine' g_part ?_ | with_reducible refine' g_isI ?_
  | with_reducible refine' g_tru ?_
  | with_reducible refine' iteT ?_ | with_reducible refine' iteF ?_ | with_reducible refine' iteNT ?_ | with_reducible refine' iteNF ?_
  | with_reducible refine' g_int ?_ | with_reducible refine' g_insg ?_ | with_reducible refine' g_ninsg ?_ | with_reducible refine' g_isN ?_ | with_reducible refine' g_notN ?_ | with_reducible refine' g_lst ?_ | with_reducible refine' g_tup ?_ | with_reducible refine' g_BM ?_ | with_reducible refine' g_BM0 ?_)
local macro_rules | `(tactic| walk_at "go") => `(tactic| repeat' walk_at "go1")
/-! ## forms -/
/-- a form: an atom with its text, one or two inner forms -/
inductive Fm where
  | atm (k : Str) (t : List Nat) | un (k : Str) (a : Fm) | bi (k : Str) (a b : Fm)
/-- the form stands at v, of tuples -/
inductive FmAt (H : Hp) : V → Fm → Prop where
  | atm {p : Addr} {k : Str} {t : List Nat} : H p = some (.tup [.str k, .str (S t)]) → FmAt H (.ref p) (.atm k t)
  | un {p : Addr} {k : Str} {v : V} {a : Fm} : H p = some (.tup [.str k, v]) → FmAt H v a → FmAt H (.ref p) (.un k a)
  | bi {p : Addr} {k : Str} {v u : V} {a b : Fm} : H p = some (.tup [.str k, v, u]) → FmAt H v a → FmAt H u b → FmAt H (.ref p) (.bi k a b)
theorem FmAt.tps {H H' : Hp} (s : Tps H H') : ∀ {v : V} {a : Fm}, FmAt H v a → FmAt H' v a := by
  intro v a h
  induction h with
  | atm h => exact .atm (s _ _ h)
  | un h _ ih => exact .un (s _ _ h) ih
  | bi h _ _ ih1 ih2 => exact .bi (s _ _ h) ih1 ih2
theorem FmAt.same {H H' : Hp} {v : V} {a : Fm} (h : FmAt H v a) (s : Same H H') : FmAt H' v a := h.tps (Tps.same s)
abbrev kMark : Str := Str.ofString "mark"
abbrev kOpen : Str := Str.ofString "open"
abbrev kOwn : Str := Str.ofString "own"
abbrev kPair : Str := Str.ofString "pair"
abbrev kSeal : Str := Str.ofString "seal"
abbrev kLock : Str := Str.ofString "lock"
def unK (k : Str) : Bool := k == kMark || k == kOpen || k == kOwn
def biK (k : Str) : Bool := k == kPair || k == kSeal || k == kLock
def atK (k : Str) : Bool := k == kWord || k == kName || k == kUnk
def Fm.head : Fm → Str
  | .atm k _ => k
  | .un k _ => k
  | .bi k _ _ => k
/-- the form's words are of the right kind -/
def Fm.kin : Fm → Bool
  | .atm k _ => atK k
  | .un k a => unK k && a.kin
  | .bi k a b => biK k && (a.kin && b.kin)
def Fm.isKey : Fm → Bool
  | .un k _ => k == kOpen || k == kOwn
  | _ => false
/-- a form, as the document says -/
def Fm.ok : Fm → Bool
  | .atm k t => (k == kWord && isWordB t) || ((k == kName && isNameB t) || (k == kUnk && isUnkB t))
  | .un k a => unK k && a.ok
  | .bi k a b => biK k && ((!(k == kLock) || b.isKey) && (a.ok && b.ok))
theorem Fm.ok_kin : ∀ {a : Fm}, a.ok = true → a.kin = true
  | .atm k t, h => by
    simp only [Fm.ok, Bool.or_eq_true, Bool.and_eq_true] at h
    simp only [Fm.kin, atK, Bool.or_eq_true]
    rcases h with h | h | h
    · exact .inl (.inl h.1)
    · exact .inl (.inr h.1)
    · exact .inr h.1
  | .un k a, h => by
    simp only [Fm.ok, Bool.and_eq_true] at h
    simp only [Fm.kin, Bool.and_eq_true]
    exact ⟨h.1, Fm.ok_kin h.2⟩
  | .bi k a b, h => by
    simp only [Fm.ok, Bool.and_eq_true] at h
    simp only [Fm.kin, Bool.and_eq_true]
    exact ⟨h.1, Fm.ok_kin h.2.2.1, Fm.ok_kin h.2.2.2⟩
/-- how many forms stand in it -/
def Fm.size : Fm → Nat
  | .atm _ _ => 1
  | .un _ a => a.size + 1
  | .bi _ a b => a.size + b.size + 1
theorem Fm.size_pos : ∀ a : Fm, 0 < a.size
  | .atm _ _ => Nat.one_pos
  | .un _ _ => Nat.succ_pos _
  | .bi _ _ _ => Nat.succ_pos _
/-- the text of an atom -/
def atTxt (k : Str) (t : List Nat) : List Nat := if k = kUnk then 63 :: t else t
/-- the written letter -/
def Fm.txt : Fm → List Nat
  | .atm k t => atTxt k t
  | .un k a => k.cps.toList ++ [40] ++ a.txt ++ [41]
  | .bi k a b => k.cps.toList ++ [40] ++ a.txt ++ [44, 32] ++ b.txt ++ [41]
/-- every text in it is short -/
def Fm.small : Fm → Prop
  | .atm k t => t.length ≤ 8
  | .un _ a => a.small
  | .bi _ a b => a.small ∧ b.small
theorem Fm.ok_small : ∀ {a : Fm}, a.ok = true → a.small
  | .atm k t, h => by
    simp only [Fm.ok, Bool.or_eq_true, Bool.and_eq_true, isWordB, isNameB, isUnkB, decide_eq_true_eq] at h
    show t.length ≤ 8
    omega
  | .un k a, h => by
    simp only [Fm.ok, Bool.and_eq_true] at h
    show a.small
    exact Fm.ok_small h.2
  | .bi k a b, h => by
    simp only [Fm.ok, Bool.and_eq_true] at h
    exact ⟨Fm.ok_small h.2.2.1, Fm.ok_small h.2.2.2⟩
/-! what stands on form_text's stack -/
inductive It2 where
  | s (z : List Nat) | f (a : Fm)
def It2.txt : It2 → List Nat
  | .s z => z
  | .f a => a.txt
def Fm.wt : Fm → Nat
  | .atm _ _ => 1
  | .un _ a => a.wt + 3
  | .bi _ a b => a.wt + b.wt + 5
def It2.wt : It2 → Nat
  | .s _ => 1
  | .f a => a.wt
def It2.good : It2 → Prop
  | .s _ => True
  | .f a => a.kin = true ∧ a.small
def ItAt (H : Hp) (v : V) : It2 → Prop
  | .s z => v = .str (S z)
  | .f a => FmAt H v a
theorem ItAt.tps {H H' : Hp} {v : V} {x : It2} (t : Tps H H') (h : ItAt H v x) : ItAt H' v x := by
  cases x with
  | s z => exact h
  | f a => exact FmAt.tps t h
theorem Fm.wt_pos (a : Fm) : 0 < a.wt := by cases a <;> simp [Fm.wt]
theorem Fm.wt_le : ∀ a : Fm, a.wt ≤ 5 * a.size
  | .atm _ _ => by simp [Fm.wt, Fm.size]
  | .un _ a => by have := Fm.wt_le a; simp only [Fm.wt, Fm.size]; omega
  | .bi _ a b => by have := Fm.wt_le a; have := Fm.wt_le b; simp only [Fm.wt, Fm.size]; omega
theorem unK_len {k : Str} (h : unK k = true) : k.cps.toList.length ≤ 7 := by
  simp only [unK, Bool.or_eq_true, beq_iff_eq] at h
  rcases h with (rfl | rfl) | rfl <;> decide +kernel
theorem biK_len {k : Str} (h : biK k = true) : k.cps.toList.length ≤ 7 := by
  simp only [biK, Bool.or_eq_true, beq_iff_eq] at h
  rcases h with (rfl | rfl) | rfl <;> decide +kernel
theorem atTxt_len {k : Str} {t : List Nat} : (atTxt k t).length ≤ t.length + 1 := by
  unfold atTxt
  split
  · simp
  · omega
theorem Fm.txt_len : ∀ {a : Fm}, a.kin = true → a.small → a.txt.length ≤ 20 * a.size
  | .atm k t, _, h => by
    have h' : t.length ≤ 8 := h
    have := atTxt_len (k := k) (t := t)
    show (atTxt k t).length ≤ 20 * 1
    omega
  | .un k a, h, hs => by
    simp only [Fm.kin, Bool.and_eq_true] at h
    have hs' : a.small := hs
    have h1 := unK_len h.1
    have h2 := Fm.txt_len h.2 hs'
    simp only [Fm.txt, Fm.size, List.length_append, List.length_cons, List.length_nil]
    omega
  | .bi k a b, h, hs => by
    simp only [Fm.kin, Bool.and_eq_true] at h
    have hs' : a.small ∧ b.small := hs
    have h1 := biK_len h.1
    have h2 := Fm.txt_len h.2.1 hs'.1
    have h3 := Fm.txt_len h.2.2 hs'.2
    simp only [Fm.txt, Fm.size, List.length_append, List.length_cons, List.length_nil]
    omega
theorem joinL_nil : ∀ zs : List (List Nat), TL.joinL [] zs = zs.flatten
  | [] => rfl
  | [p] => by simp [TL.joinL]
  | p :: q :: r => by
    have ih := joinL_nil (q :: r)
    show p ++ ([] ++ TL.joinL [] (q :: r)) = p ++ (q :: r).flatten
    rw [ih]
    rfl
theorem join_flat (zs : List (List Nat)) : Txt.join (Str.ofString "") (zs.map S) = S zs.flatten := by
  rw [show Str.ofString "" = S [] by decide +kernel, join_S, joinL_nil]
theorem sum_flat : ∀ zs : List (List Nat), ((zs.map S).map (·.length)).sum = zs.flatten.length
  | [] => rfl
  | z :: r => by
    have ih := sum_flat r
    show (S z).length + ((r.map S).map (·.length)).sum = (z ++ r.flatten).length
    rw [ih, S_len, List.length_append]
/-- the loop's word: zs the pieces, st the stack from its top -/
def FtW (H0 : Hp) (v : V) (a : Fm) (pp pl : Addr) (m : Nat) (σ : L2.St) (H : Hp) : Prop := ∃ (zs : List (List Nat)) (st : List (V × It2)) (px : Option V), σ = [some v, some (.ref pp), some (.ref pl), px] ∧ Same H0 H ∧
  H pp = some (.lst (zs.map fun z => .str (S z))) ∧ H pl = some (.lst (st.map (·.1)).reverse) ∧ (∀ x ∈ st, ItAt H x.1 x.2 ∧ x.2.good) ∧
  zs.flatten ++ (st.map fun x => x.2.txt).flatten = a.txt ∧ m = (st.map fun x => x.2.wt).sum ∧ zs.length + m ≤ a.wt
def spAtomText : Sp := fun vs H Q _ => ∃ (p : Addr) (k : Str) (t : List Nat), vs = [.ref p] ∧ H p = some (.tup [.str k, .str (S t)]) ∧ t.length < 1000000 ∧ Q (.str (S (atTxt k t))) H
def spFormText : Sp := fun vs H Q _ => ∃ (v : V) (a : Fm), vs = [v] ∧ FmAt H v a ∧ a.kin = true ∧ a.small ∧ a.size ≤ 10000 ∧ ∀ H', Same H H' → Q (.str (S a.txt)) H'
section
variable {P : Program} {w : World} {K : PySem.W.Frag} {mg : Str → Option Value} {base : Heap}
theorem ca_atom_text (T : Bl K mg) (D : Df K mg "atom_text" s_atom_text p_atom_text) : Ca P w K mg base 1 "atom_text" spAtomText := by
  refine ca_n D sc_atom_text (fun vs H Q E h => ?_) (fun f cdv A outer s H vs Q E hr h => ?_)
  · obtain ⟨p, k, t, rfl, _⟩ := h
    rfl
  · obtain ⟨p, k, t, rfl, hp, hl, q⟩ := h
    refine ⟨_, (pss_cons (ps_if (pt_cmpR op_eq (pe_ix ix_tup (pv 0) pe_int (fun _ _ => rfl)) pe_str (nomark _))
  (pss_one (ps_ret (pe_op oq_adds pe_str (pe_ix ix_tup (pv 0) pe_int (fun _ _ => rfl)))))
  pss_nil)
  (pss_one (ps_ret (pe_ix ix_tup (pv 0) pe_int (fun _ _ => rfl))))), ?_⟩
    walk_at "go"
    refine iteD (fun h => ?_) (fun h => ?_)
    · walk_at "go"
      refine g_catS (by rw [S_len, sizeLine_eq]; exact Nat.le_trans (Nat.add_le_add_left (Nat.le_of_lt hl) _) (by decide +kernel)) ?_
      have e : k = kUnk := V.str.inj h
      have e2 : Str.ofString "?" ++ S t = S (atTxt k t) := by
        unfold atTxt
        rw [if_pos e, show Str.ofString "?" = S [63] by decide +kernel, S_cat]
        rfl
      rw [e2]
      exact q
    · walk_at "go"
      have e2 : S t = S (atTxt k t) := by
        unfold atTxt
        rw [if_neg fun z => h (congrArg V.str z)]
      rw [e2]
      exact q
theorem FtW.piece {H0 H1 : Hp} {v : V} {a : Fm} {pp pl : Addr} {m : Nat} {zs : List (List Nat)} {r : List (V × It2)} {px : Option V} {x : It2} {z : List Nat} {ys : List V} (sH : Same H0 H1) (hpp : H0 pp = none) (hpl : H0 pl = none) (npl : pp ≠ pl)
    (h1 : H1 pp = some (.lst (zs.map fun z => .str (S z)))) (h2 : H1 pl = some (.lst ys)) (h3 : ∀ y ∈ r, ItAt H1 y.1 y.2 ∧ y.2.good) (h4 : zs.flatten ++ (x.txt ++ (r.map fun x => x.2.txt).flatten) = a.txt) (hz : x.txt = z) (hw : 0 < x.wt)
    (h5 : m = x.wt + (r.map fun x => x.2.wt).sum) (h6 : zs.length + m ≤ a.wt) :
    ∃ m', m' < m ∧ FtW H0 v a pp pl m' [some v, some (.ref pp), some (.ref pl), px] (L2.upd (L2.upd H1 pl (.lst (r.map (·.1)).reverse)) pp (.lst ((zs.map fun z => .str (S z)) ++ [.str (S z)]))) := by
  have t1 : Tps H1 (L2.upd H1 pl (.lst (r.map (·.1)).reverse)) := Tps.lst h2
  have hp1 : L2.upd H1 pl (.lst (r.map (·.1)).reverse) pp = some (.lst (zs.map fun z => .str (S z))) := by rw [upd_ne npl]; exact h1
  refine ⟨(r.map fun x => x.2.wt).sum, by omega, zs ++ [z], r, _, rfl, Same.mut (Same.mut sH hpl) hpp, ?_, ?_, fun y hy => ⟨ItAt.tps (t1.trans (Tps.lst hp1)) (h3 y hy).1, (h3 y hy).2⟩, ?_, rfl, ?_⟩
  · rw [upd_same, List.map_append]; rfl
  · rw [upd_ne npl.symm, upd_same]
  · rw [← h4, ← hz]; simp
  · rw [List.length_append, List.length_singleton]
    omega
/-- .. where the part opened is put back in pieces -/
theorem FtW.open {H0 H1 H2 : Hp} {v : V} {a : Fm} {pp pl : Addr} {m : Nat} {zs : List (List Nat)} {r st : List (V × It2)} {px : Option V} {x : It2} (sH : Same H0 H2) (t : Tps H1 H2)
    (h1 : H2 pp = some (.lst (zs.map fun z => .str (S z)))) (h2 : H2 pl = some (.lst (st.map (·.1)).reverse)) (hst : ∀ y ∈ st, y ∈ r ∨ (ItAt H2 y.1 y.2 ∧ y.2.good)) (h3 : ∀ y ∈ r, ItAt H1 y.1 y.2 ∧ y.2.good) (h4 : zs.flatten ++ (x.txt ++ (r.map fun x => x.2.txt).flatten) = a.txt)
    (hz : (st.map fun x => x.2.txt).flatten = x.txt ++ (r.map fun x => x.2.txt).flatten) (hw : (st.map fun x => x.2.wt).sum + 1 ≤ x.wt + (r.map fun x => x.2.wt).sum) (h5 : m = x.wt + (r.map fun x => x.2.wt).sum) (h6 : zs.length + m ≤ a.wt) :
    ∃ m', m' < m ∧ FtW H0 v a pp pl m' [some v, some (.ref pp), some (.ref pl), px] H2 := by
  refine ⟨(st.map fun x => x.2.wt).sum, by omega, zs, st, _, rfl, sH, h1, h2, fun y hy => ?_, by rw [hz, h4], rfl, by omega⟩
  rcases hst y hy with q | q
  · exact ⟨ItAt.tps t (h3 y q).1, (h3 y q).2⟩
  · exact q
theorem It2.wt_pos (x : It2) : 0 < x.wt := by
  cases x with
  | s z => exact Nat.one_pos
  | f a => exact Fm.wt_pos a
theorem wt_len : ∀ r : List (V × It2), r.length ≤ (r.map fun x => x.2.wt).sum
  | [] => Nat.le_refl _
  | x :: r => by
    have ih := wt_len r
    have h := It2.wt_pos x.2
    show r.length + 1 ≤ x.2.wt + (r.map fun x => x.2.wt).sum
    omega
theorem len_lp : (Str.ofString "(").length = 1 := by decide +kernel
theorem unK_at {k : Str} (h : unK k = true) : atK k = false := by
  simp only [unK, Bool.or_eq_true, beq_iff_eq] at h
  rcases h with (rfl | rfl) | rfl <;> decide +kernel
theorem biK_at {k : Str} (h : biK k = true) : atK k = false := by
  simp only [biK, Bool.or_eq_true, beq_iff_eq] at h
  rcases h with (rfl | rfl) | rfl <;> decide +kernel
theorem str_len (k : Str) : k.length = k.cps.toList.length := by simp [Str.length]
theorem paren (k : Str) : k ++ Str.ofString "(" = S (k.cps.toList ++ [40]) := by
  rw [show Str.ofString "(" = S [40] by decide +kernel, ← S_cat, S_tl]
theorem inV_atoms (k : Str) : inV (.str k) [V.str kWord, V.str kName, V.str kUnk] = atK k := by
  show (eqV (.str kWord) (.str k) || (eqV (.str kName) (.str k) || (eqV (.str kUnk) (.str k) || false))) = _
  show ((kWord == k) || ((kName == k) || ((kUnk == k) || false))) = ((k == kWord || k == kName) || k == kUnk)
  rw [Bool.or_false, Bool.or_assoc, BEq.comm (a := kWord), BEq.comm (a := kName), BEq.comm (a := kUnk)]
theorem ca_form_text (T : Bl K mg) (D : Df K mg "form_text" s_form_text p_form_text) (c_atom_text : Ca P w K mg base 1 "atom_text" spAtomText) : Ca P w K mg base 2 "form_text" spFormText := by
  obtain ⟨aA, hA, tA⟩ := T.t_ATOMS
  have c_ATOMS : ∃ u, mg "ATOMS" = some u ∧ RelV (.ref aA) u := ⟨_, hA, rfl⟩
  refine ca_n D sc_form_text (fun vs H Q E h => ?_) (fun f cdv A outer s H vs Q E hr h => ?_)
  · obtain ⟨v, a, rfl, _⟩ := h
    rfl
  · obtain ⟨v, a, rfl, ha, hk, hs, hz, q⟩ := h
    refine ⟨_, (pss_cons (ps_set (i := 1) sc_form_text.nd rfl (Or.inl rfl) (pe_lst pa_nil))
  (pss_cons (ps_set (i := 2) sc_form_text.nd rfl (Or.inl rfl) (pe_lst (pa_cons (pv 0) pa_nil)))
  (pss_cons (ps_while PassesOwn.never (pq_truth (pv 2) (by intro _; rfl))
  (pss_cons (ps_set (i := 3) sc_form_text.nd rfl (Or.inl rfl) (pe_bm0 PySem.F.plainAttrs_list PySem.F.slot_list_pop PySem.F.type_list_pop mt_pop (pv 2)))
  (pss_one (ps_if (pt_val (pe_callB call_isi (by rfl) T.b_isinstance (by decide +kernel) (pa_cons (pv 3) (pa_cons (pe_bltn (v := .ty "str") (u := .type "str") (by rfl) T.b_str (by decide +kernel) rfl) pa_nil))))
  (pss_one (ps_expr (pe_bm PySem.F.plainAttrs_list PySem.F.slot_list_append PySem.F.type_list_append mt_append (pv 1) (pa_cons (pv 3) pa_nil))))
  (pss_one (ps_if (pt_cmpR op_in_seq (pe_ix ix_tup (pv 3) pe_int (fun _ _ => rfl)) (C8.pe_gc (by rfl) c_ATOMS) rfl)
  (pss_one (ps_expr (pe_bm PySem.F.plainAttrs_list PySem.F.slot_list_append PySem.F.type_list_append mt_append (pv 1) (pa_cons (pe_ca c_atom_text hr (by decide) (by rfl) (pa_cons (pv 3) pa_nil)) pa_nil))))
  (pss_cons (ps_expr (pe_bm PySem.F.plainAttrs_list PySem.F.slot_list_append PySem.F.type_list_append mt_append (pv 2) (pa_cons pe_str pa_nil)))
  (pss_cons (ps_if (pt_cmpR op_eq (pe_callB cq_len (by rfl) T.b_len (by decide +kernel) (pa_cons (pv 3) pa_nil)) pe_int (nomark _))
  (pss_one (ps_expr (pe_bm PySem.F.plainAttrs_list PySem.F.slot_list_extend PySem.F.type_list_extend mt_extend (pv 2) (pa_cons (pe_lst (pa_cons (pe_ix ix_tup (pv 3) pe_int (fun _ _ => rfl)) (pa_cons pe_str pa_nil))) pa_nil))))
  pss_nil)
  (pss_one (ps_expr (pe_bm PySem.F.plainAttrs_list PySem.F.slot_list_extend PySem.F.type_list_extend mt_extend (pv 2) (pa_cons (pe_lst (pa_cons (pe_ix ix_tup (pv 3) pe_int (fun _ _ => rfl)) (pa_cons (pe_op oq_adds (pe_ix ix_tup (pv 3) pe_int (fun _ _ => rfl)) pe_str) pa_nil))) pa_nil))))))))))))
  (pss_one (ps_ret (pq_join pe_str (pv 1))))))), ?_⟩
    walk_at "go"
    refine ⟨Nat.zero_le _, fun pp hpp => ?_⟩
    walk_at "go"
    refine ⟨by show 1 ≤ sizeLine; decide, fun pl hpl => ?_⟩
    walk_at "go"
    have hpl0 : H pl = none := (But.none (a := pp) But.upd hpl (fun e => by rw [e, upd_same] at hpl; cases hpl))
    have npl : pp ≠ pl := fun e => by rw [← e, upd_same] at hpl; cases hpl
    refine g_while (FtW H v a pp pl) a.wt ⟨[], [(v, .f a)], none, rfl, (Same.upd hpp).trans (Same.upd hpl), by rw [upd_ne npl, upd_same]; rfl, upd_same, ?_, by simp [It2.txt], by simp [It2.wt], Nat.le_of_eq (Nat.zero_add _)⟩ ?_
    · intro x hx
      rw [List.mem_singleton.mp hx]
      exact ⟨ha.tps ((Tps.new hpp).trans (Tps.new hpl)), hk, hs⟩
    · rintro m σ' H1 ⟨zs, st, px, rfl, sH, h1, h2, h3, h4, h5, h6⟩
      walk_at "go"
      refine g_truL (SqL.of h2) ?_
      cases st with
      | nil =>
        refine iteF ?_
        walk_at "go"
        have e : a.txt = zs.flatten := by rw [← h4]; simp
        have hl : a.txt.length ≤ 20 * a.size := Fm.txt_len hk hs
        refine g_join (ys := zs.map S) (by rw [List.map_map]; exact SqL.of h1) ?_ ?_
        · rw [sum_flat, ← e, show (Str.ofString "").length = 0 by decide +kernel]
          omega
        · rw [join_flat, ← e]
          exact q _ sH
      | cons hd r =>
        obtain ⟨u, x⟩ := hd
        obtain ⟨hx, hg⟩ := h3 (u, x) (List.mem_cons_self ..)
        have h3r : ∀ y ∈ r, ItAt H1 y.1 y.2 ∧ y.2.good := fun y hy => h3 y (List.mem_cons_of_mem _ hy)
        have e0 : (!(List.map (fun x => x.fst) ((u, x) :: r)).reverse.isEmpty) = true := by simp
        rw [e0]
        refine iteT ⟨_, fun _ _ n => n, ?_⟩
        walk_at "go"
        refine g_pop (xs := (r.map (·.1)).reverse) (by rw [h2, List.map_cons, List.reverse_cons]) ?_
        walk_at "go"
        have t1 : Tps H1 (L2.upd H1 pl (.lst (r.map (·.1)).reverse)) := Tps.lst h2
        cases x with
        | s z =>
          have hx' : u = .str (S z) := hx
          subst hx'
          refine g_isi (.ty _) (.base (.str _)) (kit_ty (b := "str") (r := true) (by decide +kernel)) ?_
          have hp1 : L2.upd H1 pl (.lst (r.map (·.1)).reverse) pp = some (.lst (zs.map fun z => .str (S z))) := by rw [upd_ne npl]; exact h1
          walk_at "go"
          refine g_app hp1 (by rw [List.length_map, sizeLine_eq]; have := Fm.wt_le a; omega) ?_
          exact FtW.piece (x := .s z) sH hpp hpl0 npl h1 h2 h3r h4 rfl Nat.one_pos h5 h6
        | f b =>
          have hb : FmAt H1 u b := hx
          have hg' : b.kin = true ∧ b.small := hg
          have hp1 : L2.upd H1 pl (.lst (r.map (·.1)).reverse) pp = some (.lst (zs.map fun z => .str (S z))) := by rw [upd_ne npl]; exact h1
          have hzl : zs.length < 1000000 := by have := Fm.wt_le a; omega
          have hrl : r.length < 1000000 := by
            have := Fm.wt_le a
            have := wt_len ((u, It2.f b) :: r)
            rw [List.length_cons] at this
            omega
          cases hb with
          | @atm p k t ep =>
            have ep1 := t1 _ _ ep
            refine g_isi (.ty _) (.base (.tup ep1)) (kit_ty (b := "str") (r := false) (by decide +kernel)) ?_
            walk_at "go"
            refine g_inT (tA _) rfl rfl ?_
            rw [inV_atoms, show atK k = true from hg'.1]
            walk_at "go"
            have ht : t.length ≤ 8 := hg'.2
            refine ⟨p, k, t, rfl, ep1, by omega, ?_⟩
            walk_at "go"
            refine g_app hp1 (by rw [List.length_map, sizeLine_eq]; omega) ?_
            exact FtW.piece (x := .f (.atm k t)) sH hpp hpl0 npl h1 h2 h3r h4 rfl Nat.one_pos h5 h6
          | @un p k v1 b1 ep hb1 =>
            have ep1 := t1 _ _ ep
            refine g_isi (.ty _) (.base (.tup ep1)) (kit_ty (b := "str") (r := false) (by decide +kernel)) ?_
            walk_at "go"
            refine g_inT (tA _) rfl rfl ?_
            have hk1 : unK k = true ∧ b1.kin = true := by
              have z := hg'.1
              simp only [Fm.kin, Bool.and_eq_true] at z
              exact z
            rw [inV_atoms, unK_at hk1.1]
            walk_at "go"
            refine g_app upd_same (by rw [List.length_reverse, List.length_map, sizeLine_eq]; omega) ?_
            rw [upd_upd]
            have ep2 : L2.upd H1 pl (.lst ((r.map (·.1)).reverse ++ [.str (Str.ofString ")")])) p = some (.tup [.str k, v1]) := Tps.lst h2 _ _ ep
            walk_at "go"
            refine iteD (fun h => absurd (V.int.inj h) (by simp)) (fun _ => ?_)
            walk_at "go"
            refine g_catS (by rw [str_len, sizeLine_eq]; have := unK_len hk1.1; rw [len_lp]; omega) ?_
            walk_at "go"
            refine ⟨by show 2 ≤ sizeLine; decide, fun p2 hp2 => ?_⟩
            walk_at "go"
            have n2 : pl ≠ p2 := fun e => by rw [← e, upd_same] at hp2; cases hp2
            have n3 : H1 p2 = none := by rw [upd_ne n2.symm] at hp2; exact hp2
            refine g_ext (by rw [upd_ne n2]; exact upd_same) upd_same (by rw [List.length_append, List.length_reverse, List.length_map, sizeLine_eq]; show r.length + 1 + 2 ≤ _; omega) ?_
            have tt : Tps H1 (L2.upd (L2.upd (L2.upd H1 pl (.lst ((r.map (·.1)).reverse ++ [.str (Str.ofString ")")]))) p2 (.lst [v1, .str (k ++ Str.ofString "(")])) pl (.lst (((r.map (·.1)).reverse ++ [.str (Str.ofString ")")]) ++ [v1, .str (k ++ Str.ofString "(")]))) :=
              ((Tps.lst h2).trans (Tps.new hp2)).trans (Tps.lst (xs := (r.map (·.1)).reverse ++ [.str (Str.ofString ")")]) (by rw [upd_ne n2]; exact upd_same))
            refine FtW.open (x := .f (.un k b1)) (st := (.str (k ++ Str.ofString "("), .s (k.cps.toList ++ [40])) :: (v1, .f b1) :: (.str (Str.ofString ")"), .s [41]) :: r) (r := r) (Same.mut (Same.mut (Same.mut sH hpl0) (Same.free sH n3)) hpl0) tt ?_ ?_ ?_ h3r h4 ?_ ?_ h5 h6
            · rw [upd_ne npl, upd_ne (fun e => by rw [← e, upd_ne npl, h1] at hp2; cases hp2), upd_ne npl]
              exact h1
            · rw [upd_same]; simp
            · intro y hy
              rcases List.mem_cons.mp hy with rfl | hy
              · exact .inr ⟨by show V.str _ = V.str _; rw [paren], trivial⟩
              rcases List.mem_cons.mp hy with rfl | hy
              · exact .inr ⟨hb1.tps tt, hk1.2, hg'.2⟩
              rcases List.mem_cons.mp hy with rfl | hy
              · exact .inr ⟨by show V.str _ = V.str _; rw [show Str.ofString ")" = S [41] by decide +kernel], trivial⟩
              · exact .inl hy
            · simp [It2.txt, Fm.txt]
            · simp only [List.map_cons, List.sum_cons, It2.wt, Fm.wt]
              omega
          | @bi p k v1 v2 b1 b2 ep hb1 hb2 =>
            have ep1 := t1 _ _ ep
            refine g_isi (.ty _) (.base (.tup ep1)) (kit_ty (b := "str") (r := false) (by decide +kernel)) ?_
            walk_at "go"
            refine g_inT (tA _) rfl rfl ?_
            have hk1 : biK k = true ∧ b1.kin = true ∧ b2.kin = true := by
              have z := hg'.1
              simp only [Fm.kin, Bool.and_eq_true] at z
              exact z
            have hsm : b1.small ∧ b2.small := hg'.2
            rw [inV_atoms, biK_at hk1.1]
            walk_at "go"
            refine g_app upd_same (by rw [List.length_reverse, List.length_map, sizeLine_eq]; omega) ?_
            rw [upd_upd]
            have ep2 : L2.upd H1 pl (.lst ((r.map (·.1)).reverse ++ [.str (Str.ofString ")")])) p = some (.tup [.str k, v1, v2]) := Tps.lst h2 _ _ ep
            walk_at "go"
            refine iteD (fun _ => ?_) (fun h => absurd rfl h)
            walk_at "go"
            refine ⟨by show 2 ≤ sizeLine; decide, fun p2 hp2 => ?_⟩
            walk_at "go"
            have n2 : pl ≠ p2 := fun e => by rw [← e, upd_same] at hp2; cases hp2
            have n3 : H1 p2 = none := by rw [upd_ne n2.symm] at hp2; exact hp2
            refine g_ext (by rw [upd_ne n2]; exact upd_same) upd_same (by rw [List.length_append, List.length_reverse, List.length_map, sizeLine_eq]; show r.length + 1 + 2 ≤ _; omega) ?_
            have tt2 : Tps H1 (L2.upd (L2.upd (L2.upd H1 pl (.lst ((r.map (·.1)).reverse ++ [.str (Str.ofString ")")]))) p2 (.lst [v2, .str (Str.ofString ", ")])) pl (.lst (((r.map (·.1)).reverse ++ [.str (Str.ofString ")")]) ++ [v2, .str (Str.ofString ", ")]))) :=
              ((Tps.lst h2).trans (Tps.new hp2)).trans (Tps.lst (xs := (r.map (·.1)).reverse ++ [.str (Str.ofString ")")]) (by rw [upd_ne n2]; exact upd_same))
            have sH2 : Same H (L2.upd (L2.upd (L2.upd H1 pl (.lst ((r.map (·.1)).reverse ++ [.str (Str.ofString ")")]))) p2 (.lst [v2, .str (Str.ofString ", ")])) pl (.lst (((r.map (·.1)).reverse ++ [.str (Str.ofString ")")]) ++ [v2, .str (Str.ofString ", ")]))) :=
              Same.mut (Same.mut (Same.mut sH hpl0) (Same.free sH n3)) hpl0
            have hpp2 : (L2.upd (L2.upd (L2.upd H1 pl (.lst ((r.map (·.1)).reverse ++ [.str (Str.ofString ")")]))) p2 (.lst [v2, .str (Str.ofString ", ")])) pl (.lst (((r.map (·.1)).reverse ++ [.str (Str.ofString ")")]) ++ [v2, .str (Str.ofString ", ")]))) pp = some (.lst (zs.map fun z => .str (S z))) := by
              rw [upd_ne npl, upd_ne (fun e => by rw [← e, upd_ne npl, h1] at hp2; cases hp2), upd_ne npl]
              exact h1
            generalize hG : L2.upd (L2.upd (L2.upd H1 pl (.lst ((r.map (·.1)).reverse ++ [.str (Str.ofString ")")]))) p2 (.lst [v2, .str (Str.ofString ", ")])) pl (.lst (((r.map (·.1)).reverse ++ [.str (Str.ofString ")")]) ++ [v2, .str (Str.ofString ", ")])) = H2 at tt2 sH2 hpp2 ⊢
            have hpl2 : H2 pl = some (.lst (((r.map (·.1)).reverse ++ [.str (Str.ofString ")")]) ++ [v2, .str (Str.ofString ", ")])) := by rw [← hG, upd_same]
            have ep3 := tt2 _ _ ep
            walk_at "go"
            refine g_catS (by rw [str_len, sizeLine_eq]; have := biK_len hk1.1; rw [len_lp]; omega) ?_
            walk_at "go"
            refine ⟨by show 2 ≤ sizeLine; decide, fun p3 hp3 => ?_⟩
            have m2 : pl ≠ p3 := fun e => by rw [← e, hpl2] at hp3; cases hp3
            have hpl3 : (L2.upd H2 p3 (.lst [v1, .str (k ++ Str.ofString "(")])) pl = some (.lst (((r.map (·.1)).reverse ++ [.str (Str.ofString ")")]) ++ [v2, .str (Str.ofString ", ")])) := by rw [upd_ne m2]; exact hpl2
            walk_at "go"
            refine g_ext hpl3 upd_same (by rw [List.length_append, List.length_append, List.length_reverse, List.length_map, sizeLine_eq]; show r.length + 1 + 2 + 2 ≤ _; omega) ?_
            have tt3 : Tps H2 (L2.upd (L2.upd H2 p3 (.lst [v1, .str (k ++ Str.ofString "(")])) pl (.lst ((((r.map (·.1)).reverse ++ [.str (Str.ofString ")")]) ++ [v2, .str (Str.ofString ", ")]) ++ [v1, .str (k ++ Str.ofString "(")]))) :=
              (Tps.new hp3).trans (Tps.lst hpl3)
            refine FtW.open (x := .f (.bi k b1 b2)) (st := (.str (k ++ Str.ofString "("), .s (k.cps.toList ++ [40])) :: (v1, .f b1) :: (.str (Str.ofString ", "), .s [44, 32]) :: (v2, .f b2) :: (.str (Str.ofString ")"), .s [41]) :: r) (r := r) (Same.mut (Same.mut sH2 (Same.free sH2 hp3)) hpl0) (tt2.trans tt3) ?_ ?_ ?_ h3r h4 ?_ ?_ h5 h6
            · rw [upd_ne npl, upd_ne (fun e => by rw [← e, hpp2] at hp3; cases hp3)]
              exact hpp2
            · rw [upd_same]; simp
            · intro y hy
              rcases List.mem_cons.mp hy with rfl | hy
              · exact .inr ⟨by show V.str _ = V.str _; rw [paren], trivial⟩
              rcases List.mem_cons.mp hy with rfl | hy
              · exact .inr ⟨hb1.tps (tt2.trans tt3), hk1.2.1, hsm.1⟩
              rcases List.mem_cons.mp hy with rfl | hy
              · exact .inr ⟨by show V.str _ = V.str _; rw [show Str.ofString ", " = S [44, 32] by decide +kernel], trivial⟩
              rcases List.mem_cons.mp hy with rfl | hy
              · exact .inr ⟨hb2.tps (tt2.trans tt3), hk1.2.2, hsm.2⟩
              rcases List.mem_cons.mp hy with rfl | hy
              · exact .inr ⟨by show V.str _ = V.str _; rw [show Str.ofString ")" = S [41] by decide +kernel], trivial⟩
              · exact .inl hy
            · simp [It2.txt, Fm.txt]
            · simp only [List.map_cons, List.sum_cons, It2.wt, Fm.wt]
              omega
end
end Op

namespace Op
open PySem PySem.Spec PyProof.Rows L2
/-! ## methods, makings, errors with one field -/
section
variable {X : Cx} {k j : Nat} {C : Addr} {x m : Str} {sp : Sp} {p pos apos : Pos} {e o : Expr} {es : List Expr} {ta : TE} {t : TA}
/-- o.m(..), nothing raised -/
def rCm (C : Addr) (m : Str) (sp : Sp) (t : TA) (σ : L2.St) (x : V) (H1 : Hp) (Q : VK) : Prop := ∃ a dx fs, x = .ref a ∧ H1 a = some (.ins C dx fs) ∧ fs.lookup m = none ∧ t σ H1 fun vs H2 => sp (x :: vs) H2 Q E0
def tCm (C : Addr) (m : Str) (sp : Sp) (ta : TE) (t : TA) : TE := fun σ H Q => ta σ H fun x H1 => rCm C m sp t σ x H1 Q
theorem g_cm {σ : L2.St} {H : Hp} {Q : VK} (k : ta σ H fun x H1 => rCm C m sp t σ x H1 Q) : tCm C m sp ta t σ H Q := k
theorem g_rcm {σ : L2.St} {H : Hp} {Q : VK} {a dx : Addr} {fs : List (Str × V)} (h : H a = some (.ins C dx fs)) (hl : fs.lookup m = none) (k : t σ H fun vs H2 => sp (.ref a :: vs) H2 Q E0) : rCm C m sp t σ (.ref a) H Q := ⟨a, dx, fs, rfl, h, hl, k⟩
theorem tCm_eq : tMeth C m sp [] E0 ta t = tCm C m sp ta t := by
  funext σ H Q
  unfold tMeth tCm rCm
  simp only [List.append_nil]
theorem pe_cm {pl : Sem Bool} (c : Cm X.prog X.w X.K X.mg X.base k C m sp) (cl : Cls X.K C) (hr : Room j X.A) (hk : k ≤ j) (he : PE X o ta) (ha : PA X (e :: es) t)
    (hs1 : starEach (e :: es) X.env = (false, eval e X.env) :: starEach es X.env := by rfl) (hp1 : (backTo pos (starEach es X.env)).any (·.1) = false := by rfl)
    (ht : eval (.Call (.Attribute o m apos) (e :: es) [] pos) X.env = (do
      let ov ← eval o X.env
      standAt apos.atName
      let (g, first) ← holding [ov] (getMethod ov m pl)
      callWith pos g first (backTo pos (starEach (e :: es) X.env)) (backToKw pos (keywordEach [] X.env))) := by rfl) :
    PE X (.Call (.Attribute o m apos) (e :: es) [] pos) (tCm C m sp ta t) := by
  obtain ⟨f, fd, ps, F, hm, b⟩ := c.ex
  rw [← tCm_eq]
  exact pe_meth (pl := pl) he cl hm F (hr.mono hk) b .nil passL ha hs1 hp1 ht
theorem pe_cm0 {pl : Sem Bool} (c : Cm X.prog X.w X.K X.mg X.base k C m sp) (cl : Cls X.K C) (hr : Room j X.A) (hk : k ≤ j) (he : PE X o ta)
    (ht : eval (.Call (.Attribute o m apos) [] [] pos) X.env = (do
      let ov ← eval o X.env
      standAt apos.atName
      let (g, first) ← holding [ov] (getMethod ov m pl)
      callWith pos g first (backTo pos (starEach [] X.env)) (backToKw pos (keywordEach [] X.env))) := by rfl) :
    PE X (.Call (.Attribute o m apos) [] [] pos) (tCm C m sp ta tNil) := by
  obtain ⟨f, fd, ps, F, hm, b⟩ := c.ex
  rw [← tCm_eq]
  exact pe_meth0 (pl := pl) he cl hm F (hr.mono hk) b .nil passL ht
/-- a class of the module that may be made -/
structure Ck (P : Program) (w : World) (K : PySem.W.Frag) (mg : Str → Option Value) (base : Heap) (k : Nat) (x : Str) (C : Addr) (sp : Sp) : Prop where
  ex : ∃ (f : Addr) (fd : FuncData) (ps : List Str), Mk K C f ∧ FnOk P w K mg base (L2.CX P w) k f fd ps sp ∧ mg x = some (.ref C) ∧ Binds K fd ps []
/-- C(..), where what it raises is wished for at the slots -/
def tMk (C : Addr) (sp : Sp) (E : L2.St → XK) (t : TA) : TE := fun σ H Q => t σ H fun vs H1 => ∀ x dx, H1 x = none → H1 dx = none → dx ≠ x →
  sp (.ref x :: vs) (upd (upd H1 dx (.own x)) x (.ins C dx [])) (fun v H2 => v = .non ∧ Q (.ref x) H2) (E σ)
theorem g_mk {E : L2.St → XK} {σ : L2.St} {H : Hp} {Q : VK} (k : t σ H fun vs H1 => ∀ x dx, H1 x = none → H1 dx = none → dx ≠ x → sp (.ref x :: vs) (upd (upd H1 dx (.own x)) x (.ins C dx [])) (fun v H2 => v = .non ∧ Q (.ref x) H2) (E σ)) : tMk C sp E t σ H Q := k
theorem run_mk {pins : List (Addr × Obj)} {σ : L2.St} {H : Hp} {s : Shared} {Q : VK} {E : XK} {us : List Value} {vs : List V} (c : Ck X.prog X.w X.K X.mg X.base k x C sp) (hr : Room (k + 1) X.A) (hx : PassesAt (L2.CX X.prog X.w) X σ E)
    (I : Inv X pins σ H s) (r : Vals vs us) (h : ∀ x dx, H x = none → H dx = none → dx ≠ x → sp (.ref x :: vs) (upd (upd H dx (.own x)) x (.ins C dx [])) (fun v H2 => v = .non ∧ Q (.ref x) H2) E) : wpAny (model X.prog X.w) X.A (call (.ref C) us) (EP X pins σ Q) X.xe s := by
  obtain ⟨f, fd, ps, M, F, hm, b⟩ := c.ex
  have q := h _ _ (I.hok.fresh (Nat.le_succ s.heap.objs.size)) (I.hok.fresh (Nat.le_refl s.heap.objs.size)) (Nat.ne_of_lt (Nat.lt_succ_self _))
  have J : Inv X pins σ _ _ := Inv.made (C := C) I
  have rr : Vals (V.ref (s.heap.objs.size + 1) :: vs) (Value.ref (s.heap.objs.size + 1) :: us) := .cons rfl r
  have hl : (Value.ref (s.heap.objs.size + 1) :: us).length = ps.length := rr.length.symm.trans (F.len _ _ _ _ q)
  have hb := b _ (Value.ref (s.heap.objs.size + 1) :: us) J.kIn (by rw [List.append_nil]; exact hl)
  rw [List.append_nil] at hb
  have run := F.run _ X.stack _ _ ⟨Value.ref (s.heap.objs.size + 1) :: us, []⟩ _ _ _ E (hr.make C us []) (J.env0.make C us []) hb rr q
  refine wpAny_call (make_map (f := f) I.kIn M.makes M.init (beq_iff_eq.mp M.fn) (codeAny_mono run fun r s' hq => ?_))
  match r, hq with
  | .error e, hq => exact hx pins _ _ e s' J hq
  | .ok (.ret u), hq =>
    obtain ⟨v, H', J', rv, ev, q3⟩ := J.after hq
    subst ev
    exact ⟨rv, V.ref (s.heap.objs.size + 1), H', J', rfl, q3⟩
  | .ok .next, hq => exact False.elim hq
  | .ok .brk, hq => exact False.elim hq
  | .ok .cont, hq => exact False.elim hq
theorem pe_mk {E : L2.St → XK} (c : Ck X.prog X.w X.K X.mg X.base k x C sp) (hr : Room j X.A) (hk : k + 1 ≤ j) (hx : ∀ σ, PassesAt (L2.CX X.prog X.w) X σ (E σ)) (hg : Gl X x) (ha : PA X (e :: es) t)
    (hdb : (x == ("__debug__" : Str)) = false := by decide) (hs1 : starEach (e :: es) X.env = (false, eval e X.env) :: starEach es X.env := by rfl) (hp1 : (backTo pos (starEach es X.env)).any (·.1) = false := by rfl) :
    PE X (.Call (.Name x p) (e :: es) [] pos) (tMk C sp E t) := by
  obtain ⟨_, _, _, M, _, hm, _⟩ := c.ex
  refine ⟨fun pins s σ H Q I h => wpAny_Call_Name_kw (ld_glob I hg hm ?_ hdb)⟩
  refine PySem.W.callWith_K (h₀ := X.base) I.ok.mod.kin M.kp ?_ hs1 hp1
  refine thn (ha.run pos pins s σ H _ I h) fun us s1 hh => ?_
  obtain ⟨vs, H1, I1, r, q⟩ := hh
  exact ⟨I1.kIn, run_mk c (hr.mono hk) (hx σ) I1 r q⟩
/-- nothing raised -/
theorem passE0 : ∀ σ : L2.St, PassesAt (L2.CX X.prog X.w) X σ ((fun _ => E0) σ) := fun σ pins H s e s' I h => passL pins σ H s e s' I h
/-! ### an own error class whose __init__ stores its one parameter -/
def spErr (K : PySem.W.Frag) (f : Str) : Sp := fun vs H Q _ => ∃ (a C : Addr) (y : V), vs = [.ref a, y] ∧ OexC K C ∧ PySem.W.findIn K (.ref C) f = some none ∧ H a = some (exo a C none) ∧
  ∀ dx, H dx = none → dx ≠ a → Q .non (upd (upd H dx (exd dx [(f, y)])) a (exo a C (some dx)))
/-- what is known of such a class, named x, with the field f -/
structure Er (P : Program) (w : World) (K : PySem.W.Frag) (mg : Str → Option Value) (base : Heap) (k : Nat) (x : Str) (C : Addr) (f : Str) : Prop where
  ex : ∃ (fI : Addr) (fd : FuncData) (ps : List Str), FnOk P w K mg base (L2.CX P w) k fI fd ps (spErr K f) ∧ PySem.W.findIn K (.ref C) "__init__" = some (some (.ref fI)) ∧ PySem.W.typeIn K (.ref fI) = some (.type "function") ∧ Binds K fd ps []
  oex : OexC K C
  no : PySem.W.findIn K (.ref C) f = some none
  gC : mg x = some (.ref C)
  xf : XfC K C
  te : PySem.W.exmOne K (.ref C) (.ref C) = some true
/-- arguments' reading, closed under what follows -/
def monA (t : TA) : TA := fun σ H Q => ∃ Q1, t σ H Q1 ∧ ∀ vs H', Q1 vs H' → Q vs H'
theorem pa_mon (h : PA X es t) : PA X es (monA t) := ⟨fun pos pins s σ H Q I q => by
  obtain ⟨Q1, h1, h2⟩ := q
  exact thn (h.run pos pins s σ H Q1 I h1) fun us s' z => by
    obtain ⟨vs, H', I', r, q⟩ := z
    exact ⟨vs, H', I', r, h2 _ _ q⟩⟩
/-- raise X(e) -/
def tRz (C : Addr) (f : Str) (W : WX) (ta : TA) : TS := fun _ σ H => ta σ H fun vs H1 => ∃ y, vs = [y] ∧ ∀ d, H1 d = none → W (.ref C) (some d) σ (upd H1 d (.xd [(f, y)]))
theorem del_back {H1 : Hp} {a dx : Addr} {o o2 u v : HO} (ha : H1 a = none) (n : dx ≠ a) : upd (del (upd (upd (upd H1 a o) dx u) a o2) a) dx v = upd H1 dx v := by
  funext b
  by_cases hb : b = dx
  · subst hb; rw [upd_same, upd_same]
  · rw [upd_ne hb, upd_ne hb]
    by_cases hc : b = a
    · subst hc; rw [del_same, ha]
    · rw [del_ne hc, upd_ne hc, upd_ne hb, upd_ne hc]
theorem ps_rz {f : Str} {W : WX} {pos2 : Pos} (hc : X.calm = true) (c : Er X.prog X.w X.K X.mg X.base k x C f) (hr : Room j X.A) (hk : k + 1 ≤ j) (tk : Takes X W) (hg : Gl X x) (ha : PA X (e :: es) t)
    (hdb : (x == ("__debug__" : Str)) = false := by decide) (hs1 : starEach (e :: es) X.env = (false, eval e X.env) :: starEach es X.env := by rfl) (hp1 : (backTo pos (starEach es X.env)).any (·.1) = false := by rfl) :
    PS X (.Raise (some (.Call (.Name x p) (e :: es) [] pos)) none pos2) (tRz C f W t) := by
  obtain ⟨fI, fd, ps, F, iC, tI, b⟩ := c.ex
  have h := ps_raise (pos := pos2) hc tk (pmk_oex (p := p) (pos := pos) c.oex iC tI F (hr.mono hk) b .nil passL hg c.gC (pa_mon ha) hdb hs1 hp1)
  refine ⟨fun pins s σ H D I hh => h.run pins s σ H D I ⟨_, hh, fun vs H1 q => ?_⟩⟩
  obtain ⟨y, rfl, q⟩ := q
  refine ⟨by show 1 ≤ 1000; decide, fun a hn => ⟨a, C, y, rfl, c.oex, c.no, upd_same, fun dx hdx ne => ⟨rfl, dx, [(f, y)], upd_same, ?_, ?_, ?_⟩⟩⟩
  · rw [upd_ne ne, upd_same]
  · rw [upd_ne ne] at hdx
    exact hdx
  · show W (.ref C) (some dx) σ _
    rw [del_back hn ne]
    rw [upd_ne ne] at hdx
    exact q dx hdx
end
section
variable {P : Program} {w : World} {K : PySem.W.Frag} {mg : Str → Option Value} {base : Heap}
/-- self.f = f, all that such an __init__ does -/
theorem err_body {f qual : Str} {st : Stmt} {C : Addr} {p1 p2 p3 p4 : Pos} (hb : defBody st = [.Assign [.Attribute (.Name "self" p1) f p2] (.Name f p3) p4]) (S : FnScope ["self", f] ["self", f] (defScope st)) (v0 : Vis (defScope st) "self") (v1 : Vis (defScope st) f)
    (hd : (f == ("__debug__" : Str)) = false) (hcd : (f == ("__classdict__" : Str)) = false) : BodyN P w K mg base ["self", f] qual st 0 (spErr K f) := by
  intro g cdv A outer s H vs Q E hr h
  obtain ⟨a, C, y, rfl, T, no, ha, q⟩ := h
  rw [hb]
  refine ⟨_, pss_one (ps_ost (pe_var (i := 0) rfl v0) (pe_var (i := 1) rfl v1 hd hcd) (by rfl)), ?_⟩
  exact ⟨y, rfl, .ref a, rfl, a, C, rfl, T, no, .inl ⟨ha, q⟩⟩
end
/-! ### for x in range(n) -/
def rFor (g : TG) (tb : TS) (D : Ends) (σ : L2.St) (xs : List V) (H : Hp) : Prop := ∃ n : Int, xs = [.int n] ∧ -(2 ^ 62) ≤ n ∧ n < 2 ^ 62 ∧ ∃ W : Nat → Nat → L2.St → Hp → Prop, (∃ m, W 0 m σ H) ∧ ∀ i m σ H, W i m σ H →
  ((Itr 0 n.toNat).stop i H ∧ D.nx σ H) ∨ ((Itr 0 n.toNat).go i H ∧ ∃ N : L2.St → Hp → Prop, (∀ σ' H', N σ' H' → ∃ m', m' < m ∧ W (i + 1) m' σ' H') ∧ ∀ x H', (Itr 0 n.toNat).yld i H x H' → g x σ H' fun σ2 H2 => tb { D with nx := N, ct := N, bk := D.nx } σ2 H2)
theorem g_for {tl : TA} {g : TG} {tb : TS} {D : Ends} {σ : L2.St} {H : Hp} (k : tl σ H fun xs H1 => rFor g tb D σ xs H1) : tFor (iRng1 tl) g tb D σ H := k
theorem r_for {j : Nat} {tb : TS} {D : Ends} {σ : L2.St} {n : Int} {H : Hp} (Pv : Nat → L2.St → Hp → Prop) (hn : -(2 ^ 62) ≤ n ∧ n < 2 ^ 62) (h0 : Pv 0 σ H)
    (hs : ∀ (i : Nat) σ' H', i < n.toNat → Pv i σ' H' → tb { D with nx := Pv (i + 1), ct := Pv (i + 1), bk := D.nx } (σ'.set j (some (.int (i : Int)))) H') (hd : ∀ σ' H', Pv n.toNat σ' H' → D.nx σ' H') : rFor (gName j) tb D σ [.int n] H :=
  ⟨n, rfl, hn.1, hn.2, for_range (lo := 0) (n := n.toNat) Pv h0 (fun i σ' H' hi p => by
    have r := hs i σ' H' hi p
    rw [← Int.zero_add (i : Int)] at r
    exact r) hd⟩
theorem g_par {i j : Nat} {ta : TA} {D : Ends} {σ : L2.St} {H : Hp} (k : ta σ H fun vs H1 => ∃ v w, vs = [v, w] ∧ D.nx ((σ.set i (some v)).set j (some w)) H1) : tPar i j ta D σ H := k
end Op

namespace Op
open PySem PySem.Spec PyProof.Rows L2 SX
local macro_rules | `(tactic| walk_at "go1") => `(tactic| first
  | ((with_reducible refine' g_var ?h ?_); (case h => rfl)) | with_reducible refine' g_c ?_ | with_reducible refine' g_op ?_ | with_reducible refine' g_un ?_ | with_reducible refine' g_if ?_ | with_reducible refine' g_test ?_ | with_reducible refine' g_B ?_ | with_reducible refine' g_bl ?_
  | with_reducible refine' g_not ?_ | with_reducible refine' g_and ?_ | with_reducible refine' g_or ?_ | with_reducible refine' g_andV ?_ | with_reducible refine' g_orV ?_ | with_reducible refine' g_notV ?_ | with_reducible refine' g_nil ?_ | with_reducible refine' g_cons ?_ | with_reducible refine' g_CB ?_ | with_reducible refine' g_ca ?_
  | with_reducible refine' g_seq ?_ | with_reducible refine' g_next ?_ | with_reducible refine' g_asg ?_ | with_reducible refine' g_name ?_ | with_reducible refine' g_ret ?_ | with_reducible refine' g_retN ?_ | with_reducible refine' g_drop ?_ | with_reducible refine' g_ifS ?_ | with_reducible refine' g_sub ?_
  | with_reducible refine' g_I0 ?_ | with_reducible refine' g_U ?_ | ((with_reducible refine' g_eq ?h ?_); (case h => rfl)) | ((with_reducible refine' g_ne ?h ?_); (case h => rfl))
  | ((with_reducible refine' g_lenL ?h ?_); (case h => first | assumption | exact SqL.of (by assumption) | exact SqL.of upd_same)) | ((with_reducible refine' g_lenT ?h ?_); (case h => first | assumption | exact SqT.of (by assumption) | exact SqT.of upd_same))
  | ((with_reducible refine' g_ixL ?h ?ha ?_); (case h => first | assumption | exact SqL.of (by assumption) | exact SqL.of upd_same); (case ha => rfl)) | ((with_reducible refine' g_ixT ?h ?ha ?_); (case h => first | assumption | exact SqT.of (by assumption) | exact SqT.of upd_same); (case ha => rfl))
  | ((with_reducible refine' g_I ?h ?_); (case h => first | decide | omega | (first | refine' ⟨?_, ?_, ?_⟩ | refine' ⟨?_, ?_⟩ | refine' Or.inl ⟨?_, ?_⟩) <;> omega | (refine' Or.inr ⟨?_, ?_⟩ <;> omega)))
  | ((with_reducible refine' g_setL ?h ?ha ?_); (case h => first | assumption | exact upd_same); (case ha => rfl))
  | with_reducible refine' g_lcR ?_
  | with_reducible refine' g_M1 ?_ | with_reducible refine' g_isS ?_ | with_reducible refine' g_tyS ?_ | ((with_reducible refine' g_tyL ?h ?_); (case h => first | assumption | exact upd_same))
  | ((with_reducible refine' g_cat ?h ?h2 ?hl ?_); (case h => first | assumption | exact upd_same); (case h2 => first | assumption | exact upd_same); (case hl => first | decide | (simp; omega)))
  | with_reducible refine' g_lcS ?_
  | with_reducible refine' g_starts ?_ | with_reducible refine' g_chain ?_
  | ((with_reducible refine' g_lenS ?h ?_); (case h => first | exact len_le (by assumption) | exact len_le (by omega))) | ((with_reducible refine' g_rstrip ?h ?_); (case h => first | exact len_le (by assumption) | exact len_le (by omega))) | ((with_reducible refine' g_slX ?h ?_); (case h => first | exact len_le (by assumption) | exact len_le (by omega)))
  | with_reducible refine' g_sl ?_ | with_reducible refine' g_nopart ?_ | with_reducible refine' g_part ?_ | with_reducible refine' g_isI ?_
  | with_reducible refine' g_tru ?_
  | with_reducible refine' iteT ?_ | with_reducible refine' iteF ?_ | with_reducible refine' iteNT ?_ | with_reducible refine' iteNF ?_
  | with_reducible refine' g_int ?_ | with_reducible refine' g_insg ?_ | with_reducible refine' g_ninsg ?_ | with_reducible refine' g_isN ?_ | with_reducible refine' g_notN ?_ | with_reducible refine' g_lst ?_ | with_reducible refine' g_tup ?_ | with_reducible refine' g_BM ?_ | with_reducible refine' g_BM0 ?_)
local macro_rules | `(tactic| walk_at "go") => `(tactic| repeat' walk_at "go1")
/-! ## letters -/
theorem atTxt_kind {cs t : List Nat} {k : Str} (h : kindOf cs = some (k, t)) : atTxt k t = cs ∧ atK k = true ∧ t.length ≤ cs.length := by
  unfold kindOf at h
  split at h
  · cases h
    exact ⟨by unfold atTxt; rw [if_neg (by decide +kernel)], by decide +kernel, Nat.le_refl _⟩
  · split at h
    · cases h
      exact ⟨by unfold atTxt; rw [if_neg (by decide +kernel)], by decide +kernel, Nat.le_refl _⟩
    · split at h
      · rename_i hh
        cases h
        refine ⟨?_, by decide +kernel, by rw [List.length_tail]; omega⟩
        unfold atTxt
        rw [if_pos rfl]
        cases cs with
        | nil => cases hh.1
        | cons c r => rw [show c = 63 from Option.some.inj hh.1]; rfl
      · cases h
theorem kind_ok {cs t : List Nat} {k : Str} (h : kindOf cs = some (k, t)) : (Fm.atm k t).ok = true := by
  unfold kindOf at h
  simp only [Fm.ok, Bool.or_eq_true, Bool.and_eq_true, beq_iff_eq]
  split at h
  · rename_i hh
    cases h
    exact .inl ⟨rfl, hh⟩
  · split at h
    · rename_i hh
      cases h
      exact .inr (.inl ⟨rfl, hh⟩)
    · split at h
      · rename_i hh
        cases h
        exact .inr (.inr ⟨rfl, hh.2⟩)
      · cases h
/-- what the written part says of the class -/
structure Lt (K : PySem.W.Frag) (mg : Str → Option Value) (C : Addr) : Prop where
  cl : Cls K C
  no : NoAttr K C "shape"
  mgC : mg "Letter" = some (.ref C)
/-- a letter with this form -/
def LetAt (C : Addr) (H : Hp) (v : V) (a : Fm) : Prop := ∃ x dx u, v = .ref x ∧ H x = some (.ins C dx [("shape", u)]) ∧ FmAt H u a
theorem LetAt.same {C : Addr} {H H' : Hp} {v : V} {a : Fm} (h : LetAt C H v a) (s : Same H H') : LetAt C H' v a := by
  obtain ⟨x, dx, u, rfl, e, f⟩ := h
  exact ⟨x, dx, u, rfl, s _ _ e, f.same s⟩
theorem LetAt.but {C st : Addr} {H H' : Hp} {v : V} {a : Fm} {xs : List V} (h : LetAt C H v a) (hs : H st = some (.lst xs)) (s : But st H H') : LetAt C H' v a := by
  obtain ⟨x, dx, u, rfl, e, f⟩ := h
  exact ⟨x, dx, u, rfl, s _ _ (ne_of e hs (by intro z; cases z)) e, f.tps fun b ys q => s _ _ (ne_of q hs (by intro z; cases z)) q⟩
/-- Letter(atom) of a text -/
def spInit (C CE : Addr) : Sp := fun vs H Q E => ∃ (x dx : Addr) (cs : List Nat), vs = [.ref x, .str (S cs)] ∧ H x = some (.ins C dx []) ∧ cs.length < 1000000 ∧
  (∀ k t H1 H' u, kindOf cs = some (k, t) → Same H H1 → FmAt H1 u (.atm k t) → H' = upd H1 x (.ins C dx [("shape", u)]) → Q .non H') ∧
  (kindOf cs = none → ∀ H1 d, Same H H1 → H1 d = none → E (.ref CE) (some d) (upd H1 d (.xd [("text", .str (S cs))])))
/-- .. of the tuple of a form -/
def spInitT (C : Addr) : Sp := fun vs H Q _ => ∃ (x dx p : Addr) (xs : List V), vs = [.ref x, .ref p] ∧ H x = some (.ins C dx []) ∧ H p = some (.tup xs) ∧ Q .non (upd H x (.ins C dx [("shape", .ref p)]))
def spInit2 (C CE : Addr) : Sp := fun vs H Q E => spInit C CE vs H Q E ∨ spInitT C vs H Q E
def spForm (C : Addr) : Sp := fun vs H Q _ => ∃ (x dx : Addr) (u : V), vs = [.ref x] ∧ H x = some (.ins C dx [("shape", u)]) ∧ Q u H
def spWritten (C : Addr) : Sp := fun vs H Q _ => ∃ (v : V) (a : Fm), vs = [v] ∧ LetAt C H v a ∧ a.kin = true ∧ a.small ∧ a.size ≤ 10000 ∧ ∀ H', Same H H' → Q (.str (S a.txt)) H'
section
variable {P : Program} {w : World} {K : PySem.W.Frag} {mg : Str → Option Value} {base : Heap} {CL CE : Addr}
theorem bd_init (T : Bl K mg) (L : Lt K mg CL) (c_atom_form : Ca P w K mg base 3 "atom_form" spAtomForm) (c_BadAtom : Er P w K mg base 1 "BadAtom" CE "text") :
    BodyX P w K mg base N_Letter___init__ "Letter.__init__" s_Letter___init__ 3 (spInit2 CL CE) := by
  intro f cdv A outer s H vs Q E hr h
  refine ⟨_, (pss_cons (ps_set (i := 2) sc_Letter___init__.nd rfl (Or.inl rfl) (pe_ifExp (pt_val (pe_callB call_isi (by rfl) T.b_isinstance (by decide +kernel) (pa_cons (pv 1) (pa_cons (pe_bltn (v := .ty "tuple") (u := .type "tuple") (by rfl) T.b_tuple (by decide +kernel) rfl) pa_nil)))) (pv 1) (pe_ca c_atom_form hr (by decide) (by rfl) (pa_cons (pv 1) pa_nil))))
  (pss_cons (ps_if (pt_cmpR oq_isN (pv 2) pe_non (nomark _))
  (pss_one (ps_rz rfl c_BadAtom hr (by decide) (takes_of rfl rfl rfl rfl) (by rfl) (pa_cons (pv 1) pa_nil)))
  pss_nil)
  (pss_one (ps_fld (pv 0) (pv 2) rfl)))), ?_⟩
  rcases h with h | h
  · obtain ⟨x, dx, cs, rfl, hx, hl, q1, q2⟩ := h
    walk_at "go"
    refine g_isi (.ty _) (.base (.str _)) (kit_ty (b := "tuple") (r := false) (by decide +kernel)) ?_
    walk_at "go"
    refine ⟨cs, rfl, hl, fun H1 v e1 av => ?_⟩
    walk_at "go"
    cases hk : kindOf cs with
    | none =>
      rw [hk] at av
      have ev : v = .non := av
      subst ev
      walk_at "go"
      refine iteD (fun _ => ?_) (fun h => absurd rfl h)
      exact ⟨_, rfl, _, rfl, fun d hd => q2 hk H1 d e1 hd⟩
    | some kt =>
      obtain ⟨k, t⟩ := kt
      rw [hk] at av
      obtain ⟨p, rfl, ep⟩ := av
      walk_at "go"
      refine iteD (fun h => absurd h (by intro z; cases z)) (fun _ => ?_)
      exact ⟨_, rfl, _, rfl, x, CL, dx, [], rfl, e1 _ _ hx, L.cl, L.no, by decide, q1 k t H1 _ _ hk e1 (.atm ep) rfl⟩
  · obtain ⟨x, dx, p, xs, rfl, hx, hp, q⟩ := h
    walk_at "go"
    refine g_isi (.ty _) (.base (.tup hp)) (kit_ty (b := "tuple") (r := true) (by decide +kernel)) ?_
    walk_at "go"
    refine iteD (fun h => absurd h (by intro z; cases z)) (fun _ => ?_)
    exact ⟨_, rfl, _, rfl, x, CL, dx, [], rfl, hx, L.cl, L.no, by decide, q⟩
theorem init_len : ∀ vs H Q E, spInit2 CL CE vs H Q E → vs.length = p_Letter___init__.length := fun vs H Q E h => by
  rcases h with ⟨x, dx, cs, rfl, _⟩ | ⟨x, dx, p, xs, rfl, _⟩ <;> rfl
theorem cm_form (D : Dm K CL "form" "Letter.form" s_Letter_form p_Letter_form) (L : Lt K mg CL) : Cm P w K mg base 1 CL "form" (spForm CL) := by
  refine cm_n D sc_Letter_form (fun vs H Q E h => ?_) (fun f cdv A outer s H vs Q E hr h => ?_)
  · obtain ⟨x, dx, u, rfl, _⟩ := h
    rfl
  · obtain ⟨x, dx, u, rfl, hx, q⟩ := h
    refine ⟨_, (pss_one (ps_ret (pe_fld (pv 0) rfl))), ?_⟩
    exact ⟨_, rfl, x, CL, dx, _, u, rfl, hx, L.cl, L.no, by simp [List.lookup], q⟩
theorem cm_written (T : Bl K mg) (D : Dm K CL "written" "Letter.written" s_Letter_written p_Letter_written) (L : Lt K mg CL) (c_form_text : Ca P w K mg base 2 "form_text" spFormText) : Cm P w K mg base 3 CL "written" (spWritten CL) := by
  refine cm_n D sc_Letter_written (fun vs H Q E h => ?_) (fun f cdv A outer s H vs Q E hr h => ?_)
  · obtain ⟨v, a, rfl, _⟩ := h
    rfl
  · obtain ⟨v, a, rfl, ⟨x, dx, u, rfl, hx, fa⟩, hk, hs, hz, q⟩ := h
    refine ⟨_, (pss_one (ps_ret (pe_ca c_form_text hr (by decide) (by rfl) (pa_cons (pe_fld (pv 0) rfl) pa_nil)))), ?_⟩
    exact ⟨_, rfl, x, CL, dx, _, u, rfl, hx, L.cl, L.no, by simp [List.lookup], u, a, rfl, fa, hk, hs, hz, q⟩
end
end Op

namespace Op
open PySem PySem.Spec PyProof.Rows L2 SX
/-! ## operators of own instances -/
/-- a method of the class as an operator -/
structure Co (K : PySem.W.Frag) (C : Addr) : Prop where
  first : PySem.W.selfFirst K C = true
/-- x op y, both of the class at C; what is raised is wished for at every slots of the def's length -/
def rOwn (C : Addr) (sp : Sp) (E : XK) : R2 := fun x y H Q => (∃ a dx fs, x = .ref a ∧ H a = some (.ins C dx fs)) ∧ (∃ a dx fs, y = .ref a ∧ H a = some (.ins C dx fs)) ∧ sp [x, y] H Q E
def rOwn1 (C : Addr) (sp : Sp) : V → Hp → VK → Prop := fun x H Q => (∃ a dx fs, x = .ref a ∧ H a = some (.ins C dx fs)) ∧ sp [x] H Q E0
/-- a wish at every slots -/
def allW (n : Nat) (W : WX) : XK := fun cls d H => ∀ σ : L2.St, σ.length = n → W cls d σ H
section
variable {X : Cx} {k j : Nat} {C : Addr} {m : Str} {sp : Sp} {E : XK}
theorem passAll {W : WX} (tk : Takes X W) (σ : L2.St) (hl : σ.length = X.N.length) : PassesAt (L2.CX X.prog X.w) X σ (allW X.N.length W) := fun pins H s e s' I h =>
  passAt tk σ pins H s e s' I (by
    obtain ⟨a, B, H', cls, d, h1, h2, h3, h4, h5, h6, h7, h8⟩ := h
    exact ⟨a, B, H', cls, d, h1, h2, h3, h4, h5, h6, h7, h8 σ hl⟩)
theorem back_of {pins : List (Addr × Obj)} {σ : L2.St} {Q : VK} {u : Value} {s : Shared} (h : EP X pins σ Q u s) : PySem.W.CmpBack (EP X pins σ Q) u s := by
  cases u with
  | notImplemented =>
    obtain ⟨v, H', I, r, q⟩ := h
    cases v <;> first | (cases r; done) | (obtain ⟨t, r⟩ := r; cases r) | (have r' : Value.notImplemented = _ := r; cases r')
  | _ => exact h
theorem op_own {op : Operator} (c : Cm X.prog X.w X.K X.mg X.base k C m sp) (hm : m = PySem.dunder op.info.2) (hf : PySem.W.selfFirst X.K C = true) (hr : Room j X.A) (hk : k ≤ j) (hx : ∀ σ : L2.St, σ.length = X.N.length → PassesAt (L2.CX X.prog X.w) X σ E) :
    OpR X (binaryOp op) (rOwn C sp E) := by
  intro pins s σ H x y v u Q I rx ry h
  obtain ⟨⟨a, dx, fs, rfl, ha⟩, ⟨b, dy, gs, rfl, hb⟩, h⟩ := h
  obtain ⟨f, fd, ps, F, M, bd⟩ := c.ex
  obtain ⟨mA, O1, _⟩ := ins_get I.hok ha
  obtain ⟨od, J1, _⟩ := O1.look
  obtain ⟨mB, O2, _⟩ := ins_get I.hok hb
  obtain ⟨oe, J2, _⟩ := O2.look
  obtain ⟨mf, fr⟩ := I.fr
  cases rx
  cases ry
  subst hm
  refine PySem.W.binop_K fr I.ok.mod.kin J1 J2.type hf M.at_ M.fn ?_
  exact wpAny_mono (run_fnS (E := fun _ => E) F (hr.mono hk) bd (hx σ I.len) I (vs := [.ref a, .ref b]) (.cons (rfl : L2.RelV (.ref a) (.ref a)) (.cons (rfl : L2.RelV (.ref b) (.ref b)) .nil)) h) (fun u s' q => back_of q) fun _ _ z => z
theorem op_own0 {op : Operator} (c : Cm X.prog X.w X.K X.mg X.base k C m sp) (hm : m = PySem.dunder op.info.2) (hf : PySem.W.selfFirst X.K C = true) (hr : Room j X.A) (hk : k ≤ j) : OpR X (binaryOp op) (rOwn C sp E0) :=
  op_own c hm hf hr hk fun σ _ => passE0 σ
theorem un_own {op : UnaryOp} (c : Cm X.prog X.w X.K X.mg X.base k C m sp) (hm : (op = .USub ∧ m = "__neg__") ∨ (op = .UAdd ∧ m = "__pos__") ∨ (op = .Invert ∧ m = "__invert__")) (hr : Room j X.A) (hk : k ≤ j) : UnR X (unaryOp op) (rOwn1 C sp) := by
  intro pins s σ H x v Q I rx h
  obtain ⟨⟨a, dx, fs, rfl, ha⟩, h⟩ := h
  obtain ⟨f, fd, ps, F, M, bd⟩ := c.ex
  obtain ⟨mA, O1, _⟩ := ins_get I.hok ha
  obtain ⟨od, J1, _⟩ := O1.look
  obtain ⟨mf, fr⟩ := I.fr
  cases rx
  have run := run_fnS (E := fun _ => E0) F (hr.mono hk) bd (passE0 σ) I (vs := [.ref a]) (.cons (rfl : L2.RelV (.ref a) (.ref a)) .nil) h
  rcases hm with ⟨rfl, rfl⟩ | ⟨rfl, rfl⟩ | ⟨rfl, rfl⟩
  · exact PySem.W.ksp_neg fr I.ok.mod.kin J1 M.at_ M.fn run
  · exact PySem.W.ksp_pos fr I.ok.mod.kin J1 M.at_ M.fn run
  · exact PySem.W.ksp_inv fr I.ok.mod.kin J1 M.at_ M.fn run
end
def rFld (K : PySem.W.Frag) (f : Str) (x : V) (H1 : Hp) (Q : VK) : Prop := ∃ a C dx fs v, x = .ref a ∧ H1 a = some (.ins C dx fs) ∧ Cls K C ∧ NoAttr K C f ∧ fs.lookup f = some v ∧ Q v H1
theorem g_fld {K : PySem.W.Frag} {f : Str} {ta : TE} {σ : L2.St} {H : Hp} {Q : VK} (k : ta σ H fun x H1 => rFld K f x H1 Q) : tFld K ta f σ H Q := k
theorem g_shape {K : PySem.W.Frag} {H : Hp} {Q : VK} {a C dx : Addr} {u : V} (hc : Cls K C) (hn : NoAttr K C "shape") (h : H a = some (.ins C dx [("shape", u)])) (k : Q u H) : rFld K "shape" (.ref a) H Q :=
  ⟨a, C, dx, _, u, rfl, h, hc, hn, by simp [List.lookup], k⟩
/-! comprehensions over a tuple -/
def rLcT (K : PySem.W.Frag) (j : Nat) (te : TE) (vs : List Nat) (σ : L2.St) (v : V) (H : Hp) (Q : VK) : Prop := ∃ a, v = .ref a ∧ (∃ xs, SqT K H a xs) ∧ ∀ D, H D = none → ∃ W : Nat → Nat → Hp → Prop, (∃ m, W 0 m (upd H D (.lst []))) ∧ ∀ i m H, W i m H →
  ((Itt K a).stop i H ∧ Q (.ref D) H) ∨ ((Itt K a).go i H ∧ ∃ Nx : Hp → Prop, (∀ H', Nx H' → ∃ m', m' < m ∧ W (i + 1) m' H') ∧ ∀ x H', (Itt K a).yld i H x H' → gName j x (wipe σ vs) H' fun σ2 H2 => wipe σ2 vs = wipe σ vs ∧ tYes σ2 H2 fun b H3 =>
    if b = true then te σ2 H3 fun y H4 => ∃ acc, H4 D = some (.lst acc) ∧ acc.length < sizeLine ∧ Nx (upd H4 D (.lst (acc ++ [y]))) else Nx H3)
theorem g_lcT0 {K : PySem.W.Frag} {σ : L2.St} {H : Hp} {Q : VK} {tl : TE} {te : TE} {j : Nat} {vs : List Nat} (k : tl σ H fun v H1 => rLcT K j te vs σ v H1 Q) : tLc (iTup K tl) (gName j) tYes te vs σ H Q := k
end Op

namespace Op
open PySem PySem.Spec PyProof.Rows L2 SX
local macro_rules | `(tactic| walk_at "go1") => `(tactic| first
  | ((with_reducible refine' g_var ?h ?_); (case h => rfl)) | with_reducible refine' g_c ?_ | with_reducible refine' g_op ?_ | with_reducible refine' g_un ?_ | with_reducible refine' g_if ?_ | with_reducible refine' g_test ?_ | with_reducible refine' g_B ?_ | with_reducible refine' g_bl ?_
  | with_reducible refine' g_not ?_ | with_reducible refine' g_and ?_ | with_reducible refine' g_or ?_ | with_reducible refine' g_andV ?_ | with_reducible refine' g_orV ?_ | with_reducible refine' g_notV ?_ | with_reducible refine' g_nil ?_ | with_reducible refine' g_cons ?_ | with_reducible refine' g_CB ?_ | with_reducible refine' g_ca ?_
  | with_reducible refine' g_seq ?_ | with_reducible refine' g_next ?_ | with_reducible refine' g_asg ?_ | with_reducible refine' g_name ?_ | with_reducible refine' g_ret ?_ | with_reducible refine' g_retN ?_ | with_reducible refine' g_drop ?_ | with_reducible refine' g_ifS ?_ | with_reducible refine' g_sub ?_
  | with_reducible refine' g_I0 ?_ | with_reducible refine' g_U ?_ | ((with_reducible refine' g_eq ?h ?_); (case h => rfl)) | ((with_reducible refine' g_ne ?h ?_); (case h => rfl))
  | ((with_reducible refine' g_lenL ?h ?_); (case h => first | assumption | exact SqL.of (by assumption) | exact SqL.of upd_same)) | ((with_reducible refine' g_lenT ?h ?_); (case h => first | assumption | exact SqT.of (by assumption) | exact SqT.of upd_same))
  | ((with_reducible refine' g_ixL ?h ?ha ?_); (case h => first | assumption | exact SqL.of (by assumption) | exact SqL.of upd_same); (case ha => rfl)) | ((with_reducible refine' g_ixT ?h ?ha ?_); (case h => first | assumption | exact SqT.of (by assumption) | exact SqT.of upd_same); (case ha => rfl))
  | ((with_reducible refine' g_I ?h ?_); (case h => first | decide | omega | (first | refine' ⟨?_, ?_, ?_⟩ | refine' ⟨?_, ?_⟩ | refine' Or.inl ⟨?_, ?_⟩) <;> omega | (refine' Or.inr ⟨?_, ?_⟩ <;> omega)))
  | ((with_reducible refine' g_setL ?h ?ha ?_); (case h => first | assumption | exact upd_same); (case ha => rfl))
  | with_reducible refine' g_lcR ?_
  | with_reducible refine' g_M1 ?_ | with_reducible refine' g_isS ?_ | with_reducible refine' g_tyS ?_ | ((with_reducible refine' g_tyL ?h ?_); (case h => first | assumption | exact upd_same))
  | ((with_reducible refine' g_cat ?h ?h2 ?hl ?_); (case h => first | assumption | exact upd_same); (case h2 => first | assumption | exact upd_same); (case hl => first | decide | (simp; omega)))
  | with_reducible refine' g_lcS ?_
  | with_reducible refine' g_starts ?_ | with_reducible refine' g_chain ?_
  | ((with_reducible refine' g_lenS ?h ?_); (case h => first | exact len_le (by assumption) | exact len_le (by omega))) | ((with_reducible refine' g_rstrip ?h ?_); (case h => first | exact len_le (by assumption) | exact len_le (by omega))) | ((with_reducible refine' g_slX ?h ?_); (case h => first | exact len_le (by assumption) | exact len_le (by omega)))
  | with_reducible refine' g_sl ?_ | with_reducible refine' g_nopart ?_ | with_reducible refine' g_part ?_ | with_reducible refine' g_isI ?_
  | with_reducible refine' g_tru ?_
  | with_reducible refine' iteT ?_ | with_reducible refine' iteF ?_ | with_reducible refine' iteNT ?_ | with_reducible refine' iteNF ?_
  | with_reducible refine' g_int ?_ | with_reducible refine' g_insg ?_ | with_reducible refine' g_ninsg ?_ | with_reducible refine' g_isN ?_ | with_reducible refine' g_notN ?_ | with_reducible refine' g_lst ?_ | with_reducible refine' g_tup ?_ | with_reducible refine' g_BM ?_ | with_reducible refine' g_BM0 ?_)
local macro_rules | `(tactic| walk_at "go") => `(tactic| repeat' walk_at "go1")
local macro_rules | `(tactic| walk_at "go2") => `(tactic| repeat' (first | walk_at "go1" | with_reducible refine' g_cm ?_ | with_reducible refine' g_mk ?_ | with_reducible refine' g_for ?_ | ((with_reducible refine' g_rcm ?h ?ha ?_); (case h => first | assumption | exact upd_same); (case ha => first | rfl | decide | simp [List.lookup]))))
/- macro2 -/
local macro_rules | `(tactic| walk_at "go3a") => `(tactic| first
  | walk_at "go1" | with_reducible refine' g_cm ?_ | with_reducible refine' g_mk ?_ | with_reducible refine' g_for ?_ | with_reducible refine' g_fld ?_ | with_reducible refine' g_lcT0 ?_
  | ((with_reducible refine' g_rcm ?h ?ha ?_); (case h => first | assumption | exact upd_same); (case ha => first | rfl | decide | simp [List.lookup]))
  | ((with_reducible refine' g_shape ?hc ?hn ?h ?_); (case hc => assumption); (case hn => assumption); (case h => first | assumption | exact upd_same | (rw [upd_ne (by assumption)]; assumption))))
local macro_rules | `(tactic| walk_at "go3") => `(tactic| repeat' walk_at "go3a")
local macro_rules | `(tactic| walk_at "go4") => `(tactic| repeat' (first
  | walk_at "go3a" | ((with_reducible refine' iteDT ?h ?_); (case h => first | rfl | decide +kernel)) | ((with_reducible refine' iteDF ?h ?_); (case h => decide +kernel))))
/-! ## the operators of letters -/
/-- what isinstance and the operators ask of the class -/
structure Lc (K : PySem.W.Frag) (C : Addr) : Prop where
  first : PySem.W.selfFirst K C = true
  ins : C8.InsC K C
theorem Lc.isi {K : PySem.W.Frag} {C : Addr} (c : Lc K C) {H : Hp} {Q : VK} {a dx : Addr} {fs : List (Str × V)} (h : H a = some (.ins C dx fs)) (k : Q (.bl true) H) : rIsi K [.ref a, .ref C] H Q :=
  g_isi (.own C) (.base (.ins h c.ins.cl c.ins.ha c.ins.hn c.ins.htk c.ins.hm)) c.ins.me k
/-- two letters make a letter of the kind k -/
def spBi (CL : Addr) (k : Str) : Sp := fun vs H Q _ => ∃ (u v : V) (a b : Fm), vs = [u, v] ∧ LetAt CL H u a ∧ LetAt CL H v b ∧ ∀ H' x, Same H H' → LetAt CL H' x (.bi k a b) → Q x H'
def spUn (CL : Addr) (k : Str) : Sp := fun vs H Q _ => ∃ (u : V) (a : Fm), vs = [u] ∧ LetAt CL H u a ∧ ∀ H' x, Same H H' → LetAt CL H' x (.un k a) → Q x H'
/-- the lock: a key, or BadKey with the letter that is none -/
def spXor (CL CX : Addr) : Sp := fun vs H Q E => ∃ (u v : V) (a b : Fm), vs = [u, v] ∧ LetAt CL H u a ∧ LetAt CL H v b ∧ b.kin = true ∧ (b.isKey = true → ∀ H' x, Same H H' → LetAt CL H' x (.bi kLock a b) → Q x H') ∧
  (b.isKey = false → ∀ H' d, Same H H' → H' d = none → E (.ref CX) (some d) (upd H' d (.xd [("key", v)])))
section
variable {P : Program} {w : World} {K : PySem.W.Frag} {mg : Str → Option Value} {base : Heap} {CL CE CX : Addr}
/-- Letter(the tuple at p) -/
theorem mk_tup {H : Hp} {Q : VK} {E : XK} {p : Addr} {xs : List V} (hp : H p = some (.tup xs)) (k : ∀ H' x dx, Same H H' → H' x = some (.ins CL dx [("shape", .ref p)]) → Q (.ref x) H') :
    ∀ x dx, H x = none → H dx = none → dx ≠ x → spInit2 CL CE [.ref x, .ref p] (upd (upd H dx (.own x)) x (.ins CL dx [])) (fun v H2 => v = .non ∧ Q (.ref x) H2) E := by
  intro x dx nx ndx nex
  have s0 : Same H (upd (upd H dx (.own x)) x (.ins CL dx [])) := fun b o e => by
    rw [upd_ne (ne_of_none e nx), upd_ne (ne_of_none e ndx)]
    exact e
  exact .inr ⟨x, dx, p, xs, rfl, upd_same, s0 _ _ hp, rfl, k _ x dx (Same.mut s0 nx) upd_same⟩
theorem cm_add (T : Bl K mg) (L : Lt K mg CL) (LC : Lc K CL) (D : Dm K CL "__add__" "Letter.__add__" s_Letter___add__ p_Letter___add__) (c_Letter : Ck P w K mg base 4 "Letter" CL (spInit2 CL CE)) : Cm P w K mg base 6 CL "__add__" (spBi CL kPair) := by
  refine cm_n D sc_Letter___add__ (fun vs H Q E h => ?_) (fun f cdv A outer s H vs Q E hr h => ?_)
  · obtain ⟨u, v, a, b, rfl, _⟩ := h
    rfl
  · obtain ⟨u, v, a, b, rfl, ⟨x, dx, ua, rfl, hx, fa⟩, ⟨y, dy, ub, rfl, hy, fb⟩, q⟩ := h
    have lcl := L.cl
    have lno := L.no
    refine ⟨_, (pss_cons (ps_if (pt_not (pt_val (pe_callB call_isi (by rfl) T.b_isinstance (by decide +kernel) (pa_cons (pv 1) (pa_cons (C8.pe_gc (v := .ref CL) (by rfl) ⟨_, L.mgC, rfl⟩) pa_nil)))))
  (pss_one ps_never)
  pss_nil)
  (pss_one (ps_ret (pe_mk (E := fun _ => E0) c_Letter hr (by decide) passE0 (by rfl) (pa_cons (pe_tup (pa_cons pe_str (pa_cons (pe_fld (pv 0) rfl) (pa_cons (pe_fld (pv 1) rfl) pa_nil)))) pa_nil))))), ?_⟩
    walk_at "go3"
    refine LC.isi hy ?_
    walk_at "go3"
    refine ⟨by show 3 ≤ sizeLine; decide, fun p hp => ?_⟩
    walk_at "go3"
    refine mk_tup upd_same fun H' z dz s1 hz => ?_
    have sp : Same H (upd H p (.tup [.str kPair, ua, ub])) := Same.upd hp
    exact q _ _ (sp.trans s1) ⟨z, dz, .ref p, rfl, hz, .bi (s1 _ _ upd_same) ((fa.same sp).same s1) ((fb.same sp).same s1)⟩
theorem cm_mul (T : Bl K mg) (L : Lt K mg CL) (LC : Lc K CL) (D : Dm K CL "__mul__" "Letter.__mul__" s_Letter___mul__ p_Letter___mul__) (c_Letter : Ck P w K mg base 4 "Letter" CL (spInit2 CL CE)) : Cm P w K mg base 6 CL "__mul__" (spBi CL kSeal) := by
  refine cm_n D sc_Letter___mul__ (fun vs H Q E h => ?_) (fun f cdv A outer s H vs Q E hr h => ?_)
  · obtain ⟨u, v, a, b, rfl, _⟩ := h
    rfl
  · obtain ⟨u, v, a, b, rfl, ⟨x, dx, ua, rfl, hx, fa⟩, ⟨y, dy, ub, rfl, hy, fb⟩, q⟩ := h
    have lcl := L.cl
    have lno := L.no
    refine ⟨_, (pss_cons (ps_if (pt_not (pt_val (pe_callB call_isi (by rfl) T.b_isinstance (by decide +kernel) (pa_cons (pv 1) (pa_cons (C8.pe_gc (v := .ref CL) (by rfl) ⟨_, L.mgC, rfl⟩) pa_nil)))))
  (pss_one ps_never)
  pss_nil)
  (pss_one (ps_ret (pe_mk (E := fun _ => E0) c_Letter hr (by decide) passE0 (by rfl) (pa_cons (pe_tup (pa_cons pe_str (pa_cons (pe_fld (pv 0) rfl) (pa_cons (pe_fld (pv 1) rfl) pa_nil)))) pa_nil))))), ?_⟩
    walk_at "go3"
    refine LC.isi hy ?_
    walk_at "go3"
    refine ⟨by show 3 ≤ sizeLine; decide, fun p hp => ?_⟩
    walk_at "go3"
    refine mk_tup upd_same fun H' z dz s1 hz => ?_
    have sp : Same H (upd H p (.tup [.str kSeal, ua, ub])) := Same.upd hp
    exact q _ _ (sp.trans s1) ⟨z, dz, .ref p, rfl, hz, .bi (s1 _ _ upd_same) ((fa.same sp).same s1) ((fb.same sp).same s1)⟩
theorem cm_invert (T : Bl K mg) (L : Lt K mg CL) (D : Dm K CL "__invert__" "Letter.__invert__" s_Letter___invert__ p_Letter___invert__) (c_Letter : Ck P w K mg base 4 "Letter" CL (spInit2 CL CE)) : Cm P w K mg base 6 CL "__invert__" (spUn CL kMark) := by
  refine cm_n D sc_Letter___invert__ (fun vs H Q E h => ?_) (fun f cdv A outer s H vs Q E hr h => ?_)
  · obtain ⟨u, a, rfl, _⟩ := h
    rfl
  · obtain ⟨u, a, rfl, ⟨x, dx, ua, rfl, hx, fa⟩, q⟩ := h
    have lcl := L.cl
    have lno := L.no
    refine ⟨_, (pss_one (ps_ret (pe_mk (E := fun _ => E0) c_Letter hr (by decide) passE0 (by rfl) (pa_cons (pe_tup (pa_cons pe_str (pa_cons (pe_fld (pv 0) rfl) pa_nil))) pa_nil)))), ?_⟩
    walk_at "go3"
    refine ⟨by show 2 ≤ sizeLine; decide, fun p hp => ?_⟩
    walk_at "go3"
    refine mk_tup upd_same fun H' z dz s1 hz => ?_
    have sp : Same H (upd H p (.tup [.str kMark, ua])) := Same.upd hp
    exact q _ _ (sp.trans s1) ⟨z, dz, .ref p, rfl, hz, .un (s1 _ _ upd_same) ((fa.same sp).same s1)⟩
theorem cm_pos (T : Bl K mg) (L : Lt K mg CL) (D : Dm K CL "__pos__" "Letter.__pos__" s_Letter___pos__ p_Letter___pos__) (c_Letter : Ck P w K mg base 4 "Letter" CL (spInit2 CL CE)) : Cm P w K mg base 6 CL "__pos__" (spUn CL kOpen) := by
  refine cm_n D sc_Letter___pos__ (fun vs H Q E h => ?_) (fun f cdv A outer s H vs Q E hr h => ?_)
  · obtain ⟨u, a, rfl, _⟩ := h
    rfl
  · obtain ⟨u, a, rfl, ⟨x, dx, ua, rfl, hx, fa⟩, q⟩ := h
    have lcl := L.cl
    have lno := L.no
    refine ⟨_, (pss_one (ps_ret (pe_mk (E := fun _ => E0) c_Letter hr (by decide) passE0 (by rfl) (pa_cons (pe_tup (pa_cons pe_str (pa_cons (pe_fld (pv 0) rfl) pa_nil))) pa_nil)))), ?_⟩
    walk_at "go3"
    refine ⟨by show 2 ≤ sizeLine; decide, fun p hp => ?_⟩
    walk_at "go3"
    refine mk_tup upd_same fun H' z dz s1 hz => ?_
    have sp : Same H (upd H p (.tup [.str kOpen, ua])) := Same.upd hp
    exact q _ _ (sp.trans s1) ⟨z, dz, .ref p, rfl, hz, .un (s1 _ _ upd_same) ((fa.same sp).same s1)⟩
theorem cm_neg (T : Bl K mg) (L : Lt K mg CL) (D : Dm K CL "__neg__" "Letter.__neg__" s_Letter___neg__ p_Letter___neg__) (c_Letter : Ck P w K mg base 4 "Letter" CL (spInit2 CL CE)) : Cm P w K mg base 6 CL "__neg__" (spUn CL kOwn) := by
  refine cm_n D sc_Letter___neg__ (fun vs H Q E h => ?_) (fun f cdv A outer s H vs Q E hr h => ?_)
  · obtain ⟨u, a, rfl, _⟩ := h
    rfl
  · obtain ⟨u, a, rfl, ⟨x, dx, ua, rfl, hx, fa⟩, q⟩ := h
    have lcl := L.cl
    have lno := L.no
    refine ⟨_, (pss_one (ps_ret (pe_mk (E := fun _ => E0) c_Letter hr (by decide) passE0 (by rfl) (pa_cons (pe_tup (pa_cons pe_str (pa_cons (pe_fld (pv 0) rfl) pa_nil))) pa_nil)))), ?_⟩
    walk_at "go3"
    refine ⟨by show 2 ≤ sizeLine; decide, fun p hp => ?_⟩
    walk_at "go3"
    refine mk_tup upd_same fun H' z dz s1 hz => ?_
    have sp : Same H (upd H p (.tup [.str kOwn, ua])) := Same.upd hp
    exact q _ _ (sp.trans s1) ⟨z, dz, .ref p, rfl, hz, .un (s1 _ _ upd_same) ((fa.same sp).same s1)⟩
theorem at0 {v : V} {xs : List V} : atI (v :: xs) (0 : Int) = some v := at_of (j := 0) rfl rfl
theorem inV_keys (k : Str) : inV (.str k) [V.str kOpen, V.str kOwn] = (k == kOpen || k == kOwn) := by
  show ((kOpen == k) || ((kOwn == k) || false)) = _
  rw [Bool.or_false, BEq.comm (a := kOpen), BEq.comm (a := kOwn)]
theorem head_at {H : Hp} {v : V} {a : Fm} (h : FmAt H v a) : ∃ p xs, v = .ref p ∧ H p = some (.tup (.str a.head :: xs)) := by
  cases h with
  | atm h => exact ⟨_, _, rfl, h⟩
  | un h _ => exact ⟨_, _, rfl, h⟩
  | bi h _ _ => exact ⟨_, _, rfl, h⟩
theorem key_head : ∀ {a : Fm}, a.kin = true → (a.head == kOpen || a.head == kOwn) = a.isKey
  | .atm k t, h => by
    simp only [Fm.kin, atK, Bool.or_eq_true, beq_iff_eq] at h
    rcases h with (rfl | rfl) | rfl
    · show (kWord == kOpen || kWord == kOwn) = false
      decide +kernel
    · show (kName == kOpen || kName == kOwn) = false
      decide +kernel
    · show (kUnk == kOpen || kUnk == kOwn) = false
      decide +kernel
  | .un k a, _ => rfl
  | .bi k a b, h => by
    simp only [Fm.kin, biK, Bool.and_eq_true, Bool.or_eq_true, beq_iff_eq] at h
    rcases h.1 with (rfl | rfl) | rfl
    · show (kPair == kOpen || kPair == kOwn) = false
      decide +kernel
    · show (kSeal == kOpen || kSeal == kOwn) = false
      decide +kernel
    · show (kLock == kOpen || kLock == kOwn) = false
      decide +kernel
theorem cm_xor (T : Bl K mg) (L : Lt K mg CL) (LC : Lc K CL) (D : Dm K CL "__xor__" "Letter.__xor__" s_Letter___xor__ p_Letter___xor__) (c_Letter : Ck P w K mg base 4 "Letter" CL (spInit2 CL CE)) (c_BadKey : Er P w K mg base 1 "BadKey" CX "key") : Cm P w K mg base 6 CL "__xor__" (spXor CL CX) := by
  obtain ⟨aK, hK, tK⟩ := T.t_KEYS
  have c_KEYS : ∃ u, mg "KEYS" = some u ∧ RelV (.ref aK) u := ⟨_, hK, rfl⟩
  refine cm_x D sc_Letter___xor__ (fun vs H Q E h => ?_) (fun f cdv A outer s H vs Q E hr h => ?_)
  · obtain ⟨u, v, a, b, rfl, _⟩ := h
    rfl
  · obtain ⟨u, v, a, b, rfl, ⟨x, dx, ua, rfl, hx, fa⟩, ⟨y, dy, ub, rfl, hy, fb⟩, hkin, q1, q2⟩ := h
    have lcl := L.cl
    have lno := L.no
    refine ⟨_, (pss_cons (ps_if (pt_not (pt_val (pe_callB call_isi (by rfl) T.b_isinstance (by decide +kernel) (pa_cons (pv 1) (pa_cons (C8.pe_gc (v := .ref CL) (by rfl) ⟨_, L.mgC, rfl⟩) pa_nil)))))
  (pss_one ps_never)
  pss_nil)
  (pss_cons (ps_if (pt_cmpR op_notIn_seq (pe_ix ix_tup (pe_fld (pv 1) rfl) pe_int (fun _ _ => rfl)) (C8.pe_gc (by rfl) c_KEYS) rfl)
  (pss_one (ps_rz rfl c_BadKey hr (by decide) (takes_of rfl rfl rfl rfl) (by rfl) (pa_cons (pv 1) pa_nil)))
  pss_nil)
  (pss_one (ps_ret (pe_mk (E := fun _ => E0) c_Letter hr (by decide) passE0 (by rfl) (pa_cons (pe_tup (pa_cons pe_str (pa_cons (pe_fld (pv 0) rfl) (pa_cons (pe_fld (pv 1) rfl) pa_nil)))) pa_nil)))))), ?_⟩
    walk_at "go3"
    refine LC.isi hy ?_
    walk_at "go3"
    obtain ⟨p, xs, rfl, ep⟩ := head_at fb
    refine g_ixT (v := .str b.head) (SqT.of ep) at0 ?_
    walk_at "go3"
    refine g_ninT (tK _) rfl rfl ?_
    rw [inV_keys, key_head hkin]
    cases hk : b.isKey with
    | false =>
      walk_at "go3"
      exact ⟨_, rfl, _, rfl, fun d hd => q2 hk H d (Same.refl _) hd⟩
    | true =>
      walk_at "go3"
      refine ⟨by show 3 ≤ sizeLine; decide, fun p2 hp => ?_⟩
      walk_at "go3"
      refine mk_tup upd_same fun H' z dz s1 hz => ?_
      have sp : Same H (upd H p2 (.tup [.str kLock, ua, .ref p])) := Same.upd hp
      exact q1 hk _ _ (sp.trans s1) ⟨z, dz, .ref p2, rfl, hz, .bi (s1 _ _ upd_same) ((fa.same sp).same s1) ((fb.same sp).same s1)⟩
end
end Op

namespace Op
open PySem PySem.Spec PyProof.Rows L2 L2H
/-! ## a def that raises nothing, called within an except suite -/
/-- its promise there; p stands for the exception that is handled -/
structure Fc (P : Program) (w : World) (K : PySem.W.Frag) (mg : Str → Option Value) (base : Heap) (k : Nat) (f : Addr) (fd : FuncData) (ps : List Str) (sp : Sp) : Prop where
  len : ∀ vs H Q E, sp vs H Q E → vs.length = ps.length
  run : ∀ (A : Around) (outer : List Env) (s : Shared) (H : Hp) (us : List Value) (vs : List V) (Q : VK) (p : Addr × Obj), RoomH k A → PinOk outer H s p → Env0 P w K mg base A outer s H → BindsTo s fd ⟨us, []⟩ (ps.zip us) → Vals vs us → sp vs H Q E0 →
    codeAny (model P w) A (.call (.ref f) ⟨us, []⟩) (CR (L2.CX P w) outer P w H s Q E0) s
theorem fc_of {P : Program} {w : World} {K : PySem.W.Frag} {mg : Str → Option Value} {base : Heap} {k : Nat} {f : Addr} {fd : FuncData} {N ps : List Str} {x qual : Str} {st : Stmt} {sp : Sp} (F : Fun K x qual st f fd) (S : FnScope N ps (defScope st)) (len : ∀ vs H Q E, sp vs H Q E → vs.length = ps.length)
    (hb : ∀ (cdv : Value) (A : Around) (outer : List Env) (s : Shared) (H : Hp) (vs : List V) (Q : VK) (p : Addr × Obj), RoomH k (A.deeper (envOfC qual (defScope st) s.heap.objs.size f cdv)) → sp vs H Q E0 →
      ∃ t, PSs (cxH (L2.CX P w) P w K mg base N qual (defScope st) f cdv A outer s H E0 p).nox (defBody st) t ∧ t { nx := fun _ H' => Q .non H', rt := Q } (L2.start N vs) H) : Fc P w K mg base (k + 1) f fd ps sp := by
  obtain ⟨oc, od, kV, doc, pm, an, cdv, ct, osl, rfl, lk, hcd⟩ := F.ex
  refine ⟨len, ?_⟩
  intro A outer s H us vs Q p hr hp e0 bd r hsp
  have old : ∀ b o, base.get? b = some o → s.heap.get? b = some o := fun b o e => (e0.bs b o e).1
  have KX : K.In s.heap := e0.mod.kin.keeps old
  have kinds : ∀ y ∈ ps.zip us, (defScope st).names.lookup y.1 = some .local ∨ ((defScope st).names.lookup y.1 = some .cell ∧ ((cellsFrom (s.heap.objs.size + 1) (defScope st).names []).lookup y.1).isSome = true) := by
    rintro ⟨n, v⟩ hy
    exact (S.par n (List.of_mem_zip hy).1).elim .inl fun q => .inr ⟨q, PySem.W.cellsFrom_some _ _ _ (.inl q)⟩
  refine codeAny_call_function hr.depth (KX _ _ lk) rfl S.co S.gen rfl (PySem.W.codeRec_of KX hcd) (bd _ _ _ _ ?_)
  refine wpAny_newFunctionEnv_cells S.kind kinds fun env he s1 ic => ?_
  subst he
  obtain ⟨t, ht, hq⟩ := hb cdv A outer s H vs Q p (hr.deeper _) hsp
  have J := inv_startH (CX := L2.CX P w) (w := w) (mg := mg) (E := E0) (cd := cdv) S hp e0 (len _ _ _ _ hsp) r ic
  have lim : s.heap.NoLimit := e0.mod.nolimit.keeps old
  refine ⟨lim.keeps ic.toInCall.keep, codeAny_func (wpAny_mono (ht.nox.run [] s1 _ H _ J hq) (fun fl s' h => ?_) fun e s' h => h)⟩
  match fl, h with
  | .ret u, ⟨v, σ', H', J', rv, q⟩ => exact ⟨v, H', J'.os, J'.bare, J'.base, J'.hok, rv, q⟩
  | .next, ⟨σ', H', J', q⟩ => exact ⟨V.non, H', J'.os, J'.bare, J'.base, J'.hok, rfl, q⟩
  | .brk, ⟨_, _, _, q⟩ => exact False.elim q
  | .cont, ⟨_, _, _, q⟩ => exact False.elim q
/-- a method that may be called there -/
structure Mc (P : Program) (w : World) (K : PySem.W.Frag) (mg : Str → Option Value) (base : Heap) (k : Nat) (C : Addr) (m : Str) (sp : Sp) : Prop where
  ex : ∃ (f : Addr) (fd : FuncData) (ps : List Str), Fc P w K mg base k f fd ps sp ∧ Meth K C m f ∧ Binds K fd ps []
section
variable {X : Cx} {k j : Nat} {C a : Addr} {m : Str} {sp : Sp} {pos apos : Pos} {o : Expr} {ta : TE} {oe : Obj} {pn : List (Addr × Obj)}
theorem pe_mc0 {pl : Sem Bool} (c : Mc X.prog X.w X.K X.mg X.base k C m sp) (cl : Cls X.K C) (hr : Room j X.A) (hk : k ≤ j) (he : PE (X.suite a ((a, oe) :: pn)) o ta)
    (ht : eval (.Call (.Attribute o m apos) [] [] pos) X.env = (do
      let ov ← eval o X.env
      standAt apos.atName
      let (g, first) ← holding [ov] (getMethod ov m pl)
      callWith pos g first (backTo pos (starEach [] X.env)) (backToKw pos (keywordEach [] X.env))) := by rfl) :
    PE (X.suite a ((a, oe) :: pn)) (.Call (.Attribute o m apos) [] [] pos) (tCm C m sp ta tNil) := by
  obtain ⟨f, fd, ps, F, M, b⟩ := c.ex
  refine ⟨fun pins s σ H Q I h => ?_⟩
  refine PySem.W.methodCall_KW (pl := pl) (thn (he.run pins s σ H _ I h) fun u s1 hh => ?_) ht
  obtain ⟨x, H1, I1, rx, q, dx, fs, ex, ea, l, q1⟩ := hh
  subst ex
  obtain rfl : u = Value.ref q := rx
  refine getmeth_ok I1 ea cl M l ?_
  refine PySem.W.callWith_K0 (first := [.ref q]) I1.kIn M.kp ?_
  have hroom : RoomH k (X.suite a ((a, oe) :: pn)).A := ⟨(hr.mono hk).dp, (hr.mono hk).un⟩
  obtain ⟨g1, g2, g3, g4, g5⟩ := I1.pin (a, oe) (List.mem_append_left _ List.mem_cons_self)
  have hpin : PinOk (X.suite a ((a, oe) :: pn)).stack H1 s1 (a, oe) := ⟨g1, g2, fun z => (List.mem_cons.mp (I1.stkSub a z)).elim g3 g4, g5⟩
  have rv : Vals [V.ref q] [Value.ref q] := .cons (rfl : L2.RelV (.ref q) (.ref q)) .nil
  have hl : [Value.ref q].length = ps.length := rv.length.symm.trans (F.len _ _ _ _ q1)
  have bd := b s1 [Value.ref q] I1.kIn (by rw [List.append_nil]; exact hl)
  rw [List.append_nil] at bd
  refine wpAny_call (codeAny_mono (F.run (X.suite a ((a, oe) :: pn)).A (X.suite a ((a, oe) :: pn)).stack s1 H1 [.ref q] [.ref q] Q (a, oe) hroom hpin I1.env0 bd rv q1) fun r s' hq => ?_)
  match r, hq with
  | .error e, hq => exact passE0 σ pins H1 s1 e s' I1 hq
  | .ok (.ret u), hq => exact I1.after hq
  | .ok .next, hq => exact False.elim hq
  | .ok .brk, hq => exact False.elim hq
  | .ok .cont, hq => exact False.elim hq
end
end Op

namespace Op
open PySem PySem.Spec PyProof.Rows L2 SX
local macro_rules | `(tactic| walk_at "go1") => `(tactic| first
  | ((with_reducible refine' g_var ?h ?_); (case h => rfl)) | with_reducible refine' g_c ?_ | with_reducible refine' g_op ?_ | with_reducible refine' g_un ?_ | with_reducible refine' g_if ?_ | with_reducible refine' g_test ?_ | with_reducible refine' g_B ?_ | with_reducible refine' g_bl ?_
  | with_reducible refine' g_not ?_ | with_reducible refine' g_and ?_ | with_reducible refine' g_or ?_ | with_reducible refine' g_andV ?_ | with_reducible refine' g_orV ?_ | with_reducible refine' g_notV ?_ | with_reducible refine' g_nil ?_ | with_reducible refine' g_cons ?_ | with_reducible refine' g_CB ?_ | with_reducible refine' g_ca ?_
  | with_reducible refine' g_seq ?_ | with_reducible refine' g_next ?_ | with_reducible refine' g_asg ?_ | with_reducible refine' g_name ?_ | with_reducible refine' g_ret ?_ | with_reducible refine' g_retN ?_ | with_reducible refine' g_drop ?_ | with_reducible refine' g_ifS ?_ | with_reducible refine' g_sub ?_
  | with_reducible refine' g_I0 ?_ | with_reducible refine' g_U ?_ | ((with_reducible refine' g_eq ?h ?_); (case h => rfl)) | ((with_reducible refine' g_ne ?h ?_); (case h => rfl))
  | ((with_reducible refine' g_lenL ?h ?_); (case h => first | assumption | exact SqL.of (by assumption) | exact SqL.of upd_same)) | ((with_reducible refine' g_lenT ?h ?_); (case h => first | assumption | exact SqT.of (by assumption) | exact SqT.of upd_same))
  | ((with_reducible refine' g_ixL ?h ?ha ?_); (case h => first | assumption | exact SqL.of (by assumption) | exact SqL.of upd_same); (case ha => rfl)) | ((with_reducible refine' g_ixT ?h ?ha ?_); (case h => first | assumption | exact SqT.of (by assumption) | exact SqT.of upd_same); (case ha => rfl))
  | ((with_reducible refine' g_I ?h ?_); (case h => first | decide | omega | (first | refine' ⟨?_, ?_, ?_⟩ | refine' ⟨?_, ?_⟩ | refine' Or.inl ⟨?_, ?_⟩) <;> omega | (refine' Or.inr ⟨?_, ?_⟩ <;> omega)))
  | ((with_reducible refine' g_setL ?h ?ha ?_); (case h => first | assumption | exact upd_same); (case ha => rfl))
  | with_reducible refine' g_lcR ?_
  | with_reducible refine' g_M1 ?_ | with_reducible refine' g_isS ?_ | with_reducible refine' g_tyS ?_ | ((with_reducible refine' g_tyL ?h ?_); (case h => first | assumption | exact upd_same))
  | ((with_reducible refine' g_cat ?h ?h2 ?hl ?_); (case h => first | assumption | exact upd_same); (case h2 => first | assumption | exact upd_same); (case hl => first | decide | (simp; omega)))
  | with_reducible refine' g_lcS ?_
  | with_reducible refine' g_starts ?_ | with_reducible refine' g_chain ?_
  | ((with_reducible refine' g_lenS ?h ?_); (case h => first | exact len_le (by assumption) | exact len_le (by omega))) | ((with_reducible refine' g_rstrip ?h ?_); (case h => first | exact len_le (by assumption) | exact len_le (by omega))) | ((with_reducible refine' g_slX ?h ?_); (case h => first | exact len_le (by assumption) | exact len_le (by omega)))
  | with_reducible refine' g_sl ?_ | with_reducible refine' g_nopart ?_ | with_reducible refine' g_part ?_ | with_reducible refine' g_isI ?_
  | with_reducible refine' g_tru ?_
  | with_reducible refine' iteT ?_ | with_reducible refine' iteF ?_ | with_reducible refine' iteNT ?_ | with_reducible refine' iteNF ?_
  | with_reducible refine' g_int ?_ | with_reducible refine' g_insg ?_ | with_reducible refine' g_ninsg ?_ | with_reducible refine' g_isN ?_ | with_reducible refine' g_notN ?_ | with_reducible refine' g_lst ?_ | with_reducible refine' g_tup ?_ | with_reducible refine' g_BM ?_ | with_reducible refine' g_BM0 ?_)
local macro_rules | `(tactic| walk_at "go") => `(tactic| repeat' walk_at "go1")
local macro_rules | `(tactic| walk_at "go2") => `(tactic| repeat' (first | walk_at "go1" | with_reducible refine' g_cm ?_ | with_reducible refine' g_mk ?_ | with_reducible refine' g_for ?_ | ((with_reducible refine' g_rcm ?h ?ha ?_); (case h => first | assumption | exact upd_same); (case ha => first | rfl | decide | simp [List.lookup]))))
/- macro2 -/
local macro_rules | `(tactic| walk_at "go3a") => `(tactic| first
  | walk_at "go1" | with_reducible refine' g_cm ?_ | with_reducible refine' g_mk ?_ | with_reducible refine' g_for ?_ | with_reducible refine' g_fld ?_ | with_reducible refine' g_lcT0 ?_
  | ((with_reducible refine' g_rcm ?h ?ha ?_); (case h => first | assumption | exact upd_same); (case ha => first | rfl | decide | simp [List.lookup]))
  | ((with_reducible refine' g_shape ?hc ?hn ?h ?_); (case hc => assumption); (case hn => assumption); (case h => first | assumption | exact upd_same | (rw [upd_ne (by assumption)]; assumption))))
local macro_rules | `(tactic| walk_at "go3") => `(tactic| repeat' walk_at "go3a")
local macro_rules | `(tactic| walk_at "go4") => `(tactic| repeat' (first
  | walk_at "go3a" | ((with_reducible refine' iteDT ?h ?_); (case h => first | rfl | decide +kernel)) | ((with_reducible refine' iteDF ?h ?_); (case h => decide +kernel))))
/-! ## drawn forms -/
theorem cap_mem {c : Nat} (h : 65 ≤ c ∧ c ≤ 90) : c ∈ capL := by
  have : ∀ c : Fin 128, 65 ≤ c.val ∧ c.val ≤ 90 → c.val ∈ capL := by decide +kernel
  exact this ⟨c, by omega⟩ h
theorem small_mem {c : Nat} (h : 97 ≤ c ∧ c ≤ 122) : c ∈ smallL := by
  have : ∀ c : Fin 128, 97 ≤ c.val ∧ c.val ≤ 122 → c.val ∈ smallL := by decide +kernel
  exact this ⟨c, by omega⟩ h
theorem dig_mem {c : Nat} (h : 48 ≤ c ∧ c ≤ 57) : c ∈ digL := by
  have : ∀ c : Fin 128, 48 ≤ c.val ∧ c.val ≤ 57 → c.val ∈ digL := by decide +kernel
  exact this ⟨c, by omega⟩ h
theorem wordB_of {cs : List Nat} (h : isWordL cs) : isWordB cs = true := by
  simp only [isWordB, Bool.and_eq_true, decide_eq_true_eq]
  exact ⟨h.1, h.2.1, allIn_of fun c hc => small_mem (h.2.2 c hc)⟩
theorem nameB_of {cs : List Nat} (h : isNameL cs) : isNameB cs = true := by
  obtain ⟨as, bs, rfl, h1, h2, h3, h4⟩ := h
  have e : noDig (as ++ bs) = as := noDig_of (fun c hc => cap_mem (h3 c hc)) (fun c hc => dig_mem (h4 c hc))
  simp only [isNameB, Bool.and_eq_true, decide_eq_true_eq]
  rw [e]
  exact ⟨h1, h2, allIn_of fun c hc => cap_mem (h3 c hc)⟩
/-- the law's list of unknowns stands at us -/
def UsAt (H : Hp) (us : Addr) (xs : List (List Nat)) : Prop := H us = some (.lst (xs.map fun x => .str (S x))) ∧ (∀ x ∈ xs, isUnkB x = true) ∧ xs.length < 1000
theorem UsAt.but {H H' : Hp} {us st : Addr} {xs : List (List Nat)} (h : UsAt H us xs) (n : us ≠ st) (b : But st H H') : UsAt H' us xs := ⟨b _ _ n h.1, h.2⟩
theorem UsAt.same {H H' : Hp} {us : Addr} {xs : List (List Nat)} (h : UsAt H us xs) (b : Same H H') : UsAt H' us xs := ⟨b _ _ h.1, h.2⟩
theorem StAt.tps {H H' : Hp} {st : Addr} {n : Nat} (h : StAt H st n) (b : But st H H') : Tps H H' := fun x ys e => by
  obtain ⟨a1, a2, a3, e0, _⟩ := h
  exact b _ _ (ne_of e e0 (by intro z; cases z)) e
def spAtom : Sp := fun vs H Q _ => ∃ (st us : Addr) (xs : List (List Nat)) (n : Nat), vs = [.ref st, .ref us] ∧ UsAt H us xs ∧ us ≠ st ∧ StAt H st n ∧ n + 20 ≤ 1000000000000 ∧
  ∀ H' v k t, (Fm.atm k t).ok = true → But st H H' → StAt H' st (n + 20) → FmAt H' v (.atm k t) → Q v H'
theorem ok_word {t : List Nat} (h : isWordB t = true) : (Fm.atm kWord t).ok = true := by simp [Fm.ok, h]
theorem ok_name {t : List Nat} (h : isNameB t = true) : (Fm.atm kName t).ok = true := by simp [Fm.ok, h]
theorem ok_unk {t : List Nat} (h : isUnkB t = true) : (Fm.atm kUnk t).ok = true := by simp [Fm.ok, h]
theorem unk_str (xs : List (List Nat)) (h : ∀ x ∈ xs, isUnkB x = true) : SeqAt.shaped (.list (xs.map fun x => .str (S x))) = true := by
  have h1 : ∀ x : List Nat, isUnkB x = true → PyData.strOk (S x) = true := fun x hx => by
    simp only [isUnkB, Bool.and_eq_true] at hx
    show (S x).cps.all (· < 0x110000) = true
    rw [← Array.all_toList]
    exact List.all_eq_true.mpr fun c hc => decide_eq_true (by
      have := allIn_mem hx.2.2 c hc
      have : ∀ c ∈ smallL, c < 128 := by decide +kernel
      have := this c (by assumption)
      omega)
  have h2 : PyData.canLayAll0 (xs.map fun x => PyData.str (S x)) = true := by
    induction xs with
    | nil => rfl
    | cons x r ih =>
      show (PyData.strOk (S x) && PyData.canLayAll0 (r.map fun x => PyData.str (S x))) = true
      rw [h1 x (h x (List.mem_cons_self ..)), ih fun y hy => h y (List.mem_cons_of_mem _ hy)]
      rfl
  have h3 : PyData.depthAll (xs.map fun x => PyData.str (S x)) = 0 := by
    clear h h1 h2
    induction xs with
    | nil => rfl
    | cons x r ih =>
      show max 0 (PyData.depthAll (r.map fun x => PyData.str (S x))) = 0
      rw [ih]
      rfl
  show (PyData.canLayAll0 (xs.map fun x => PyData.str (S x)) && decide (PyData.depthAll (xs.map fun x => PyData.str (S x)) + 1 ≤ 64)) = true
  rw [h2, h3]
  rfl
theorem eqv_nil (xs : List (List Nat)) : PyData.eqv (.list (xs.map fun x => .str (S x))) (.list []) = xs.isEmpty := by
  cases xs with
  | nil => rfl
  | cons x r => rfl
theorem dp_strs {K : PySem.W.Frag} {H : Hp} : ∀ xs : List (List Nat), DpAll K H (xs.map fun x => V.str (S x)) (xs.map fun x => PyData.str (S x))
  | [] => .nil
  | x :: r => .cons (.str _) (dp_strs r)
section
variable {P : Program} {w : World} {K : PySem.W.Frag} {mg : Str → Option Value} {base : Heap} {CL CE CX : Addr}
theorem ca_atom (T : Bl K mg) (D : Df K mg "_law_atom" s_law_atom p_law_atom) (c_law_draw : Ca P w K mg base 1 "_law_draw" spDraw) (c_law_pick : Ca P w K mg base 2 "_law_pick" (spPick K)) (c_law_word : Ca P w K mg base 2 "_law_word" spWord) (c_law_name : Ca P w K mg base 2 "_law_name" spName) :
    Ca P w K mg base 3 "_law_atom" spAtom := by
  refine ca_n D sc_law_atom (fun vs H Q E h => ?_) (fun f cdv A outer s H vs Q E hr h => ?_)
  · obtain ⟨st, us, xs, n, rfl, _⟩ := h
    rfl
  · obtain ⟨st, us, xs, n, rfl, hus, hne, hst, hn, q⟩ := h
    refine ⟨_, (pss_cons (ps_set (i := 2) sc_law_atom.nd rfl (Or.inl rfl) (pe_ca c_law_draw hr (by decide) (by rfl) (pa_cons (pv 0) (pa_cons pe_int pa_nil))))
  (C8.pss_cut (ps_if (PW.pt (pw_and (pt_cmpR op_lt (pv 2) pe_int (nomark _)) (pw_and1 (pt_cmpR (op_neD hr.units) (pv 1) (pe_lst pa_nil) (nomark _)))))
  (pss_one (ps_ret (pe_tup (pa_cons pe_str (pa_cons (pe_ca c_law_pick hr (by decide) (by rfl) (pa_cons (pv 0) (pa_cons (pv 1) pa_nil))) pa_nil)))))
  pss_nil)
  (pss_cons (ps_if (pt_cmpR op_lt (pv 2) pe_int (nomark _))
  (pss_one (ps_ret (pe_tup (pa_cons pe_str (pa_cons (pe_ca c_law_pick hr (by decide) (by rfl) (pa_cons (pv 0) (pa_cons (pe_lst (pa_cons pe_str (pa_cons pe_str (pa_cons pe_str (pa_cons pe_str (pa_cons (pe_ca c_law_name hr (by decide) (by rfl) (pa_cons (pv 0) pa_nil)) pa_nil)))))) pa_nil))) pa_nil)))))
  pss_nil)
  (pss_one (ps_ret (pe_tup (pa_cons pe_str (pa_cons (pe_ca c_law_pick hr (by decide) (by rfl) (pa_cons (pv 0) (pa_cons (pe_lst (pa_cons pe_str (pa_cons pe_str (pa_cons pe_str (pa_cons pe_str (pa_cons (pe_ca c_law_word hr (by decide) (by rfl) (pa_cons (pv 0) pa_nil)) pa_nil)))))) pa_nil))) pa_nil)))))))), ?_⟩
    walk_at "go3"
    refine g_draw (m := 6) rfl (by decide) (by decide) hst (by omega) fun H1 d hd b1 s1 => ?_
    have u1 := hus.but hne b1
    walk_at "go3"
    refine ⟨fun σ' H' => σ' = [some (.ref st), some (.ref us), some (.int (d : Int))] ∧ Same H1 H', ?_, ?_⟩
    · walk_at "go3"
      refine iteD (fun h1 => ?_) (fun h1 => ?_)
      · walk_at "go3"
        refine ⟨Nat.zero_le _, fun p hp => ?_⟩
        have u2 := u1.same (Same.upd (o := .lst []) hp)
        refine ⟨.list (xs.map fun x => .str (S x)), .list [], .lst (SqL.of u2.1) (dp_strs xs), .lst (SqL.of upd_same) .nil, unk_str xs u1.2.1, rfl, ?_⟩
        rw [eqv_nil]
        walk_at "go3"
        refine iteB (fun h2 => ?_) (fun h2 => ?_)
        · walk_at "go3"
          have hx : xs ≠ [] := fun z => by rw [z] at h2; cases h2
          refine ⟨st, us, xs.map fun x => .str (S x), n + 1, rfl, SqL.of u2.1, hne, by rw [List.length_map]; exact List.length_pos_iff.mpr hx, by rw [List.length_map]; have := u1.2.2; omega, s1.same (Same.upd hp), by omega, fun H2 v hv b2 s2 => ?_⟩
          obtain ⟨x, hx, rfl⟩ := List.mem_map.mp hv
          walk_at "go3"
          refine ⟨by show 2 ≤ sizeLine; decide, fun p2 hp2 => ?_⟩
          refine q _ _ kUnk x (ok_unk (u1.2.1 x hx)) ((b1.trans ((But.of (Same.upd hp)).trans b2)).trans (But.of (Same.upd hp2))) ((s2.same (Same.upd hp2)).mono (by omega)) (.atm upd_same)
        · walk_at "go3"
          exact ⟨rfl, Same.upd hp⟩
      · walk_at "go3"
        exact ⟨rfl, Same.refl _⟩
    · rintro σ' H2 ⟨rfl, s2⟩
      walk_at "go3"
      refine iteD (fun h1 => ?_) (fun h1 => ?_)
      · walk_at "go3"
        refine ⟨st, n + 1, rfl, s1.same s2, by omega, fun H3 cs hcs b3 s3 => ?_⟩
        walk_at "go3"
        refine ⟨by show 5 ≤ sizeLine; decide, fun p hp => ?_⟩
        walk_at "go3"
        refine ⟨st, p, [.str (Str.ofString "K"), .str (Str.ofString "N"), .str (Str.ofString "S"), .str (Str.ofString "AB"), .str (S cs)], _, rfl, SqL.of upd_same, (s3.ne hp).symm, by show 0 < 5; decide, by show 5 < 1000000; decide, s3.same (Same.upd hp), by omega, fun H4 v hv b4 s4 => ?_⟩
        obtain ⟨t, rfl, ht⟩ : ∃ t, v = .str (S t) ∧ isNameB t = true := by
          simp only [List.mem_cons, List.not_mem_nil, or_false] at hv
          rcases hv with rfl | rfl | rfl | rfl | rfl
          · exact ⟨(Str.ofString "K").cps.toList, by rw [S_tl], by decide +kernel⟩
          · exact ⟨(Str.ofString "N").cps.toList, by rw [S_tl], by decide +kernel⟩
          · exact ⟨(Str.ofString "S").cps.toList, by rw [S_tl], by decide +kernel⟩
          · exact ⟨(Str.ofString "AB").cps.toList, by rw [S_tl], by decide +kernel⟩
          · exact ⟨cs, rfl, nameB_of hcs⟩
        walk_at "go3"
        refine ⟨by show 2 ≤ sizeLine; decide, fun p2 hp2 => ?_⟩
        refine q _ _ kName t (ok_name ht) ((b1.trans (But.of s2)).trans ((b3.trans ((But.of (Same.upd hp)).trans b4)).trans (But.of (Same.upd hp2)))) ((s4.same (Same.upd hp2)).mono (by omega)) (.atm upd_same)
      · walk_at "go3"
        refine ⟨st, n + 1, rfl, s1.same s2, by omega, fun H3 cs hcs b3 s3 => ?_⟩
        walk_at "go3"
        refine ⟨by show 5 ≤ sizeLine; decide, fun p hp => ?_⟩
        walk_at "go3"
        refine ⟨st, p, [.str (Str.ofString "a"), .str (Str.ofString "b"), .str (Str.ofString "yes"), .str (Str.ofString "open"), .str (S cs)], _, rfl, SqL.of upd_same, (s3.ne hp).symm, by show 0 < 5; decide, by show 5 < 1000000; decide, s3.same (Same.upd hp), by omega, fun H4 v hv b4 s4 => ?_⟩
        obtain ⟨t, rfl, ht⟩ : ∃ t, v = .str (S t) ∧ isWordB t = true := by
          simp only [List.mem_cons, List.not_mem_nil, or_false] at hv
          rcases hv with rfl | rfl | rfl | rfl | rfl
          · exact ⟨(Str.ofString "a").cps.toList, by rw [S_tl], by decide +kernel⟩
          · exact ⟨(Str.ofString "b").cps.toList, by rw [S_tl], by decide +kernel⟩
          · exact ⟨(Str.ofString "yes").cps.toList, by rw [S_tl], by decide +kernel⟩
          · exact ⟨(Str.ofString "open").cps.toList, by rw [S_tl], by decide +kernel⟩
          · exact ⟨cs, rfl, wordB_of hcs⟩
        walk_at "go3"
        refine ⟨by show 2 ≤ sizeLine; decide, fun p2 hp2 => ?_⟩
        refine q _ _ kWord t (ok_word ht) ((b1.trans (But.of s2)).trans ((b3.trans ((But.of (Same.upd hp)).trans b4)).trans (But.of (Same.upd hp2)))) ((s4.same (Same.upd hp2)).mono (by omega)) (.atm upd_same)
/-! ### drawn forms of a depth -/
def Fm.dep : Fm → Nat
  | .atm _ _ => 0
  | .un _ a => a.dep + 1
  | .bi _ a b => max a.dep b.dep + 1
/-- draws, sizes at most, by the depth asked -/
def dr : Nat → Nat
  | 0 => 25
  | e + 1 => 2 * dr e + 25
theorem dr_ge : ∀ e, 25 ≤ dr e
  | 0 => Nat.le_refl _
  | e + 1 => by have := dr_ge e; show 25 ≤ 2 * dr e + 25; omega
def szB : Nat → Nat
  | 0 => 1
  | e + 1 => 2 * szB e + 2
def spForm1 (d : Nat) : Sp := fun vs H Q _ => ∃ (st us : Addr) (xs : List (List Nat)) (n e : Nat), vs = [.ref st, .ref us, .int (e : Int)] ∧ e < d ∧ UsAt H us xs ∧ us ≠ st ∧ StAt H st n ∧ n + dr e ≤ 1000000000000 ∧
  ∀ H' v a, a.ok = true → a.dep ≤ 2 * e → a.size ≤ szB e → But st H H' → StAt H' st (n + dr e) → FmAt H' v a → Q v H'
theorem ca_form (T : Bl K mg) (D : Df K mg "_law_form" s_law_form p_law_form) (c_law_draw : Ca P w K mg base 1 "_law_draw" spDraw) (c_law_atom : Ca P w K mg base 3 "_law_atom" spAtom) : ∀ d, Ca P w K mg base (4 + d) "_law_form" (spForm1 d)
  | 0 => by
    refine ca_n D sc_law_form (fun vs H Q E h => ?_) (fun f cdv A outer s H vs Q E hr h => ?_)
    · obtain ⟨st, us, xs, n, e, rfl, _⟩ := h
      rfl
    · obtain ⟨st, us, xs, n, e, rfl, he, _⟩ := h
      exact absurd he (Nat.not_lt_zero _)
  | d + 1 => by
    have c_law_form := ca_form T D c_law_draw c_law_atom d
    refine ca_n (k := 4 + d) D sc_law_form (fun vs H Q E h => ?_) (fun f cdv A outer s H vs Q E hr h => ?_)
    · obtain ⟨st, us, xs, n, e, rfl, _⟩ := h
      rfl
    · obtain ⟨st, us, xs, n, e, rfl, he, hus, hne, hst, hn, q⟩ := h
      refine ⟨_, (C8.pss_cut (ps_set (i := 3) sc_law_form.nd rfl (Or.inl rfl) (pe_ifExp (pt_cmpR op_gt (pv 2) pe_int (nomark _)) (pe_ca c_law_draw hr (by omega) (by rfl) (pa_cons (pv 0) (pa_cons pe_int pa_nil))) pe_int))
  (pss_cons (ps_if (pt_cmpR op_lt (pv 3) pe_int (nomark _))
  (pss_one (ps_ret (pe_ca c_law_atom hr (by omega) (by rfl) (pa_cons (pv 0) (pa_cons (pv 1) pa_nil)))))
  pss_nil)
  (pss_cons (ps_set (i := 4) sc_law_form.nd rfl (Or.inl rfl) (pe_ca c_law_form hr (by omega) (by rfl) (pa_cons (pv 0) (pa_cons (pv 1) (pa_cons (pe_op op_sub (pv 2) pe_int) pa_nil)))))
  (pss_cons (ps_if (pt_cmpR op_gt (pv 3) pe_int (nomark _))
  (pss_one (ps_ret (pe_tup (pa_cons (pe_ix ix_list (pe_lst (pa_cons pe_str (pa_cons pe_str (pa_cons pe_str pa_nil)))) (pe_ca c_law_draw hr (by omega) (by rfl) (pa_cons (pv 0) (pa_cons pe_int pa_nil))) (fun _ _ => rfl)) (pa_cons (pv 4) pa_nil)))))
  pss_nil)
  (pss_cons (ps_set (i := 5) sc_law_form.nd rfl (Or.inl rfl) (pe_ca c_law_form hr (by omega) (by rfl) (pa_cons (pv 0) (pa_cons (pv 1) (pa_cons (pe_op op_sub (pv 2) pe_int) pa_nil)))))
  (pss_cons (ps_if (pt_cmpR op_gt (pv 3) pe_int (nomark _))
  (pss_one (ps_ret (pe_tup (pa_cons pe_str (pa_cons (pv 4) (pa_cons (pe_tup (pa_cons (pe_ix ix_list (pe_lst (pa_cons pe_str (pa_cons pe_str pa_nil))) (pe_ca c_law_draw hr (by omega) (by rfl) (pa_cons (pv 0) (pa_cons pe_int pa_nil))) (fun _ _ => rfl)) (pa_cons (pv 5) pa_nil))) pa_nil))))))
  pss_nil)
  (pss_one (ps_ret (pe_tup (pa_cons (pe_ix ix_list (pe_lst (pa_cons pe_str (pa_cons pe_str pa_nil))) (pe_op op_mod (pe_callTy cq_int (by rfl) T.b_int (by decide +kernel) (pa_cons (pv 3) pa_nil)) pe_int) (fun _ _ => rfl)) (pa_cons (pv 4) (pa_cons (pv 5) pa_nil)))))))))))), ?_⟩
      walk_at "go3"
      have hdr := dr_ge e
      refine ⟨fun σ' H' => ∃ w : Nat, σ' = [some (.ref st), some (.ref us), some (.int (e : Int)), some (.int (w : Int)), none, none] ∧ But st H H' ∧ StAt H' st (n + 1) ∧ (e = 0 → w = 0) ∧ w < 11, ?_, ?_⟩
      · walk_at "go3"
        refine iteD (fun h1 => ?_) (fun h1 => ?_)
        · walk_at "go3"
          refine g_draw (m := 11) rfl (by decide) (by decide) hst (by omega) fun H1 w hw b1 s1 => ?_
          walk_at "go3"
          exact ⟨w, rfl, b1, s1, fun z => by omega, hw⟩
        · walk_at "go3"
          exact ⟨0, rfl, But.refl _, hst.mono (by omega), fun _ => rfl, by decide⟩
      · rintro σ' H1 ⟨w, rfl, b1, s1, hw0, hw⟩
        have u1 := hus.but hne b1
        walk_at "go3"
        refine iteD (fun h1 => ?_) (fun h1 => ?_)
        · walk_at "go3"
          refine ⟨st, us, xs, n + 1, rfl, u1, hne, s1, by omega, fun H2 v k t hk b2 s2 fa => ?_⟩
          refine q _ _ _ hk (Nat.zero_le _) ?_ (b1.trans b2) (s2.mono (by omega)) fa
          show 1 ≤ szB e
          cases e with
          | zero => exact Nat.le_refl _
          | succ e => show 1 ≤ 2 * szB e + 2; omega
        cases e with
        | zero => exact absurd (hw0 rfl) (by omega)
        | succ e' =>
        have hdr2 : dr (e' + 1) = 2 * dr e' + 25 := rfl
        have hsz2 : szB (e' + 1) = 2 * szB e' + 2 := rfl
        have hdr3 := dr_ge e'
        walk_at "go3"
        refine ⟨st, us, xs, n + 1, e', by rw [show ((e' + 1 : Nat) : Int) - 1 = (e' : Int) by omega], by omega, u1, hne, s1, by omega, fun H2 v1 a1 ok1 dp1 sz1 b2 s2 f1 => ?_⟩
        have u2 := u1.but hne b2
        walk_at "go3"
        refine iteD (fun h2 => ?_) (fun h2 => ?_)
        · walk_at "go3"
          refine ⟨by show 3 ≤ sizeLine; decide, fun p hp => ?_⟩
          walk_at "go3"
          refine' g_pick ?hz hp s2 ?hn ?h0 ?h1 ?_
          case hz => rfl
          case hn => omega
          case h0 => decide
          case h1 => decide
          intro H3 v hv b3 s3
          obtain ⟨k, rfl, hk⟩ : ∃ k, v = .str k ∧ unK k = true := by
            simp only [List.mem_cons, List.not_mem_nil, or_false] at hv
            rcases hv with rfl | rfl | rfl <;> exact ⟨_, rfl, by decide +kernel⟩
          walk_at "go3"
          refine ⟨by show 2 ≤ sizeLine; decide, fun p2 hp2 => ?_⟩
          refine q _ _ (.un k a1) (by simp only [Fm.ok, hk, ok1, Bool.and_self]) (by show a1.dep + 1 ≤ _; omega) (by show a1.size + 1 ≤ _; omega) ((b1.trans (b2.trans b3)).trans (But.of (Same.upd hp2))) ((s3.same (Same.upd hp2)).mono (by omega)) (.un upd_same (f1.tps ((s2.tps b3).trans (Tps.new hp2))))
        walk_at "go3"
        refine ⟨st, us, xs, _, e', by rw [show ((e' + 1 : Nat) : Int) - 1 = (e' : Int) by omega], by omega, u2, hne, s2, by omega, fun H3 v2 a2 ok2 dp2 sz2 b3 s3 f2 => ?_⟩
        have f1' := f1.tps (s2.tps b3)
        walk_at "go3"
        refine iteD (fun h3 => ?_) (fun h3 => ?_)
        · walk_at "go3"
          refine ⟨by show 2 ≤ sizeLine; decide, fun p hp => ?_⟩
          walk_at "go3"
          refine' g_pick ?hz hp s3 ?hn ?h0 ?h1 ?_
          case hz => rfl
          case hn => omega
          case h0 => decide
          case h1 => decide
          intro H4 v hv b4 s4
          obtain ⟨k, rfl, hk⟩ : ∃ k, v = .str k ∧ (k == kOpen || k == kOwn) = true := by
            simp only [List.mem_cons, List.not_mem_nil, or_false] at hv
            rcases hv with rfl | rfl <;> exact ⟨_, rfl, by decide +kernel⟩
          have hku : unK k = true := by
            simp only [unK, Bool.or_eq_true] at hk ⊢
            rcases hk with hk | hk
            · exact .inl (.inr hk)
            · exact .inr hk
          walk_at "go3"
          refine ⟨by show 2 ≤ sizeLine; decide, fun p2 hp2 => ?_⟩
          walk_at "go3"
          refine ⟨by show 3 ≤ sizeLine; decide, fun p3 hp3 => ?_⟩
          have t4 := ((s3.tps b4).trans (Tps.new (o := .tup [.str k, v2]) hp2)).trans (Tps.new (o := .tup [.str kLock, v1, .ref p2]) hp3)
          have e2 : upd (upd H4 p2 (.tup [.str k, v2])) p3 (.tup [.str kLock, v1, .ref p2]) p2 = some (.tup [.str k, v2]) := Tps.new hp3 _ _ upd_same
          refine q _ _ (.bi kLock a1 (.un k a2)) ?_ (by show max a1.dep (a2.dep + 1) + 1 ≤ _; omega) (by show a1.size + (a2.size + 1) + 1 ≤ _; omega) ((b1.trans (b2.trans (b3.trans b4))).trans ((But.of (Same.upd hp2)).trans (But.of (Same.upd hp3)))) (((s4.same (Same.upd hp2)).same (Same.upd hp3)).mono (by omega)) (.bi upd_same (f1'.tps t4) (.un e2 (f2.tps t4)))
          simp only [Fm.ok, Fm.isKey, hk, hku, ok1, ok2, Bool.or_true, Bool.and_self, Bool.and_true]
          decide +kernel
        · walk_at "go3"
          refine ⟨by show 2 ≤ sizeLine; decide, fun p hp => ?_⟩
          walk_at "go3"
          have hm : (w : Int) % 2 = 0 ∨ (w : Int) % 2 = 1 := by omega
          obtain ⟨k, hk, hat⟩ : ∃ k, (k = kPair ∨ k = kSeal) ∧ atI [V.str kPair, V.str kSeal] ((w : Int) % 2) = some (.str k) := by
            rcases hm with hm | hm
            · exact ⟨kPair, .inl rfl, by rw [hm]; rfl⟩
            · exact ⟨kSeal, .inr rfl, by rw [hm]; rfl⟩
          refine g_ixL (SqL.of upd_same) hat ?_
          walk_at "go3"
          refine ⟨by show 3 ≤ sizeLine; decide, fun p3 hp3 => ?_⟩
          have t4 := (Tps.new (o := .lst [.str kPair, .str kSeal]) hp).trans (Tps.new (o := .tup [.str k, v1, v2]) hp3)
          refine q _ _ (.bi k a1 a2) ?_ (by show max a1.dep a2.dep + 1 ≤ _; omega) (by show a1.size + a2.size + 1 ≤ _; omega) ((b1.trans (b2.trans b3)).trans ((But.of (Same.upd hp)).trans (But.of (Same.upd hp3)))) (((s3.same (Same.upd hp)).same (Same.upd hp3)).mono (by omega)) (.bi upd_same (f1'.tps t4) (f2.tps t4))
          rcases hk with rfl | rfl
          · show (biK kPair && ((!(kPair == kLock) || a2.isKey) && (a1.ok && a2.ok))) = true
            rw [ok1, ok2, show biK kPair = true by decide +kernel, show (kPair == kLock) = false by decide +kernel]
            rfl
          · show (biK kSeal && ((!(kSeal == kLock) || a2.isKey) && (a1.ok && a2.ok))) = true
            rw [ok1, ok2, show biK kSeal = true by decide +kernel, show (kSeal == kLock) = false by decide +kernel]
            rfl
/-! ### letters of forms -/
theorem LetAt.mut {H : Hp} {D : Addr} {o : HO} {xs : List V} {v : V} {a : Fm} (h : LetAt CL H v a) (hD : H D = some (.lst xs)) : LetAt CL (upd H D o) v a := by
  obtain ⟨x, dx, u, rfl, e, f⟩ := h
  exact ⟨x, dx, u, rfl, by rw [upd_ne (ne_of e hD (by intro z; cases z))]; exact e, f.tps (Tps.lst hD)⟩
theorem kind_txt {k : Str} {t : List Nat} (h : (Fm.atm k t).ok = true) : kindOf (atTxt k t) = some (k, t) := by
  simp only [Fm.ok, Bool.or_eq_true, Bool.and_eq_true, beq_iff_eq] at h
  rcases h with ⟨rfl, h⟩ | ⟨rfl, h⟩ | ⟨rfl, h⟩
  · have e : atTxt kWord t = t := by unfold atTxt; rw [if_neg (by decide +kernel)]
    rw [e]
    unfold kindOf
    rw [if_pos h]
  · have hw : ¬ isWordB t = true := fun z => by
      obtain ⟨c, r, e, hc⟩ := name_head h
      simp only [isWordB, Bool.and_eq_true] at z
      have := allIn_mem z.2.2 c (by rw [e]; exact List.mem_cons_self ..)
      exact absurd this ((by decide +kernel : ∀ c ∈ capL, c ∉ smallL) c hc)
    have e : atTxt kName t = t := by unfold atTxt; rw [if_neg (by decide +kernel)]
    rw [e]
    unfold kindOf
    rw [if_neg hw, if_pos h]
  · have hw : ¬ isWordB (63 :: t) = true := fun z => by
      simp only [isWordB, Bool.and_eq_true] at z
      exact absurd (allIn_mem z.2.2 63 (List.mem_cons_self ..)) (by decide +kernel)
    have hn : ¬ isNameB (63 :: t) = true := fun z => by
      obtain ⟨c, r, e, hc⟩ := name_head z
      rw [← (List.cons.inj e).1] at hc
      exact absurd hc (by decide +kernel)
    have e : atTxt kUnk t = 63 :: t := by unfold atTxt; rw [if_pos rfl]
    rw [e]
    unfold kindOf
    rw [if_neg hw, if_neg hn, if_pos ⟨rfl, h⟩]
    rfl
theorem mk_txt {H : Hp} {Q : VK} {E : XK} {k : Str} {t : List Nat} (ok : (Fm.atm k t).ok = true) (q : ∀ H' v, Same H H' → LetAt CL H' v (.atm k t) → Q v H') :
    ∀ x dx, H x = none → H dx = none → dx ≠ x → spInit2 CL CE [.ref x, .str (S (atTxt k t))] (upd (upd H dx (.own x)) x (.ins CL dx [])) (fun v H2 => v = .non ∧ Q (.ref x) H2) E := by
  intro x dx nx ndx nex
  have s0 : Same H (upd (upd H dx (.own x)) x (.ins CL dx [])) := fun b o e => by
    rw [upd_ne (ne_of_none e nx), upd_ne (ne_of_none e ndx)]
    exact e
  have hsm : t.length ≤ 8 := Fm.ok_small ok
  refine .inl ⟨x, dx, atTxt k t, rfl, upd_same, by have := atTxt_len (k := k) (t := t); omega, fun k' t' H1 H' u hk e1 fu eH => ⟨rfl, ?_⟩, fun hk => ?_⟩
  · rw [kind_txt ok] at hk
    cases hk
    subst eH
    refine q _ _ (Same.mut (s0.trans e1) nx) ⟨x, dx, u, rfl, upd_same, fu.tps fun b ys z => ?_⟩
    rw [upd_ne (ne_of z (e1 _ _ upd_same) (by intro q; cases q))]
    exact z
  · rw [kind_txt ok] at hk
    cases hk
theorem r_lcT {σ : L2.St} {H : Hp} {Q : VK} {te : TE} {j : Nat} {a : Addr} {xs : List V} {vs : List Nat} (J : Addr → Nat → List V → Hp → Prop) (hT : SqT K H a xs) (hl : xs.length < 1000000) (hw : ∀ x, wipe ((wipe σ vs).set j (some x)) vs = wipe σ vs)
    (hst : ∀ D i acc H2, J D i acc H2 → SqT K H2 a xs) (h0 : ∀ D, H D = none → J D 0 [] (upd H D (.lst [])))
    (hs : ∀ (D : Addr) (i : Nat) (x : V) (acc : List V) (H2 : Hp), H D = none → xs[i]? = some x → H2 D = some (.lst acc) → acc.length = i → J D i acc H2 → te ((wipe σ vs).set j (some x)) H2 (lcPost J D i))
    (hd : ∀ D acc H2, H D = none → H2 D = some (.lst acc) → acc.length = xs.length → J D xs.length acc H2 → Q (.ref D) H2) : rLcT K j te vs σ (.ref a) H Q := by
  refine ⟨a, rfl, ⟨xs, hT⟩, fun D hD => ?_⟩
  refine lc_tup (xs := xs) (fun i H2 => ∃ acc, H2 D = some (.lst acc) ∧ acc.length = i ∧ J D i acc H2) ⟨[], upd_same, rfl, h0 D hD⟩ (fun i H2 hi p => ?_) (fun i x H2 hi p => ?_) (fun H2 p => ?_)
  · obtain ⟨acc, h1, h2, h3⟩ := p
    exact hst D i acc H2 h3
  · obtain ⟨acc, h1, h2, h3⟩ := p
    exact ⟨hw _, hs D i x acc H2 hD hi h1 h2 h3⟩
  · obtain ⟨acc, h1, h2, h3⟩ := p
    exact hd D acc H2 hD h1 h2 h3
theorem g_slT {H : Hp} {Q : VK} {a : Addr} {xs : List V} {lo hi : Option Int} (h : SqT K H a xs) (hn : ¬ (HT.sIx xs.length 0 lo = 0 ∧ HT.sIx xs.length xs.length hi = xs.length)) (k : ∀ p, H p = none → Q (.ref p) (upd H p (.tup (cutV xs lo hi)))) : rSlT K (.ref a) lo hi H Q := ⟨a, xs, rfl, h, hn, k⟩
/-! ### forms as data -/
def Fm.data : Fm → PyData
  | .atm k t => .tuple [.str k, .str (S t)]
  | .un k a => .tuple [.str k, a.data]
  | .bi k a b => .tuple [.str k, a.data, b.data]
theorem dp_fm {H : Hp} : ∀ {v : V} {a : Fm}, FmAt H v a → Dp K H v a.data := by
  intro v a h
  induction h with
  | atm h => exact .tup (SqT.of h) (.cons (.str _) (.cons (.str _) .nil))
  | un h _ ih => exact .tup (SqT.of h) (.cons (.str _) (.cons ih .nil))
  | bi h _ _ ih1 ih2 => exact .tup (SqT.of h) (.cons (.str _) (.cons ih1 (.cons ih2 .nil)))
theorem asc_ok {cs : List Nat} (h : ∀ c ∈ cs, c < 128) : PyData.strOk (S cs) = true := by
  show (S cs).cps.all (· < 0x110000) = true
  rw [← Array.all_toList]
  exact List.all_eq_true.mpr fun c hc => decide_eq_true (by have := h c hc; omega)
theorem atm_small {k : Str} {t : List Nat} (h : (Fm.atm k t).ok = true) : ∀ c ∈ t, c < 128 := by
  have hs : ∀ c ∈ smallL, c < 128 := by decide +kernel
  have hc : ∀ c ∈ capL, c < 128 := by decide +kernel
  have hd : ∀ c ∈ digL, c < 128 := by decide +kernel
  simp only [Fm.ok, Bool.or_eq_true, Bool.and_eq_true] at h
  rcases h with ⟨_, h⟩ | ⟨_, h⟩ | ⟨_, h⟩
  · simp only [isWordB, Bool.and_eq_true] at h
    exact fun c hc => hs c (allIn_mem h.2.2 c hc)
  · simp only [isNameB, Bool.and_eq_true] at h
    obtain ⟨ds, e, hd2⟩ := noDig_split t
    intro c hm
    rw [e] at hm
    rcases List.mem_append.mp hm with hm | hm
    · exact hc c (allIn_mem h.2.2 c hm)
    · exact hd c (hd2 c hm)
  · simp only [isUnkB, Bool.and_eq_true] at h
    exact fun c hc => hs c (allIn_mem h.2.2 c hc)
theorem Fm.lay : ∀ {a : Fm}, a.ok = true → a.data.canLay0 = true
  | .atm k t, h => by
    have e1 : PyData.strOk k = true := by
      have hk := Fm.ok_kin h
      simp only [Fm.kin, atK, Bool.or_eq_true, beq_iff_eq] at hk
      rcases hk with (rfl | rfl) | rfl <;> decide +kernel
    show (PyData.strOk k && (PyData.strOk (S t) && true)) = true
    rw [e1, asc_ok (atm_small h)]
    rfl
  | .un k a, h => by
    simp only [Fm.ok, Bool.and_eq_true] at h
    have e1 : PyData.strOk k = true := by
      have hk := h.1
      simp only [unK, Bool.or_eq_true, beq_iff_eq] at hk
      rcases hk with (rfl | rfl) | rfl <;> decide +kernel
    show (PyData.strOk k && (a.data.canLay0 && true)) = true
    rw [e1, Fm.lay h.2]
    rfl
  | .bi k a b, h => by
    simp only [Fm.ok, Bool.and_eq_true] at h
    have e1 : PyData.strOk k = true := by
      have hk := h.1
      simp only [biK, Bool.or_eq_true, beq_iff_eq] at hk
      rcases hk with (rfl | rfl) | rfl <;> decide +kernel
    show (PyData.strOk k && (a.data.canLay0 && (b.data.canLay0 && true))) = true
    rw [e1, Fm.lay h.2.2.1, Fm.lay h.2.2.2]
    rfl
theorem Fm.depth_le : ∀ a : Fm, a.data.depth ≤ a.dep + 1
  | .atm k t => Nat.le_refl _
  | .un k a => by
    have := Fm.depth_le a
    show max 0 (max a.data.depth 0) + 1 ≤ a.dep + 1 + 1
    omega
  | .bi k a b => by
    have := Fm.depth_le a
    have := Fm.depth_le b
    show max 0 (max a.data.depth (max b.data.depth 0)) + 1 ≤ max a.dep b.dep + 1 + 1
    omega
theorem Fm.shaped {a : Fm} (h : a.ok = true) (hd : a.dep ≤ 60) : SeqAt.shaped a.data = true := by
  have := Fm.depth_le a
  show (a.data.canLay0 && decide (a.data.depth ≤ 64)) = true
  rw [Fm.lay h, decide_eq_true (by omega)]
  rfl
end
end Op
namespace Op
open PySem PySem.Spec PyProof.Rows L2 SX
theorem un_okk {k : Str} {a : Fm} (h : unK k = true) (o : a.ok = true) : (Fm.un k a).ok = true := by
  simp only [Fm.ok, Bool.and_eq_true]
  exact ⟨h, o⟩
theorem bi_okk {k : Str} {a b : Fm} (h : biK k = true) (n : (k == kLock) = false ∨ b.isKey = true) (o : a.ok = true) (p : b.ok = true) : (Fm.bi k a b).ok = true := by
  simp only [Fm.ok, Bool.and_eq_true, Bool.or_eq_true]
  refine ⟨h, ?_, o, p⟩
  rcases n with n | n
  · exact .inl (by rw [n]; rfl)
  · exact .inr n
end Op
namespace OpC
end OpC

namespace Op
open PySem PySem.Spec PyProof.Rows L2 SX
local macro_rules | `(tactic| walk_at "go1") => `(tactic| first
  | ((with_reducible refine' g_var ?h ?_); (case h => rfl)) | with_reducible refine' g_c ?_ | with_reducible refine' g_op ?_ | with_reducible refine' g_un ?_ | with_reducible refine' g_if ?_ | with_reducible refine' g_test ?_ | with_reducible refine' g_B ?_ | with_reducible refine' g_bl ?_
  | with_reducible refine' g_not ?_ | with_reducible refine' g_and ?_ | with_reducible refine' g_or ?_ | with_reducible refine' g_andV ?_ | with_reducible refine' g_orV ?_ | with_reducible refine' g_notV ?_ | with_reducible refine' g_nil ?_ | with_reducible refine' g_cons ?_ | with_reducible refine' g_CB ?_ | with_reducible refine' g_ca ?_
  | with_reducible refine' g_seq ?_ | with_reducible refine' g_next ?_ | with_reducible refine' g_asg ?_ | with_reducible refine' g_name ?_ | with_reducible refine' g_ret ?_ | with_reducible refine' g_retN ?_ | with_reducible refine' g_drop ?_ | with_reducible refine' g_ifS ?_ | with_reducible refine' g_sub ?_
  | with_reducible refine' g_I0 ?_ | with_reducible refine' g_U ?_ | ((with_reducible refine' g_eq ?h ?_); (case h => rfl)) | ((with_reducible refine' g_ne ?h ?_); (case h => rfl))
  | ((with_reducible refine' g_lenL ?h ?_); (case h => first | assumption | exact SqL.of (by assumption) | exact SqL.of upd_same)) | ((with_reducible refine' g_lenT ?h ?_); (case h => first | assumption | exact SqT.of (by assumption) | exact SqT.of upd_same))
  | ((with_reducible refine' g_ixL ?h ?ha ?_); (case h => first | assumption | exact SqL.of (by assumption) | exact SqL.of upd_same); (case ha => rfl)) | ((with_reducible refine' g_ixT ?h ?ha ?_); (case h => first | assumption | exact SqT.of (by assumption) | exact SqT.of upd_same); (case ha => rfl))
  | ((with_reducible refine' g_I ?h ?_); (case h => first | decide | omega | (first | refine' ⟨?_, ?_, ?_⟩ | refine' ⟨?_, ?_⟩ | refine' Or.inl ⟨?_, ?_⟩) <;> omega | (refine' Or.inr ⟨?_, ?_⟩ <;> omega)))
  | ((with_reducible refine' g_setL ?h ?ha ?_); (case h => first | assumption | exact upd_same); (case ha => rfl))
  | with_reducible refine' g_lcR ?_
  | with_reducible refine' g_M1 ?_ | with_reducible refine' g_isS ?_ | with_reducible refine' g_tyS ?_ | ((with_reducible refine' g_tyL ?h ?_); (case h => first | assumption | exact upd_same))
  | ((with_reducible refine' g_cat ?h ?h2 ?hl ?_); (case h => first | assumption | exact upd_same); (case h2 => first | assumption | exact upd_same); (case hl => first | decide | (simp; omega)))
  | with_reducible refine' g_lcS ?_
  | with_reducible refine' g_starts ?_ | with_reducible refine' g_chain ?_
  | ((with_reducible refine' g_lenS ?h ?_); (case h => first | exact len_le (by assumption) | exact len_le (by omega))) | ((with_reducible refine' g_rstrip ?h ?_); (case h => first | exact len_le (by assumption) | exact len_le (by omega))) | ((with_reducible refine' g_slX ?h ?_); (case h => first | exact len_le (by assumption) | exact len_le (by omega)))
  | with_reducible refine' g_sl ?_ | with_reducible refine' g_nopart ?_ | with_reducible refine' g_part ?_ | with_reducible refine' g_isI ?_
  | with_reducible refine' g_tru ?_
  | with_reducible refine' iteT ?_ | with_reducible refine' iteF ?_ | with_reducible refine' iteNT ?_ | with_reducible refine' iteNF ?_
  | with_reducible refine' g_int ?_ | with_reducible refine' g_insg ?_ | with_reducible refine' g_ninsg ?_ | with_reducible refine' g_isN ?_ | with_reducible refine' g_notN ?_ | with_reducible refine' g_lst ?_ | with_reducible refine' g_tup ?_ | with_reducible refine' g_BM ?_ | with_reducible refine' g_BM0 ?_)
local macro_rules | `(tactic| walk_at "go") => `(tactic| repeat' walk_at "go1")
local macro_rules | `(tactic| walk_at "go2") => `(tactic| repeat' (first | walk_at "go1" | with_reducible refine' g_cm ?_ | with_reducible refine' g_mk ?_ | with_reducible refine' g_for ?_ | ((with_reducible refine' g_rcm ?h ?ha ?_); (case h => first | assumption | exact upd_same); (case ha => first | rfl | decide | simp [List.lookup]))))
/- macro2 -/
local macro_rules | `(tactic| walk_at "go3a") => `(tactic| first
  | walk_at "go1" | with_reducible refine' g_cm ?_ | with_reducible refine' g_mk ?_ | with_reducible refine' g_for ?_ | with_reducible refine' g_fld ?_ | with_reducible refine' g_lcT0 ?_
  | ((with_reducible refine' g_rcm ?h ?ha ?_); (case h => first | assumption | exact upd_same); (case ha => first | rfl | decide | simp [List.lookup]))
  | ((with_reducible refine' g_shape ?hc ?hn ?h ?_); (case hc => assumption); (case hn => assumption); (case h => first | assumption | exact upd_same | (rw [upd_ne (by assumption)]; assumption))))
local macro_rules | `(tactic| walk_at "go3") => `(tactic| repeat' walk_at "go3a")
local macro_rules | `(tactic| walk_at "go4") => `(tactic| repeat' (first
  | walk_at "go3a" | ((with_reducible refine' iteDT ?h ?_); (case h => first | rfl | decide +kernel)) | ((with_reducible refine' iteDF ?h ?_); (case h => decide +kernel))))
/-! ## the parts of a form, as the law lists them -/
def rForT (K : PySem.W.Frag) (g : TG) (tb : TS) (D : Ends) (σ : L2.St) (x : V) (H : Hp) : Prop := ∃ a, x = .ref a ∧ (∃ xs, SqT K H a xs) ∧ ∃ W : Nat → Nat → L2.St → Hp → Prop, (∃ m, W 0 m σ H) ∧ ∀ i m σ H, W i m σ H →
  ((Itt K a).stop i H ∧ D.nx σ H) ∨ ((Itt K a).go i H ∧ ∃ N : L2.St → Hp → Prop, (∀ σ' H', N σ' H' → ∃ m', m' < m ∧ W (i + 1) m' σ' H') ∧ ∀ x H', (Itt K a).yld i H x H' → g x σ H' fun σ2 H2 => tb { D with nx := N, ct := N, bk := D.nx } σ2 H2)
theorem g_forT {K : PySem.W.Frag} {tl : TE} {g : TG} {tb : TS} {D : Ends} {σ : L2.St} {H : Hp} (k : tl σ H fun x H1 => rForT K g tb D σ x H1) : tFor (iTup K tl) g tb D σ H := k
theorem r_forT {K : PySem.W.Frag} {g : TG} {tb : TS} {D : Ends} {σ : L2.St} {a : Addr} {xs : List V} {H : Hp} (Pv : Nat → L2.St → Hp → Prop) (h : SqT K H a xs) (h0 : Pv 0 σ H) (hl : ∀ i σ H, i ≤ xs.length → Pv i σ H → SqT K H a xs)
    (hs : ∀ i x σ H, xs[i]? = some x → Pv i σ H → g x σ H fun σ2 H2 => tb { D with nx := Pv (i + 1), ct := Pv (i + 1), bk := D.nx } σ2 H2) (hd : ∀ σ H, Pv xs.length σ H → D.nx σ H) : rForT K g tb D σ (.ref a) H :=
  ⟨a, rfl, ⟨xs, h⟩, for_tup Pv h0 hl hs hd⟩
def sumS (ks : List (V × Fm)) : Nat := (ks.map fun y => y.2.size).sum
/-- a form that is no atom: its inner forms -/
theorem kids_of {H : Hp} {v : V} {a : Fm} (h : FmAt H v a) (ok : a.ok = true) : (∃ p k t, v = .ref p ∧ a = .atm k t ∧ H p = some (.tup [.str k, .str (S t)]) ∧ atK k = true) ∨
    ∃ p k ks, v = .ref p ∧ H p = some (.tup (.str k :: ks.map (·.1))) ∧ atK k = false ∧ (∀ y ∈ ks, FmAt H y.1 y.2 ∧ y.2.ok = true ∧ y.2.dep < a.dep) ∧ 1 + sumS ks = a.size := by
  cases h with
  | @atm p k t h => exact .inl ⟨p, k, t, rfl, rfl, h, Fm.ok_kin ok⟩
  | @un p k w b h f =>
    simp only [Fm.ok, Bool.and_eq_true] at ok
    refine .inr ⟨p, k, [(w, b)], rfl, h, unK_at ok.1, fun y hy => ?_, ?_⟩
    · rw [List.mem_singleton.mp hy]
      exact ⟨f, ok.2, Nat.lt_succ_self _⟩
    · show 1 + (b.size + 0) = b.size + 1
      omega
  | @bi p k w z b c h f g =>
    simp only [Fm.ok, Bool.and_eq_true] at ok
    refine .inr ⟨p, k, [(w, b), (z, c)], rfl, h, biK_at ok.1, fun y hy => ?_, ?_⟩
    · simp only [List.mem_cons, List.not_mem_nil, or_false] at hy
      rcases hy with rfl | rfl
      · exact ⟨f, ok.2.2.1, by show b.dep < max b.dep c.dep + 1; omega⟩
      · exact ⟨g, ok.2.2.2, by show c.dep < max b.dep c.dep + 1; omega⟩
    · show 1 + (b.size + (c.size + 0)) = b.size + c.size + 1
      omega
/-- a form stands at v, at most d deep -/
def FkAt (H : Hp) (v : V) (a : Fm) (d : Nat) : Prop := FmAt H v a ∧ a.ok = true ∧ a.dep ≤ d
theorem FkAt.same {H H' : Hp} {v : V} {a : Fm} {d : Nat} (h : FkAt H v a d) (s : Same H H') : FkAt H' v a d := ⟨h.1.same s, h.2⟩
theorem FkAt.tps {H H' : Hp} {v : V} {a : Fm} {d : Nat} (h : FkAt H v a d) (s : Tps H H') : FkAt H' v a d := ⟨h.1.tps s, h.2⟩
theorem cut_tail (x : V) (xs : List V) : cutV (x :: xs) (some 1) none = xs := by
  simp [cutV, HT.sIx]
theorem nowhole (x : V) (xs : List V) : ¬ (HT.sIx (x :: xs).length 0 (some 1) = 0 ∧ HT.sIx (x :: xs).length (x :: xs).length none = (x :: xs).length) := by
  simp [HT.sIx]
theorem sum_take {ks : List (V × Fm)} {i : Nat} {y : V × Fm} (h : ks[i]? = some y) : sumS (ks.take (i + 1)) = sumS (ks.take i) + y.2.size := by
  rw [List.take_succ, h]
  simp [sumS]
theorem sum_take_le (ks : List (V × Fm)) (i : Nat) : sumS (ks.take i) ≤ sumS ks := by
  have e := congrArg List.sum (List.take_append_drop i (ks.map fun y => y.2.size))
  rw [List.sum_append] at e
  unfold sumS
  rw [List.map_take]
  omega
end Op

namespace Op
open PySem PySem.Spec PyProof.Rows L2 SX OpC
local macro_rules | `(tactic| walk_at "go1") => `(tactic| first
  | ((with_reducible refine' g_var ?h ?_); (case h => rfl)) | with_reducible refine' g_c ?_ | with_reducible refine' g_op ?_ | with_reducible refine' g_un ?_ | with_reducible refine' g_if ?_ | with_reducible refine' g_test ?_ | with_reducible refine' g_B ?_ | with_reducible refine' g_bl ?_
  | with_reducible refine' g_not ?_ | with_reducible refine' g_and ?_ | with_reducible refine' g_or ?_ | with_reducible refine' g_andV ?_ | with_reducible refine' g_orV ?_ | with_reducible refine' g_notV ?_ | with_reducible refine' g_nil ?_ | with_reducible refine' g_cons ?_ | with_reducible refine' g_CB ?_ | with_reducible refine' g_ca ?_
  | with_reducible refine' g_seq ?_ | with_reducible refine' g_next ?_ | with_reducible refine' g_asg ?_ | with_reducible refine' g_name ?_ | with_reducible refine' g_ret ?_ | with_reducible refine' g_retN ?_ | with_reducible refine' g_drop ?_ | with_reducible refine' g_ifS ?_ | with_reducible refine' g_sub ?_
  | with_reducible refine' g_I0 ?_ | with_reducible refine' g_U ?_ | ((with_reducible refine' g_eq ?h ?_); (case h => rfl)) | ((with_reducible refine' g_ne ?h ?_); (case h => rfl))
  | ((with_reducible refine' g_lenL ?h ?_); (case h => first | assumption | exact SqL.of (by assumption) | exact SqL.of upd_same)) | ((with_reducible refine' g_lenT ?h ?_); (case h => first | assumption | exact SqT.of (by assumption) | exact SqT.of upd_same))
  | ((with_reducible refine' g_ixL ?h ?ha ?_); (case h => first | assumption | exact SqL.of (by assumption) | exact SqL.of upd_same); (case ha => rfl)) | ((with_reducible refine' g_ixT ?h ?ha ?_); (case h => first | assumption | exact SqT.of (by assumption) | exact SqT.of upd_same); (case ha => rfl))
  | ((with_reducible refine' g_I ?h ?_); (case h => first | decide | omega | (first | refine' ⟨?_, ?_, ?_⟩ | refine' ⟨?_, ?_⟩ | refine' Or.inl ⟨?_, ?_⟩) <;> omega | (refine' Or.inr ⟨?_, ?_⟩ <;> omega)))
  | ((with_reducible refine' g_setL ?h ?ha ?_); (case h => first | assumption | exact upd_same); (case ha => rfl))
  | with_reducible refine' g_lcR ?_
  | with_reducible refine' g_M1 ?_ | with_reducible refine' g_isS ?_ | with_reducible refine' g_tyS ?_ | ((with_reducible refine' g_tyL ?h ?_); (case h => first | assumption | exact upd_same))
  | ((with_reducible refine' g_cat ?h ?h2 ?hl ?_); (case h => first | assumption | exact upd_same); (case h2 => first | assumption | exact upd_same); (case hl => first | decide | (simp; omega)))
  | with_reducible refine' g_lcS ?_
  | with_reducible refine' g_starts ?_ | with_reducible refine' g_chain ?_
  | ((with_reducible refine' g_lenS ?h ?_); (case h => first | exact len_le (by assumption) | exact len_le (by omega))) | ((with_reducible refine' g_rstrip ?h ?_); (case h => first | exact len_le (by assumption) | exact len_le (by omega))) | ((with_reducible refine' g_slX ?h ?_); (case h => first | exact len_le (by assumption) | exact len_le (by omega)))
  | with_reducible refine' g_sl ?_ | with_reducible refine' g_nopart ?_ | with_reducible refine' g_part ?_ | with_reducible refine' g_isI ?_
  | with_reducible refine' g_tru ?_
  | with_reducible refine' iteT ?_ | with_reducible refine' iteF ?_ | with_reducible refine' iteNT ?_ | with_reducible refine' iteNF ?_
  | with_reducible refine' g_int ?_ | with_reducible refine' g_insg ?_ | with_reducible refine' g_ninsg ?_ | with_reducible refine' g_isN ?_ | with_reducible refine' g_notN ?_ | with_reducible refine' g_lst ?_ | with_reducible refine' g_tup ?_ | with_reducible refine' g_BM ?_ | with_reducible refine' g_BM0 ?_)
local macro_rules | `(tactic| walk_at "go") => `(tactic| repeat' walk_at "go1")
local macro_rules | `(tactic| walk_at "go2") => `(tactic| repeat' (first | walk_at "go1" | with_reducible refine' g_cm ?_ | with_reducible refine' g_mk ?_ | with_reducible refine' g_for ?_ | ((with_reducible refine' g_rcm ?h ?ha ?_); (case h => first | assumption | exact upd_same); (case ha => first | rfl | decide | simp [List.lookup]))))
/- macro2 -/
local macro_rules | `(tactic| walk_at "go3a") => `(tactic| first
  | walk_at "go1" | with_reducible refine' g_cm ?_ | with_reducible refine' g_mk ?_ | with_reducible refine' g_for ?_ | with_reducible refine' g_fld ?_ | with_reducible refine' g_lcT0 ?_
  | ((with_reducible refine' g_rcm ?h ?ha ?_); (case h => first | assumption | exact upd_same); (case ha => first | rfl | decide | simp [List.lookup]))
  | ((with_reducible refine' g_shape ?hc ?hn ?h ?_); (case hc => assumption); (case hn => assumption); (case h => first | assumption | exact upd_same | (rw [upd_ne (by assumption)]; assumption))))
local macro_rules | `(tactic| walk_at "go3") => `(tactic| repeat' walk_at "go3a")
local macro_rules | `(tactic| walk_at "go4") => `(tactic| repeat' (first
  | walk_at "go3a" | ((with_reducible refine' iteDT ?h ?_); (case h => first | rfl | decide +kernel)) | ((with_reducible refine' iteDF ?h ?_); (case h => decide +kernel))))
/-! ## of use in many laws -/
theorem us_xy {H : Hp} {p : Addr} (h : H p = some (.lst [.str (Str.ofString "x"), .str (Str.ofString "y")])) : UsAt H p [[120], [121]] := ⟨by
  rw [h, show Str.ofString "x" = S [120] by decide +kernel, show Str.ofString "y" = S [121] by decide +kernel]
  rfl, by decide +kernel, by decide⟩
theorem Same.but {H H1 H2 : Hp} {st : Addr} (s : Same H H1) (n : H st = none) (b : But st H1 H2) : Same H H2 := fun x o e => b x o (fun q => by rw [q, n] at e; cases e) (s x o e)
theorem Same.non {H H1 : Hp} {st : Addr} (s : Same H H1) (n : H1 st = none) : H st = none := by
  cases e : H st with
  | none => rfl
  | some o =>
    rw [s _ _ e] at n
    cases n
theorem StAt.mut {H : Hp} {st p : Addr} {n : Nat} {o : HO} (h : StAt H st n) (ne : st ≠ p) : StAt (upd H p o) st n := by
  obtain ⟨a, b, c, e, r⟩ := h
  exact ⟨a, b, c, by rw [upd_ne ne]; exact e, r⟩
theorem SqL.sm {K : PySem.W.Frag} {H H' : Hp} {a : Addr} {xs : List V} (h : SqL K H a xs) (s : Same H H') : SqL K H' a xs := by
  rcases h with (h | ⟨o, h⟩) | h
  · exact .inl (.inl (s _ _ h))
  · exact .inl (.inr ⟨o, s _ _ h⟩)
  · exact .inr h
theorem at_last {xs : List V} {v : V} : atI (xs ++ [v]) (-1) = some v := by
  have e : ixN (xs ++ [v]).length (-1) = some xs.length := by
    unfold ixN
    rw [List.length_append, List.length_singleton, if_neg (by decide), if_pos (by omega)]
    exact congrArg some (by omega)
  show (ixN (xs ++ [v]).length (-1)).bind _ = _
  rw [e]
  simp
def rForZ (K : PySem.W.Frag) (g : TG) (tb : TS) (D : Ends) (σ : L2.St) (vs : List V) (H : Hp) : Prop := ∃ a b xs ys, vs = [.ref a, .ref b] ∧ SqL K H a xs ∧ SqL K H b ys ∧ ∃ W : Nat → Nat → L2.St → Hp → Prop, (∃ m, W 0 m σ H) ∧ ∀ i m σ H, W i m σ H →
  ((Itz K a b).stop i H ∧ D.nx σ H) ∨ ((Itz K a b).go i H ∧ ∃ N : L2.St → Hp → Prop, (∀ σ' H', N σ' H' → ∃ m', m' < m ∧ W (i + 1) m' σ' H') ∧ ∀ x H', (Itz K a b).yld i H x H' → g x σ H' fun σ2 H2 => tb { D with nx := N, ct := N, bk := D.nx } σ2 H2)
theorem g_forZ {K : PySem.W.Frag} {ta : TA} {g : TG} {tb : TS} {D : Ends} {σ : L2.St} {H : Hp} (k : ta σ H fun vs H1 => rForZ K g tb D σ vs H1) : tFor (iZip K ta) g tb D σ H := k
/-- two lists of one length, side by side -/
theorem r_forZ {K : PySem.W.Frag} {g : TG} {tb : TS} {D : Ends} {σ : L2.St} {a b : Addr} {xs ys : List V} {H : Hp} (Pv : Nat → L2.St → Hp → Prop) (hxy : xs.length = ys.length) (h0 : Pv 0 σ H) (hl : ∀ i σ H, Pv i σ H → SqL K H a xs ∧ SqL K H b ys)
    (hs : ∀ i x y σ H T, xs[i]? = some x → ys[i]? = some y → Pv i σ H → H T = none → g (.ref T) σ (upd H T (.tup [x, y])) fun σ2 H2 => tb { D with nx := Pv (i + 1), ct := Pv (i + 1), bk := D.nx } σ2 H2) (hd : ∀ σ H, Pv xs.length σ H → D.nx σ H) : rForZ K g tb D σ [.ref a, .ref b] H := by
  refine ⟨a, b, xs, ys, rfl, (hl 0 _ _ h0).1, (hl 0 _ _ h0).2, fun i m σ H => m + i = xs.length ∧ Pv i σ H, ⟨xs.length, rfl, h0⟩, ?_⟩
  rintro i m σ H ⟨hm, p⟩
  obtain ⟨qa, qb⟩ := hl i σ H p
  cases m with
  | zero =>
    have e : i = xs.length := by omega
    subst e
    exact .inl ⟨⟨xs, ys, qa, qb, .inl (Nat.le_refl _)⟩, hd σ H p⟩
  | succ m =>
    have h1 : i < xs.length := by omega
    have h2 : i < ys.length := by omega
    refine .inr ⟨⟨xs, ys, _, _, qa, qb, List.getElem?_eq_getElem h1, List.getElem?_eq_getElem h2⟩, Pv (i + 1), fun σ' H' p' => ⟨m, Nat.lt_succ_self _, by omega, p'⟩, ?_⟩
    rintro v H' ⟨T, x, y, rfl, hT, rfl, hx, hy⟩
    exact hs i x y σ H T (hx xs qa) (hy ys qb) p hT
def FkAll (H : Hp) (xs : List V) : Prop := ∀ x ∈ xs, ∃ b, FkAt H x b 6
theorem FkAll.tps {H H' : Hp} {xs : List V} (h : FkAll H xs) (t : Tps H H') : FkAll H' xs := fun x hx => by
  obtain ⟨b, hb⟩ := h x hx
  exact ⟨b, hb.tps t⟩
theorem FkAll.add {H : Hp} {xs : List V} {v : V} {b : Fm} (h : FkAll H xs) (hb : FkAt H v b 6) : FkAll H (xs ++ [v]) := fun x hx => by
  rcases List.mem_append.mp hx with hx | hx
  · exact h x hx
  · rw [List.mem_singleton.mp hx]
    exact ⟨b, hb⟩
def rLcL (K : PySem.W.Frag) (j : Nat) (te : TE) (vs : List Nat) (σ : L2.St) (v : V) (H : Hp) (Q : VK) : Prop := ∃ a, v = .ref a ∧ (∃ xs, SqL K H a xs) ∧ ∀ D, H D = none → ∃ W : Nat → Nat → Hp → Prop, (∃ m, W 0 m (upd H D (.lst []))) ∧ ∀ i m H, W i m H →
  ((Itl K a).stop i H ∧ Q (.ref D) H) ∨ ((Itl K a).go i H ∧ ∃ Nx : Hp → Prop, (∀ H', Nx H' → ∃ m', m' < m ∧ W (i + 1) m' H') ∧ ∀ x H', (Itl K a).yld i H x H' → gName j x (wipe σ vs) H' fun σ2 H2 => wipe σ2 vs = wipe σ vs ∧ tYes σ2 H2 fun b H3 =>
    if b = true then te σ2 H3 fun y H4 => ∃ acc, H4 D = some (.lst acc) ∧ acc.length < sizeLine ∧ Nx (upd H4 D (.lst (acc ++ [y]))) else Nx H3)
theorem g_lcL0 {K : PySem.W.Frag} {σ : L2.St} {H : Hp} {Q : VK} {tl : TE} {te : TE} {j : Nat} {vs : List Nat} (k : tl σ H fun v H1 => rLcL K j te vs σ v H1 Q) : tLc (iList K tl) (gName j) tYes te vs σ H Q := k
theorem r_lcL {K : PySem.W.Frag} {σ : L2.St} {H : Hp} {Q : VK} {te : TE} {j : Nat} {a : Addr} {xs : List V} {vs : List Nat} (J : Addr → Nat → List V → Hp → Prop) (hT : SqL K H a xs) (hl : xs.length < 1000000) (hw : ∀ x, wipe ((wipe σ vs).set j (some x)) vs = wipe σ vs)
    (hst : ∀ D i acc H2, J D i acc H2 → SqL K H2 a xs) (h0 : ∀ D, H D = none → J D 0 [] (upd H D (.lst [])))
    (hs : ∀ (D : Addr) (i : Nat) (x : V) (acc : List V) (H2 : Hp), H D = none → xs[i]? = some x → H2 D = some (.lst acc) → acc.length = i → J D i acc H2 → te ((wipe σ vs).set j (some x)) H2 (lcPost J D i))
    (hd : ∀ D acc H2, H D = none → H2 D = some (.lst acc) → acc.length = xs.length → J D xs.length acc H2 → Q (.ref D) H2) : rLcL K j te vs σ (.ref a) H Q := by
  refine ⟨a, rfl, ⟨xs, hT⟩, fun D hD => ?_⟩
  refine lc_list (xs := xs) (fun i H2 => ∃ acc, H2 D = some (.lst acc) ∧ acc.length = i ∧ J D i acc H2) ⟨[], upd_same, rfl, h0 D hD⟩ (fun i H2 hi p => ?_) (fun i x H2 hi p => ?_) (fun H2 p => ?_)
  · obtain ⟨acc, h1, h2, h3⟩ := p
    exact hst D i acc H2 h3
  · obtain ⟨acc, h1, h2, h3⟩ := p
    exact ⟨hw _, hs D i x acc H2 hD hi h1 h2 h3⟩
  · obtain ⟨acc, h1, h2, h3⟩ := p
    exact hd D acc H2 hD h1 h2 h3
/-- equal data is not unequal -/
theorem g_neSelf {K : PySem.W.Frag} {H : Hp} {x y : V} {d : PyData} {Q : VK} (h1 : Dp K H x d) (h2 : Dp K H y d) (h : SeqAt.shaped d = true) (k : Q (.bl false) H) : rNeD K x y H Q :=
  ⟨d, d, h1, h2, h, h, by rw [SeqAt.eqv_refl _ (SeqAt.canLay_of_shaped h)]; exact k⟩
theorem bb_sh (x y : Bool) : SeqAt.shaped (.tuple [.bool x, .bool y]) = true := rfl
theorem bb_dp {K : PySem.W.Frag} {H : Hp} {p : Addr} {x y : Bool} (h : H p = some (.tup [.bl x, .bl y])) : Dp K H (.ref p) (.tuple [.bool x, .bool y]) := .tup (SqT.of h) (.cons (.bl _) (.cons (.bl _) .nil))
/-- the form at x, its letter at y -/
def Pairs (CL : Addr) (H : Hp) (fs acc : List V) : Prop := ∀ (n : Nat) (x y : V), fs[n]? = some x → acc[n]? = some y → ∃ b, FkAt H x b 6 ∧ LetAt CL H y b
/-- a form at x and its letter at y -/
def PairAt (CL : Addr) (H : Hp) (x y : V) (b : Fm) : Prop := FkAt H x b 6 ∧ LetAt CL H y b
theorem PairAt.same {CL : Addr} {H H' : Hp} {x y : V} {b : Fm} (h : PairAt CL H x y b) (s : Same H H') : PairAt CL H' x y b := ⟨h.1.same s, h.2.same s⟩
end Op

namespace Op
open PySem PySem.Spec PyProof.Rows L2 SX OpC
local macro_rules | `(tactic| walk_at "go1") => `(tactic| first
  | ((with_reducible refine' g_var ?h ?_); (case h => rfl)) | with_reducible refine' g_c ?_ | with_reducible refine' g_op ?_ | with_reducible refine' g_un ?_ | with_reducible refine' g_if ?_ | with_reducible refine' g_test ?_ | with_reducible refine' g_B ?_ | with_reducible refine' g_bl ?_
  | with_reducible refine' g_not ?_ | with_reducible refine' g_and ?_ | with_reducible refine' g_or ?_ | with_reducible refine' g_andV ?_ | with_reducible refine' g_orV ?_ | with_reducible refine' g_notV ?_ | with_reducible refine' g_nil ?_ | with_reducible refine' g_cons ?_ | with_reducible refine' g_CB ?_ | with_reducible refine' g_ca ?_
  | with_reducible refine' g_seq ?_ | with_reducible refine' g_next ?_ | with_reducible refine' g_asg ?_ | with_reducible refine' g_name ?_ | with_reducible refine' g_ret ?_ | with_reducible refine' g_retN ?_ | with_reducible refine' g_drop ?_ | with_reducible refine' g_ifS ?_ | with_reducible refine' g_sub ?_
  | with_reducible refine' g_I0 ?_ | with_reducible refine' g_U ?_ | ((with_reducible refine' g_eq ?h ?_); (case h => rfl)) | ((with_reducible refine' g_ne ?h ?_); (case h => rfl))
  | ((with_reducible refine' g_lenL ?h ?_); (case h => first | assumption | exact SqL.of (by assumption) | exact SqL.of upd_same)) | ((with_reducible refine' g_lenT ?h ?_); (case h => first | assumption | exact SqT.of (by assumption) | exact SqT.of upd_same))
  | ((with_reducible refine' g_ixL ?h ?ha ?_); (case h => first | assumption | exact SqL.of (by assumption) | exact SqL.of upd_same); (case ha => rfl)) | ((with_reducible refine' g_ixT ?h ?ha ?_); (case h => first | assumption | exact SqT.of (by assumption) | exact SqT.of upd_same); (case ha => rfl))
  | ((with_reducible refine' g_I ?h ?_); (case h => first | decide | omega | (first | refine' ⟨?_, ?_, ?_⟩ | refine' ⟨?_, ?_⟩ | refine' Or.inl ⟨?_, ?_⟩) <;> omega | (refine' Or.inr ⟨?_, ?_⟩ <;> omega)))
  | ((with_reducible refine' g_setL ?h ?ha ?_); (case h => first | assumption | exact upd_same); (case ha => rfl))
  | with_reducible refine' g_lcR ?_
  | with_reducible refine' g_M1 ?_ | with_reducible refine' g_isS ?_ | with_reducible refine' g_tyS ?_ | ((with_reducible refine' g_tyL ?h ?_); (case h => first | assumption | exact upd_same))
  | ((with_reducible refine' g_cat ?h ?h2 ?hl ?_); (case h => first | assumption | exact upd_same); (case h2 => first | assumption | exact upd_same); (case hl => first | decide | (simp; omega)))
  | with_reducible refine' g_lcS ?_
  | with_reducible refine' g_starts ?_ | with_reducible refine' g_chain ?_
  | ((with_reducible refine' g_lenS ?h ?_); (case h => first | exact len_le (by assumption) | exact len_le (by omega))) | ((with_reducible refine' g_rstrip ?h ?_); (case h => first | exact len_le (by assumption) | exact len_le (by omega))) | ((with_reducible refine' g_slX ?h ?_); (case h => first | exact len_le (by assumption) | exact len_le (by omega)))
  | with_reducible refine' g_sl ?_ | with_reducible refine' g_nopart ?_ | with_reducible refine' g_part ?_ | with_reducible refine' g_isI ?_
  | with_reducible refine' g_tru ?_
  | with_reducible refine' iteT ?_ | with_reducible refine' iteF ?_ | with_reducible refine' iteNT ?_ | with_reducible refine' iteNF ?_
  | with_reducible refine' g_int ?_ | with_reducible refine' g_insg ?_ | with_reducible refine' g_ninsg ?_ | with_reducible refine' g_isN ?_ | with_reducible refine' g_notN ?_ | with_reducible refine' g_lst ?_ | with_reducible refine' g_tup ?_ | with_reducible refine' g_BM ?_ | with_reducible refine' g_BM0 ?_)
local macro_rules | `(tactic| walk_at "go") => `(tactic| repeat' walk_at "go1")
local macro_rules | `(tactic| walk_at "go2") => `(tactic| repeat' (first | walk_at "go1" | with_reducible refine' g_cm ?_ | with_reducible refine' g_mk ?_ | with_reducible refine' g_for ?_ | ((with_reducible refine' g_rcm ?h ?ha ?_); (case h => first | assumption | exact upd_same); (case ha => first | rfl | decide | simp [List.lookup]))))
/- macro2 -/
local macro_rules | `(tactic| walk_at "go3a") => `(tactic| first
  | walk_at "go1" | with_reducible refine' g_cm ?_ | with_reducible refine' g_mk ?_ | with_reducible refine' g_for ?_ | with_reducible refine' g_fld ?_ | with_reducible refine' g_lcT0 ?_
  | ((with_reducible refine' g_rcm ?h ?ha ?_); (case h => first | assumption | exact upd_same); (case ha => first | rfl | decide | simp [List.lookup]))
  | ((with_reducible refine' g_shape ?hc ?hn ?h ?_); (case hc => assumption); (case hn => assumption); (case h => first | assumption | exact upd_same | (rw [upd_ne (by assumption)]; assumption))))
local macro_rules | `(tactic| walk_at "go3") => `(tactic| repeat' walk_at "go3a")
local macro_rules | `(tactic| walk_at "go4") => `(tactic| repeat' (first
  | walk_at "go3a" | ((with_reducible refine' iteDT ?h ?_); (case h => first | rfl | decide +kernel)) | ((with_reducible refine' iteDF ?h ?_); (case h => decide +kernel))))
/-! ## a good form has no fault -/
def isAtomB (k : Str) (t : List Nat) : Bool := if k = kWord then isWordB t else if k = kName then isNameB t else isUnkB t
theorem atom_okB {k : Str} {t : List Nat} (h : (Fm.atm k t).ok = true) : isAtomB k t = true := by
  simp only [Fm.ok, Bool.or_eq_true, Bool.and_eq_true, beq_iff_eq] at h
  unfold isAtomB
  rcases h with ⟨rfl, h⟩ | ⟨rfl, h⟩ | ⟨rfl, h⟩
  · rw [if_pos rfl]; exact h
  · rw [if_neg (by decide +kernel), if_pos rfl]; exact h
  · rw [if_neg (by decide +kernel), if_neg (by decide +kernel)]; exact h
def spIsAtom : Sp := fun vs H Q _ => ∃ (k : Str) (t : List Nat), vs = [.str k, .str (S t)] ∧ t.length < 1000000 ∧ ∀ H', Same H H' → Q (.bl (isAtomB k t)) H'
/-- the dict of how many items the form of each kind has -/
structure Sz (K : PySem.W.Frag) (w : World) (mg : Str → Option Value) : Prop where
  ex : ∃ (a : Addr) (es : Array DictEntry) (n : Nat), mg "SIZES" = some (.ref a) ∧ KDict K w a es n ∧ (∀ k, atK k = true → ∃ t, PySem.W.nsIn K a k = some (some (.int 2 t))) ∧
    (∀ k, unK k = true → ∃ t, PySem.W.nsIn K a k = some (some (.int 2 t))) ∧ (∀ k, biK k = true → ∃ t, PySem.W.nsIn K a k = some (some (.int 3 t)))
/-- any good form stands alone -/
def spStands : Sp := fun vs H Q _ => ∃ (v : V) (a : Fm), vs = [v] ∧ FmAt H v a ∧ a.ok = true ∧ ∀ H', Same H H' → Q (.bl true) H'
/-- .. and has no fault -/
def spFault : Sp := fun vs H Q _ => ∃ (v : V) (a : Fm), vs = [v] ∧ FmAt H v a ∧ a.ok = true ∧ a.size ≤ 10000 ∧ ∀ H', Same H H' → Q .non H'
section
variable {P : Program} {w : World} {K : PySem.W.Frag} {mg : Str → Option Value} {base : Heap}
theorem ca_is_atom (T : Bl K mg) (D : Df K mg "is_atom" s_is_atom p_is_atom) (c_is_word : Ca P w K mg base 2 "is_word" (spTextB isWordB)) (c_is_name : Ca P w K mg base 2 "is_name" (spTextB isNameB)) (c_is_unknown : Ca P w K mg base 2 "is_unknown" (spTextB isUnkB)) :
    Ca P w K mg base 3 "is_atom" spIsAtom := by
  refine ca_n D sc_is_atom (fun vs H Q E h => ?_) (fun f cdv A outer s H vs Q E hr h => ?_)
  · obtain ⟨k, t, rfl, _⟩ := h
    rfl
  · obtain ⟨k, t, rfl, hl, q⟩ := h
    refine ⟨_, (pss_cons (ps_if (pt_not (pt_val (pe_callB call_isi (by rfl) T.b_isinstance (by decide +kernel) (pa_cons (pv 1) (pa_cons (pe_bltn (v := .ty "str") (u := .type "str") (by rfl) T.b_str (by decide +kernel) rfl) pa_nil)))))
  (pss_one (ps_ret pe_bl))
  pss_nil)
  (pss_cons (ps_if (pt_cmpR op_eq (pv 0) pe_str (nomark _))
  (pss_one (ps_ret (pe_ca c_is_word hr (by decide) (by rfl) (pa_cons (pv 1) pa_nil))))
  pss_nil)
  (pss_cons (ps_if (pt_cmpR op_eq (pv 0) pe_str (nomark _))
  (pss_one (ps_ret (pe_ca c_is_name hr (by decide) (by rfl) (pa_cons (pv 1) pa_nil))))
  pss_nil)
  (pss_one (ps_ret (pe_ca c_is_unknown hr (by decide) (by rfl) (pa_cons (pv 1) pa_nil))))))), ?_⟩
    walk_at "go3"
    refine g_isi (.ty _) (.base (.str _)) (kit_ty (b := "str") (r := true) (by decide +kernel)) ?_
    walk_at "go3"
    refine iteD (fun e => ?_) (fun ne => ?_)
    · have e' : k = kWord := V.str.inj e
      walk_at "go3"
      refine ⟨t, rfl, hl, fun H1 s1 => ?_⟩
      have z : isAtomB k t = isWordB t := if_pos e'
      rw [← z]
      exact q H1 s1
    · have ne' : ¬ k = kWord := fun z => ne (by rw [z])
      walk_at "go3"
      refine iteD (fun e => ?_) (fun ne2 => ?_)
      · have e' : k = kName := V.str.inj e
        walk_at "go3"
        refine ⟨t, rfl, hl, fun H1 s1 => ?_⟩
        have z : isAtomB k t = isNameB t := (if_neg ne').trans (if_pos e')
        rw [← z]
        exact q H1 s1
      · have ne2' : ¬ k = kName := fun z => ne2 (by rw [z])
        walk_at "go3"
        refine ⟨t, rfl, hl, fun H1 s1 => ?_⟩
        have z : isAtomB k t = isUnkB t := (if_neg ne').trans (if_neg ne2')
        rw [← z]
        exact q H1 s1
theorem ca_stands (T : Bl K mg) (SZ : Sz K w mg) (D : Df K mg "stands_alone" s_stands_alone p_stands_alone) (c_is_atom : Ca P w K mg base 3 "is_atom" spIsAtom) : Ca P w K mg base 4 "stands_alone" spStands := by
  obtain ⟨aA, hA, tA⟩ := T.t_ATOMS
  have c_ATOMS : ∃ u, mg "ATOMS" = some u ∧ RelV (.ref aA) u := ⟨_, hA, rfl⟩
  obtain ⟨aS, es, nS, hS, KD, z1, z2, z3⟩ := SZ.ex
  have c_SIZES : ∃ u, mg "SIZES" = some u ∧ RelV (.ref aS) u := ⟨_, hS, rfl⟩
  refine ca_n D sc_stands_alone (fun vs H Q E h => ?_) (fun f cdv A outer s H vs Q E hr h => ?_)
  · obtain ⟨v, a, rfl, _⟩ := h
    rfl
  · obtain ⟨v, a, rfl, fa, ok, q⟩ := h
    refine ⟨_, (pss_cons (ps_if (PW.pt (pw_or (pt_not (pt_val (pe_callB call_isi (by rfl) T.b_isinstance (by decide +kernel) (pa_cons (pv 0) (pa_cons (pe_bltn (v := .ty "tuple") (u := .type "tuple") (by rfl) T.b_tuple (by decide +kernel) rfl) pa_nil))))) (pw_or1 (pt_cmpR op_eq (pe_callB cq_len (by rfl) T.b_len (by decide +kernel) (pa_cons (pv 0) pa_nil)) pe_int (nomark _)))))
  (pss_one (ps_ret pe_bl))
  pss_nil)
  (pss_cons (ps_set (i := 1) sc_stands_alone.nd rfl (Or.inl rfl) (pe_ix ix_tup (pv 0) pe_int (fun _ _ => rfl)))
  (pss_cons (ps_if (PW.pt (pw_or (pt_not (pt_val (pe_callB call_isi (by rfl) T.b_isinstance (by decide +kernel) (pa_cons (pv 1) (pa_cons (pe_bltn (v := .ty "str") (u := .type "str") (by rfl) T.b_str (by decide +kernel) rfl) pa_nil))))) (pw_or (pt_cmpR (op_notIn_kd KD) (pv 1) (C8.pe_gc (by rfl) c_SIZES) rfl) (pw_or1 (pt_cmpR op_ne (pe_callB cq_len (by rfl) T.b_len (by decide +kernel) (pa_cons (pv 0) pa_nil)) (pe_ix ix_kdict (C8.pe_gc (by rfl) c_SIZES) (pv 1) (fun _ _ => rfl)) (nomark _))))))
  (pss_one (ps_ret pe_bl))
  pss_nil)
  (pss_one (ps_ret (pe_or (pe_cmpR op_notIn_seq (pv 1) (C8.pe_gc (by rfl) c_ATOMS) rfl) (pe_one (pe_ca c_is_atom hr (by decide) (by rfl) (pa_cons (pv 1) (pa_cons (pe_ix ix_tup (pv 0) pe_int (fun _ _ => rfl)) pa_nil)))))))))), ?_⟩
    cases fa with
    | @atm p k t ep =>
      have hk : atK k = true := Fm.ok_kin ok
      obtain ⟨tk, ek⟩ := z1 k hk
      walk_at "go3"
      refine g_isi (.ty _) (.base (.tup ep)) (kit_ty (b := "tuple") (r := true) (by decide +kernel)) ?_
      walk_at "go3"
      refine iteD (fun h => absurd (V.int.inj h) (by simp)) (fun _ => ?_)
      walk_at "go3"
      refine g_isi (.ty _) (.base (.str _)) (kit_ty (b := "str") (r := true) (by decide +kernel)) ?_
      walk_at "go3"
      refine ⟨k, _, rfl, rfl, ek, ?_⟩
      refine ⟨_, rfl, ?_⟩
      refine iteF ?_
      walk_at "go3"
      refine ⟨aS, k, .int 2, rfl, rfl, ⟨es, nS, _, KD.at_, KD.lit, ek, ⟨tk, rfl⟩⟩, ?_⟩
      walk_at "go3"
      refine iteND (fun h => absurd rfl h) (fun _ => ?_)
      walk_at "go3"
      refine g_ninT (tA _) rfl rfl ?_
      rw [inV_atoms, hk]
      walk_at "go3"
      have hs : t.length ≤ 8 := Fm.ok_small ok
      refine ⟨k, t, rfl, by omega, fun H1 s1 => ?_⟩
      rw [atom_okB ok]
      exact q H1 s1
    | @un p k v1 b1 ep hb1 =>
      have hk : unK k = true := by
        simp only [Fm.ok, Bool.and_eq_true] at ok
        exact ok.1
      obtain ⟨tk, ek⟩ := z2 k hk
      walk_at "go3"
      refine g_isi (.ty _) (.base (.tup ep)) (kit_ty (b := "tuple") (r := true) (by decide +kernel)) ?_
      walk_at "go3"
      refine iteD (fun h => absurd (V.int.inj h) (by simp)) (fun _ => ?_)
      walk_at "go3"
      refine g_isi (.ty _) (.base (.str _)) (kit_ty (b := "str") (r := true) (by decide +kernel)) ?_
      walk_at "go3"
      refine ⟨k, _, rfl, rfl, ek, ?_⟩
      refine ⟨_, rfl, ?_⟩
      refine iteF ?_
      walk_at "go3"
      refine ⟨aS, k, .int 2, rfl, rfl, ⟨es, nS, _, KD.at_, KD.lit, ek, ⟨tk, rfl⟩⟩, ?_⟩
      walk_at "go3"
      refine iteND (fun h => absurd rfl h) (fun _ => ?_)
      walk_at "go3"
      refine g_ninT (tA _) rfl rfl ?_
      rw [inV_atoms, unK_at hk]
      walk_at "go3"
      exact q H (Same.refl _)
    | @bi p k v1 v2 b1 b2 ep hb1 hb2 =>
      have hk : biK k = true := by
        simp only [Fm.ok, Bool.and_eq_true] at ok
        exact ok.1
      obtain ⟨tk, ek⟩ := z3 k hk
      walk_at "go3"
      refine g_isi (.ty _) (.base (.tup ep)) (kit_ty (b := "tuple") (r := true) (by decide +kernel)) ?_
      walk_at "go3"
      refine iteD (fun h => absurd (V.int.inj h) (by simp)) (fun _ => ?_)
      walk_at "go3"
      refine g_isi (.ty _) (.base (.str _)) (kit_ty (b := "str") (r := true) (by decide +kernel)) ?_
      walk_at "go3"
      refine ⟨k, _, rfl, rfl, ek, ?_⟩
      refine ⟨_, rfl, ?_⟩
      refine iteF ?_
      walk_at "go3"
      refine ⟨aS, k, .int 3, rfl, rfl, ⟨es, nS, _, KD.at_, KD.lit, ek, ⟨tk, rfl⟩⟩, ?_⟩
      walk_at "go3"
      refine iteND (fun h => absurd rfl h) (fun _ => ?_)
      walk_at "go3"
      refine g_ninT (tA _) rfl rfl ?_
      rw [inV_atoms, biK_at hk]
      walk_at "go3"
      exact q H (Same.refl _)
end
/-! what stands on the stack: a part, and whether it is looked at behind its inner ones -/
def EnAt (H : Hp) (d : Nat) (v : V) (y : Fm × Bool) : Prop := ∃ (p q : Addr) (xs : List V) (u : V), v = .ref p ∧ H p = some (.tup [.ref q, u, .bl y.2]) ∧ H q = some (.tup xs) ∧ xs.length + y.1.dep ≤ d ∧ FmAt H u y.1 ∧ y.1.ok = true ∧ (y.2 = true → ∃ a b, y.1 = .bi kLock a b)
theorem EnAt.tps {H H' : Hp} {d : Nat} {v : V} {y : Fm × Bool} (t : Tps H H') (h : EnAt H d v y) : EnAt H' d v y := by
  obtain ⟨p, q, xs, u, rfl, e1, e2, hl, f, ok, hb⟩ := h
  exact ⟨p, q, xs, u, rfl, t _ _ e1, t _ _ e2, hl, f.tps t, ok, hb⟩
def enW (y : Fm × Bool) : Nat := if y.2 = true then 1 else 2 * y.1.size
theorem enW_pos (y : Fm × Bool) : 0 < enW y := by
  unfold enW
  have := Fm.size_pos y.1
  split <;> omega
def enS (st : List (V × (Fm × Bool))) : Nat := (st.map fun x => enW x.2).sum
theorem enS_len : ∀ r : List (V × (Fm × Bool)), r.length ≤ enS r
  | [] => Nat.le_refl _
  | x :: r => by
    have ih := enS_len r
    have h := enW_pos x.2
    show r.length + 1 ≤ enW x.2 + enS r
    omega
def FfW (H0 : Hp) (v : V) (d M : Nat) (pl : Addr) (m : Nat) : L2.St → Hp → Prop := fun σ H => ∃ (st : List (V × (Fm × Bool))) (x2 x3 x4 x5 : Option V), σ = [some v, some (.ref pl), x2, x3, x4, x5] ∧ Same H0 H ∧
  H pl = some (.lst (st.map (·.1)).reverse) ∧ (∀ y ∈ st, EnAt H d y.1 y.2) ∧ m = enS st ∧ m ≤ M
def rFor3 (g : TG) (tb : TS) (D : Ends) (σ : L2.St) (vs : List V) (H : Hp) : Prop := ∃ (i j c : Int) (n : Nat), vs = [.int i, .int j, .int c] ∧ RgC i j c n ∧ ∃ W : Nat → Nat → L2.St → Hp → Prop, (∃ m, W 0 m σ H) ∧ ∀ k m σ H, W k m σ H →
  ((Itc i c n).stop k H ∧ D.nx σ H) ∨ ((Itc i c n).go k H ∧ ∃ N : L2.St → Hp → Prop, (∀ σ' H', N σ' H' → ∃ m', m' < m ∧ W (k + 1) m' σ' H') ∧ ∀ x H', (Itc i c n).yld k H x H' → g x σ H' fun σ2 H2 => tb { D with nx := N, ct := N, bk := D.nx } σ2 H2)
theorem g_for3 {tl : TA} {g : TG} {tb : TS} {D : Ends} {σ : L2.St} {H : Hp} (k : tl σ H fun vs H1 => rFor3 g tb D σ vs H1) : tFor (iRng3 tl) g tb D σ H := k
/-- for j in range(m, 0, -1) -/
theorem r_for3 {j : Nat} {tb : TS} {D : Ends} {σ : L2.St} {m : Nat} {H : Hp} (hm : m < 1000000) (Pv : Nat → L2.St → Hp → Prop) (h0 : Pv 0 σ H)
    (hs : ∀ (i : Nat) σ' H', i < m → Pv i σ' H' → tb { D with nx := Pv (i + 1), ct := Pv (i + 1), bk := D.nx } (σ'.set j (some (.int ((m - i : Nat) : Int)))) H') (hd : ∀ σ' H', Pv m σ' H' → D.nx σ' H') : rFor3 (gName j) tb D σ [.int (m : Int), .int 0, .int (-1)] H :=
  ⟨m, 0, -1, m, rfl, by
    have h := RgC.neg (i := (m : Int)) (j := 0) (by omega) (by omega) (by omega) (by omega)
    rw [show ((m : Int) - 0).toNat = m by omega] at h
    exact h, for_rangeC (lo := (m : Int)) (c := -1) (n := m) Pv h0 (fun i σ' H' hi p => by
    have r := hs i σ' H' hi p
    rw [show ((m : Int) + (i : Nat) * -1) = ((m - i : Nat) : Int) by omega]
    exact r) hd⟩
theorem sumS_len : ∀ ks : List (V × Fm), ks.length ≤ sumS ks
  | [] => Nat.le_refl _
  | y :: r => by
    have ih := sumS_len r
    have := Fm.size_pos y.2
    show r.length + 1 ≤ y.2.size + sumS r
    omega
theorem sum_drop {ks : List (V × Fm)} {i j : Nat} {y : V × Fm} (h : ks[i]? = some y) (e : j = i + 1) : sumS (ks.drop i) = y.2.size + sumS (ks.drop j) := by
  obtain ⟨hl, rfl⟩ := List.getElem?_eq_some_iff.mp h
  rw [e, List.drop_eq_getElem_cons hl]
  rfl
theorem sumS_drop (ks : List (V × Fm)) (i : Nat) : sumS (ks.drop i) ≤ sumS ks := by
  have e := congrArg List.sum (List.take_append_drop i (ks.map fun y => y.2.size))
  rw [List.sum_append] at e
  unfold sumS
  rw [List.map_drop]
  omega
theorem Fm.dep_size : ∀ a : Fm, a.dep ≤ a.size
  | .atm _ _ => Nat.zero_le _
  | .un _ a => by
    have := Fm.dep_size a
    show a.dep + 1 ≤ a.size + 1
    omega
  | .bi _ a b => by
    have := Fm.dep_size a
    have := Fm.dep_size b
    show max a.dep b.dep + 1 ≤ a.size + b.size + 1
    omega
theorem lock_of {H : Hp} {p : Addr} {b : Fm} {ks : List (V × Fm)} (h : H p = some (.tup (.str kLock :: ks.map (·.1)))) (f : FmAt H (.ref p) b) (ok : b.ok = true) : ∃ x y, b = .bi kLock x y := by
  cases f with
  | @atm _ k t e =>
    rw [h] at e
    injection e with e
    injection e with e
    injection e with e1 e2
    have hk : atK k = true := Fm.ok_kin ok
    rw [← V.str.inj e1] at hk
    exact absurd hk (by decide +kernel)
  | @un _ k v1 b1 e g =>
    rw [h] at e
    injection e with e
    injection e with e
    injection e with e1 e2
    simp only [Fm.ok, Bool.and_eq_true] at ok
    have hk := ok.1
    rw [← V.str.inj e1] at hk
    exact absurd hk (by decide +kernel)
  | @bi _ k v1 v2 b1 b2 e g1 g2 =>
    rw [h] at e
    injection e with e
    injection e with e
    injection e with e1 e2
    rw [← V.str.inj e1]
    exact ⟨b1, b2, rfl⟩
theorem g_catA {K : PySem.W.Frag} {H : Hp} {Q : VK} {a b : Addr} {xs ys : List V} (ha : H a = some (.tup xs)) (hb : H b = some (.tup ys)) (hy : ys ≠ []) (hl : xs.length + ys.length ≤ sizeLine) (k : ∀ p zs H', Same H H' → H' p = some (.tup zs) → zs.length = xs.length + ys.length → Q (.ref p) H') : rCatA K (.ref a) (.ref b) H Q :=
  ⟨a, b, xs, ys, rfl, rfl, SqT.of ha, SqT.of hb, hl, fun e => k b ys H (Same.refl _) hb (by rw [e]; simp), fun _ e => absurd e hy, fun _ _ p hp => k p (xs ++ ys) _ (Same.upd hp) upd_same (List.length_append)⟩
theorem ix_kid {k : Str} {ks : List (V × Fm)} {i : Nat} {y : V × Fm} (h : ks[i]? = some y) : atI (V.str k :: ks.map (·.1)) ((i + 1 : Nat) : Int) = some y.1 := by
  refine at_of (j := i + 1) rfl ?_
  rw [List.getElem?_cons_succ, List.getElem?_map, h]
  rfl
section
variable {P : Program} {w : World} {K : PySem.W.Frag} {mg : Str → Option Value} {base : Heap}
theorem ca_fault (T : Bl K mg) (D : Df K mg "first_fault" s_first_fault p_first_fault) (c_stands_alone : Ca P w K mg base 4 "stands_alone" spStands) : Ca P w K mg base 5 "first_fault" spFault := by
  obtain ⟨aA, hA, tA⟩ := T.t_ATOMS
  have c_ATOMS : ∃ u, mg "ATOMS" = some u ∧ RelV (.ref aA) u := ⟨_, hA, rfl⟩
  obtain ⟨aK, hK, tK⟩ := T.t_KEYS
  have c_KEYS : ∃ u, mg "KEYS" = some u ∧ RelV (.ref aK) u := ⟨_, hK, rfl⟩
  refine ca_n D sc_first_fault (fun vs H Q E h => ?_) (fun f cdv A outer s H vs Q E hr h => ?_)
  · obtain ⟨v, a, rfl, _⟩ := h
    rfl
  · obtain ⟨v, a, rfl, fa, ok, hz, q⟩ := h
    refine ⟨_, (pss_cons (ps_set (i := 1) sc_first_fault.nd rfl (Or.inl rfl) (pe_lst (pa_cons (pe_tup (pa_cons (pe_tup pa_nil) (pa_cons (pv 0) (pa_cons pe_bl pa_nil)))) pa_nil)))
  (pss_cons (ps_while PassesOwn.never (pq_truth (pv 1) (by intro _; rfl))
  (pss_cons (ps_asg (pe_bm0 PySem.F.plainAttrs_list PySem.F.slot_list_pop PySem.F.type_list_pop mt_pop (pv 1)) (pg_tup rfl (pgs_cons (pg_name (i := 2) sc_first_fault.nd rfl (Or.inl rfl)) (pgs_cons (pg_name (i := 3) sc_first_fault.nd rfl (Or.inl rfl)) (pgs_cons (pg_name (i := 4) sc_first_fault.nd rfl (Or.inl rfl)) pgs_nil)))))
  (pss_cons (ps_if (pt_val (pv 4))
  (pss_cons (ps_if (pt_cmpR op_notIn_seq (pe_ix ix_tup (pe_ix ix_tup (pv 3) pe_int (fun _ _ => rfl)) pe_int (fun _ _ => rfl)) (C8.pe_gc (by rfl) c_KEYS) rfl)
  (pss_one (ps_ret (pv 2)))
  pss_nil)
  (pss_one ps_continue))
  pss_nil)
  (pss_cons (ps_if (pt_not (pt_val (pe_ca c_stands_alone hr (by decide) (by rfl) (pa_cons (pv 3) pa_nil))))
  (pss_one (ps_ret (pv 2)))
  pss_nil)
  (pss_cons (ps_if (pt_cmpR op_in_seq (pe_ix ix_tup (pv 3) pe_int (fun _ _ => rfl)) (C8.pe_gc (by rfl) c_ATOMS) rfl)
  (pss_one ps_continue)
  pss_nil)
  (C8.pss_cut (ps_if (pt_cmpR op_eq (pe_ix ix_tup (pv 3) pe_int (fun _ _ => rfl)) pe_str (nomark _))
  (pss_one (ps_expr (pe_bm PySem.F.plainAttrs_list PySem.F.slot_list_append PySem.F.type_list_append mt_append (pv 1) (pa_cons (pe_tup (pa_cons (pv 2) (pa_cons (pv 3) (pa_cons pe_bl pa_nil)))) pa_nil))))
  pss_nil)
  (pss_one (ps_for PassesOwn.never rfl (pi_range3 rfl T.b_range (pa_cons (pe_op op_sub (pe_callB cq_len (by rfl) T.b_len (by decide +kernel) (pa_cons (pv 3) pa_nil)) pe_int) (pa_cons pe_int (pa_cons (pe_un un_neg pe_int) pa_nil)))) (pg_name (i := 5) sc_first_fault.nd rfl (Or.inl rfl))
  (pss_one (ps_expr (pe_bm PySem.F.plainAttrs_list PySem.F.slot_list_append PySem.F.type_list_append mt_append (pv 1) (pa_cons (pe_tup (pa_cons (pe_op op_catA (pv 2) (pe_tup (pa_cons (pv 5) pa_nil))) (pa_cons (pe_ix ix_tup (pv 3) (pv 5) (fun _ _ => rfl)) (pa_cons pe_bl pa_nil)))) pa_nil))))))))))))
  (pss_one (ps_ret pe_non)))), ?_⟩
    walk_at "go3"
    refine ⟨by show 0 ≤ sizeLine; decide, fun p0 hp0 => ?_⟩
    walk_at "go3"
    refine ⟨by show 3 ≤ sizeLine; decide, fun p1 hp1 => ?_⟩
    walk_at "go3"
    refine ⟨by show 1 ≤ sizeLine; decide, fun pl hpl => ?_⟩
    have s1 : Same H (upd H p0 (.tup [])) := Same.upd hp0
    have e0 : upd H p0 (.tup []) p0 = some (.tup []) := upd_same
    generalize upd H p0 (.tup []) = H1 at s1 e0 hp1 hpl ⊢
    have s2 : Same H1 (upd H1 p1 (.tup [.ref p0, v, .bl false])) := Same.upd hp1
    have e1 : upd H1 p1 (.tup [.ref p0, v, .bl false]) p1 = some (.tup [.ref p0, v, .bl false]) := upd_same
    generalize upd H1 p1 (.tup [.ref p0, v, .bl false]) = H2 at s2 e1 hpl ⊢
    have hplH : H pl = none := Same.non (s1.trans s2) hpl
    have s3 : Same H2 (upd H2 pl (.lst [.ref p1])) := Same.upd hpl
    walk_at "go3"
    refine g_while (FfW H v a.dep (2 * a.size) pl) (2 * a.size) ⟨[(.ref p1, (a, false))], none, none, none, none, rfl, (s1.trans s2).trans s3, upd_same, fun y hy => ?_, by simp [enS, enW], Nat.le_refl _⟩ ?_
    · rw [List.mem_singleton.mp hy]
      exact ⟨p1, p0, [], v, rfl, s3 _ _ e1, s3 _ _ (s2 _ _ e0), by show 0 + a.dep ≤ a.dep; omega, ((fa.same s1).same s2).same s3, ok, fun z => nomatch z⟩
    clear s3 e1 e0 s2 s1 hpl hp1
    rintro m σ' H3 ⟨st, x2, x3, x4, x5, rfl, sH, ef, hst, hm, hM⟩
    walk_at "go3"
    refine g_truL (SqL.of ef) ?_
    cases st with
    | nil =>
      refine iteF ?_
      walk_at "go3"
      exact q _ sH
    | cons hd r =>
      obtain ⟨u, y⟩ := hd
      obtain ⟨p, q', xs, u1, rfl, e1, e2, hl, f1, ok1, hb1⟩ := hst (u, y) (List.mem_cons_self ..)
      have hr3 : ∀ y ∈ r, EnAt H3 a.dep y.1 y.2 := fun y hy => hst y (List.mem_cons_of_mem _ hy)
      have hmr : enW y + enS r = m := hm.symm
      have hlr := enS_len r
      have eT : (!(List.map (fun x => x.fst) ((V.ref p, y) :: r)).reverse.isEmpty) = true := by simp
      rw [eT]
      refine iteT ⟨_, fun _ _ n => n, ?_⟩
      walk_at "go3"
      refine g_pop (xs := (r.map (·.1)).reverse) (by rw [ef, List.map_cons, List.reverse_cons]) ?_
      have t1 : Tps H3 (upd H3 pl (.lst (r.map (·.1)).reverse)) := Tps.lst ef
      have e1' := t1 _ _ e1
      have e2' := t1 _ _ e2
      have f1' := f1.tps t1
      have hr4 : ∀ y ∈ r, EnAt (upd H3 pl (.lst (r.map (·.1)).reverse)) a.dep y.1 y.2 := fun y hy => (hr3 y hy).tps t1
      have sH4 : Same H (upd H3 pl (.lst (r.map (·.1)).reverse)) := Same.mut sH hplH
      have ef4 : upd H3 pl (.lst (r.map (·.1)).reverse) pl = some (.lst (r.map (·.1)).reverse) := upd_same
      generalize upd H3 pl (.lst (r.map (·.1)).reverse) = H4 at e1' e2' f1' hr4 sH4 ef4 ⊢
      clear t1 hr3 f1 e1 e2 ef sH hst eT hm
      refine ⟨_, _, rfl, SqT.of e1', rfl, _, _, rfl, ?_⟩
      refine g_name ?_
      refine ⟨_, _, rfl, ?_⟩
      refine g_name ?_
      refine ⟨_, _, rfl, ?_⟩
      refine g_name ?_
      refine ⟨rfl, ?_⟩
      obtain ⟨b, fl⟩ := y
      cases fl with
      | true =>
        obtain ⟨b1, b2, hb⟩ := hb1 rfl
        have hb' : b = .bi kLock b1 b2 := hb
        subst hb'
        have f1'' : FmAt H4 u1 (.bi kLock b1 b2) := f1'
        cases f1'' with
        | @bi pp _ v1 v2 _ _ ep fb1 fb2 =>
          have okk : b2.isKey = true ∧ b2.ok = true := by
            have z : (Fm.bi kLock b1 b2).ok = true := ok1
            simp only [Fm.ok, Bool.and_eq_true, Bool.or_eq_true] at z
            refine ⟨?_, z.2.2.2⟩
            rcases z.2.1 with z | z
            · exact absurd z (by decide +kernel)
            · exact z
          obtain ⟨pk, xk, rfl, ek⟩ := head_at fb2
          walk_at "go3"
          refine g_ixT (v := .str b2.head) (SqT.of ek) at0 ?_
          walk_at "go3"
          refine g_ninT (tK _) rfl rfl ?_
          rw [inV_keys, key_head (Fm.ok_kin okk.2), okk.1]
          walk_at "go3"
          exact ⟨enS r, by have : enW (Fm.bi kLock b1 b2, true) = 1 := rfl; omega, r, _, _, _, _, rfl, sH4, ef4, hr4, rfl, by omega⟩
      | false =>
        walk_at "go3"
        refine ⟨u1, b, rfl, f1', ok1, fun H5 s5 => ?_⟩
        have f5 : FmAt H5 u1 b := f1'.same s5
        have ok2 : b.ok = true := ok1
        have hl2 : xs.length + b.dep ≤ a.dep := hl
        clear hl
        have e25 := s5 _ _ e2'
        have ef5 := s5 _ _ ef4
        have hr5 : ∀ y ∈ r, EnAt H5 a.dep y.1 y.2 := fun y hy => (hr4 y hy).tps (Tps.same s5)
        have sH5 := sH4.trans s5
        clear f1' e2' ef4 hr4 sH4 s5
        have hwb : 2 * b.size + enS r = m := hmr
        have hbp := Fm.size_pos b
        rcases kids_of f5 ok2 with ⟨pa, k, t, rfl, rfl, ea, hk⟩ | ⟨pa, k, ks, rfl, ea, hk, hks, hsum⟩
        · walk_at "go3"
          refine g_inT (tA _) rfl rfl ?_
          rw [inV_atoms, hk]
          walk_at "go3"
          exact ⟨enS r, by omega, r, _, _, _, _, rfl, sH5, ef5, hr5, rfl, by omega⟩
        · walk_at "go3"
          refine g_ixT (v := .str k) (SqT.of ea) at0 ?_
          walk_at "go3"
          refine g_inT (tA _) rfl rfl ?_
          rw [inV_atoms, hk]
          walk_at "go3"
          have hkl : ks.length ≤ sumS ks := sumS_len ks
          have hbz := hwb
          refine ⟨fun σ' H' => ∃ (st : List (V × (Fm × Bool))), σ' = [some v, some (.ref pl), some (.ref q'), some (.ref pa), some (.bl false), x5] ∧ Same H H' ∧ Tps H5 H' ∧ H' pl = some (.lst (st.map (·.1)).reverse) ∧ (∀ y ∈ st, EnAt H' a.dep y.1 y.2) ∧ enS st ≤ enS r + 1, ?_, ?_⟩
          · walk_at "go3"
            refine g_ixT (v := .str k) (SqT.of ea) at0 ?_
            walk_at "go3"
            refine iteD (fun e => ?_) (fun _ => ?_)
            · have e' : k = kLock := V.str.inj e
              walk_at "go3"
              refine ⟨by show 3 ≤ sizeLine; decide, fun p3 hp3 => ?_⟩
              have s6 : Same H5 (upd H5 p3 (.tup [.ref q', .ref pa, .bl true])) := Same.upd hp3
              have e6 : upd H5 p3 (.tup [.ref q', .ref pa, .bl true]) p3 = some (.tup [.ref q', .ref pa, .bl true]) := upd_same
              generalize upd H5 p3 (.tup [.ref q', .ref pa, .bl true]) = H6 at s6 e6 ⊢
              have ef6 := s6 _ _ ef5
              walk_at "go3"
              refine g_app ef6 (by rw [List.length_reverse, List.length_map, sizeLine_eq]; omega) ?_
              have t7 : Tps H6 (upd H6 pl (.lst ((r.map (·.1)).reverse ++ [.ref p3]))) := Tps.lst ef6
              refine ⟨(.ref p3, (b, true)) :: r, rfl, Same.mut (sH5.trans s6) hplH, (Tps.same s6).trans t7, by rw [upd_same, List.map_cons, List.reverse_cons], fun y hy => ?_, by show 1 + enS r ≤ _; omega⟩
              rcases List.mem_cons.mp hy with rfl | hy
              · have f7 := (f5.same s6).tps t7
                refine ⟨p3, q', xs, .ref pa, rfl, t7 _ _ e6, t7 _ _ (s6 _ _ e25), hl2, f7, ok2, fun _ => ?_⟩
                rw [e'] at ea
                exact lock_of ea f5 ok2
              · exact ((hr5 y hy).tps (Tps.same s6)).tps t7
            · exact ⟨r, rfl, sH5, fun _ _ z => z, ef5, hr5, Nat.le_succ _⟩
          · rintro σ6 H6 ⟨st6, rfl, sH6, t6, ef6, hr6, hw6⟩
            have ea6 := t6 _ _ ea
            have e26 := t6 _ _ e25
            have hks6 : ∀ y ∈ ks, FmAt H6 y.1 y.2 := fun y hy => (hks y hy).1.tps t6
            clear t6 ef5 hr5 e25 ea
            refine g_for3 ?_
            walk_at "go3"
            rw [show (((V.str k :: ks.map (·.1)).length : Int) - 1) = ((ks.length : Nat) : Int) by rw [List.length_cons, List.length_map]; omega]
            refine r_for3 (by omega) (fun i σ' H' => ∃ (st : List (V × (Fm × Bool))) (w5 : Option V), σ' = [some v, some (.ref pl), some (.ref q'), some (.ref pa), some (.bl false), w5] ∧ Same H H' ∧ Tps H6 H' ∧ H' pl = some (.lst (st.map (·.1)).reverse) ∧ (∀ y ∈ st, EnAt H' a.dep y.1 y.2) ∧ enS st ≤ enS r + 1 + 2 * sumS (ks.drop (ks.length - i)))
              ⟨st6, x5, rfl, sH6, fun _ _ z => z, ef6, hr6, by omega⟩ (fun i σ' H7 hi p7 => ?_) (fun σ' H7 p7 => ?_)
            · obtain ⟨st, w5, rfl, sH7, t7, ef7, hr7, hw7⟩ := p7
              obtain ⟨y, hy⟩ : ∃ y, ks[ks.length - i - 1]? = some y := ⟨_, List.getElem?_eq_getElem (by omega)⟩
              have hm7 : y ∈ ks := List.mem_of_getElem? hy
              have hdr := sum_drop hy (show ks.length - i = (ks.length - i - 1) + 1 by omega)
              have hsd := sumS_drop ks (ks.length - (i + 1))
              have hlr7 := enS_len st
              rw [show ks.length - (i + 1) = ks.length - i - 1 by omega] at hsd
              have ea7 := t7 _ _ ea6
              have e27 := t7 _ _ e26
              have fy := (hks6 y hm7).tps t7
              walk_at "go3"
              refine ⟨by show 1 ≤ sizeLine; decide, fun p8 hp8 => ?_⟩
              have s8 : Same H7 (upd H7 p8 (.tup [.int ((ks.length - i : Nat) : Int)])) := Same.upd hp8
              have e8 : upd H7 p8 (.tup [.int ((ks.length - i : Nat) : Int)]) p8 = some (.tup [.int ((ks.length - i : Nat) : Int)]) := upd_same
              generalize upd H7 p8 (.tup [.int ((ks.length - i : Nat) : Int)]) = H8 at s8 e8 ⊢
              have hdy := (hks y hm7).2.2
              have hda : a.dep < 1000000 := by have := Fm.dep_size a; omega
              refine g_catA (s8 _ _ e27) e8 (by simp) (by show xs.length + 1 ≤ _; rw [sizeLine_eq]; omega) fun p9 zs H9 s9 e9 hzs => ?_
              walk_at "go3"
              have ea9 := s9 _ _ (s8 _ _ ea7)
              rw [show ks.length - i = (ks.length - i - 1) + 1 by omega]
              refine g_ixT (v := y.1) (SqT.of ea9) (ix_kid hy) ?_
              walk_at "go3"
              refine ⟨by show 3 ≤ sizeLine; decide, fun p10 hp10 => ?_⟩
              have s10 : Same H9 (upd H9 p10 (.tup [.ref p9, y.1, .bl false])) := Same.upd hp10
              have e10 : upd H9 p10 (.tup [.ref p9, y.1, .bl false]) p10 = some (.tup [.ref p9, y.1, .bl false]) := upd_same
              generalize upd H9 p10 (.tup [.ref p9, y.1, .bl false]) = H10 at s10 e10 ⊢
              have sT := s8.trans (s9.trans s10)
              have ef10 := sT _ _ ef7
              walk_at "go3"
              refine g_app ef10 (by rw [List.length_reverse, List.length_map, sizeLine_eq]; omega) ?_
              have t11 : Tps H10 (upd H10 pl (.lst ((st.map (·.1)).reverse ++ [.ref p10]))) := Tps.lst ef10
              refine ⟨(.ref p10, (y.2, false)) :: st, _, rfl, Same.mut (sH7.trans sT) hplH, t7.trans ((Tps.same sT).trans t11), by rw [upd_same, List.map_cons, List.reverse_cons], fun z hz => ?_, ?_⟩
              · rcases List.mem_cons.mp hz with rfl | hz
                · exact ⟨p10, p9, zs, y.1, rfl, t11 _ _ e10, t11 _ _ (s10 _ _ e9), by rw [hzs]; show xs.length + 1 + y.2.dep ≤ _; omega, (fy.same sT).tps t11, (hks y hm7).2.1, fun z => nomatch z⟩
                · exact ((hr7 z hz).tps (Tps.same sT)).tps t11
              · show 2 * y.2.size + enS st ≤ _
                rw [show ks.length - (i + 1) = ks.length - i - 1 by omega]
                omega
            · obtain ⟨st, w5, rfl, sH7, t7, ef7, hr7, hw7⟩ := p7
              have hs7 : sumS (ks.drop (ks.length - ks.length)) = sumS ks := by rw [Nat.sub_self]; rfl
              exact ⟨enS st, by omega, st, _, _, _, _, rfl, sH7, ef7, hr7, rfl, by omega⟩
end
end Op

namespace Op
open PySem PySem.Spec PyProof.Rows L2 SX OpC
/-! ## a staticmethod called on its class -/
/-- m, a staticmethod of the class at C: its record at p, its def at f -/
structure Sm (P : Program) (w : World) (K : PySem.W.Frag) (mg : Str → Option Value) (base : Heap) (k : Nat) (C : Addr) (m : Str) (sp : Sp) : Prop where
  ex : ∃ (f p : Addr) (fd : FuncData) (ps : List Str) (rest : List Value), FnOk P w K mg base (L2.CX P w) k f fd ps sp ∧ ClX.CRead K C (.type "type") ∧ PySem.W.findCls K (.ref C) (.type "type") m = some (.get (.builtin "staticmethod.__get__") (.ref p) .none (.ref C)) ∧
    PySem.W.recIn K p "staticmethod" = some (.ref f :: rest) ∧ PySem.W.keepIn K (.ref f) = true ∧ Binds K fd ps []
def rSm (C : Addr) (sp : Sp) (E : XK) (t : TA) (σ : L2.St) (x : V) (H1 : Hp) (Q : VK) : Prop := x = .ref C ∧ t σ H1 fun vs H2 => sp vs H2 Q E
def tSm (C : Addr) (sp : Sp) (E : XK) (ta : TE) (t : TA) : TE := fun σ H Q => ta σ H fun x H1 => rSm C sp E t σ x H1 Q
section
variable {X : Cx} {k j : Nat} {C : Addr} {m : Str} {sp : Sp} {E : XK} {pos apos : Pos} {e o : Expr} {es : List Expr} {ta : TE} {t : TA}
theorem pe_sm {pl : Sem Bool} (c : Sm X.prog X.w X.K X.mg X.base k C m sp) (hr : Room j X.A) (hk : k ≤ j) (hx : ∀ σ : L2.St, σ.length = X.N.length → PassesAt (L2.CX X.prog X.w) X σ E) (he : PE X o ta) (ha : PA X (e :: es) t)
    (hs1 : starEach (e :: es) X.env = (false, eval e X.env) :: starEach es X.env := by rfl) (hp1 : (backTo pos (starEach es X.env)).any (·.1) = false := by rfl)
    (ht : eval (.Call (.Attribute o m apos) (e :: es) [] pos) X.env = (do
      let ov ← eval o X.env
      standAt apos.atName
      let (g, first) ← holding [ov] (getMethod ov m pl)
      callWith pos g first (backTo pos (starEach (e :: es) X.env)) (backToKw pos (keywordEach [] X.env))) := by rfl) :
    PE X (.Call (.Attribute o m apos) (e :: es) [] pos) (tSm C sp E ta t) := by
  obtain ⟨f, p, fd, ps, rest, F, r, at_, rc, kp, bd⟩ := c.ex
  refine ⟨fun pins s σ H Q I h => ?_⟩
  refine PySem.W.methodCall_KW (pl := pl) (thn (he.run pins s σ H _ I h) fun u s1 ⟨x, H1, I1, rx, ex, q⟩ => ?_) ht
  subst ex
  obtain rfl : u = Value.ref C := rx
  refine PySem.W.method_cls I1.kIn r.ga ?_
  refine PySem.W.cls_bind I1.kIn r.rd at_ ?_
  refine wpAny_call (PySem.W.sm_get (s := { s1 with toks := s1.toks + 1 }) I1.kIn rc (PySem.W.handed_on rfl ?_))
  have I2 : Inv X pins σ H1 { s1 with toks := s1.toks + 1 } := I1.tok _
  refine PySem.W.callWith_K (h₀ := X.base) I.ok.mod.kin kp ?_ hs1 hp1
  refine thn (ha.run pos pins _ σ H1 _ I2 q) fun us s3 ⟨vs, H2, I3, rv, q2⟩ => ⟨I3.kIn, ?_⟩
  exact run_fnS (E := fun _ => E) F (hr.mono hk) bd (hx σ I3.len) I3 rv q2
end
theorem g_sm {C : Addr} {sp : Sp} {E : XK} {ta : TE} {t : TA} {σ : L2.St} {H : Hp} {Q : VK} (k : ta σ H fun x H1 => rSm C sp E t σ x H1 Q) : tSm C sp E ta t σ H Q := k
theorem g_rsm {C : Addr} {sp : Sp} {E : XK} {t : TA} {σ : L2.St} {H : Hp} {Q : VK} (k : t σ H fun vs H2 => sp vs H2 Q E) : rSm C sp E t σ (.ref C) H Q := ⟨rfl, k⟩
/-! ## an own == against what is of no own class -/
/-- what is no letter: its type, of which the class knows nothing -/
def NoLet (K : PySem.W.Frag) (C : Addr) (H : Hp) (y : V) : Prop := ∃ T, TyB K H y T ∧ TyX K H y (.type T) ∧ PySem.W.subIn K (.type T) (.ref C) = some false ∧ PySem.W.kitOne K (.type T) (.ref C) = some false
theorem kit_other {K : PySem.W.Frag} {C : Addr} {T : String} (h1 : PySem.W.isClsIn K C = true) (h2 : PySem.W.typeIn K (.ref C) = some (.type "type")) (h3 : PySem.W.subIn K (.type T) (.ref C) = some false) : PySem.W.kitOne K (.type T) (.ref C) = some false := by
  unfold PySem.W.kitOne
  rw [if_neg (by simp)]
  show (if ((PySem.W.clsIn K C).isSome && PySem.W.typeIn K (.ref C) == some (.type "type")) = true then PySem.W.subIn K (.type T) (.ref C) else none) = _
  rw [show (PySem.W.clsIn K C).isSome = true from h1, h2, if_pos (by simp)]
  exact h3
/-- .. by the types -/
structure Nl (K : PySem.W.Frag) (C : Addr) : Prop where
  non : PySem.W.subIn K (.type "NoneType") (.ref C) = some false ∧ PySem.W.kitOne K (.type "NoneType") (.ref C) = some false
  int : PySem.W.subIn K (.type "int") (.ref C) = some false ∧ PySem.W.kitOne K (.type "int") (.ref C) = some false
  str : PySem.W.subIn K (.type "str") (.ref C) = some false ∧ PySem.W.kitOne K (.type "str") (.ref C) = some false
  tup : PySem.W.subIn K (.type "tuple") (.ref C) = some false ∧ PySem.W.kitOne K (.type "tuple") (.ref C) = some false
  lst : PySem.W.subIn K (.type "list") (.ref C) = some false ∧ PySem.W.kitOne K (.type "list") (.ref C) = some false
section
variable {K : PySem.W.Frag} {C : Addr} {H : Hp}
theorem Nl.ofNon (n : Nl K C) : NoLet K C H .non := ⟨_, .non, .base .non, n.non⟩
theorem Nl.ofInt (n : Nl K C) (i : Int) : NoLet K C H (.int i) := ⟨_, .int i, .base (.int i), n.int⟩
theorem Nl.ofStr (n : Nl K C) (x : Str) : NoLet K C H (.str x) := ⟨_, .str x, .base (.str x), n.str⟩
theorem Nl.ofTup (n : Nl K C) {p : Addr} {xs : List V} (h : H p = some (.tup xs)) : NoLet K C H (.ref p) := ⟨_, .tup (SqT.of h), .base (.tup h), n.tup⟩
theorem Nl.ofLst (n : Nl K C) {p : Addr} {xs : List V} (h : H p = some (.lst xs)) : NoLet K C H (.ref p) := ⟨_, .lst (SqL.of h), .base (.lst h), n.lst⟩
end
theorem looks_ty {M : Model} {s : Shared} {u : Value} {T : String} (h : s.TypeIs u T) : PySem.W.Looks M s.heap (typeOf u) (.type T) := by
  cases u with
  | ref a =>
    obtain ⟨o, h1, h2⟩ := h
    exact h2 ▸ (PySem.W.Looks.ld h1).andThen .now
  | _ => exact PySem.W.Looks.of_pure h
def rOwnA (K : PySem.W.Frag) (C : Addr) (sp : Sp) : R2 := fun x y H Q => (∃ a dx fs, x = .ref a ∧ H a = some (.ins C dx fs)) ∧ NoLet K C H y ∧ sp [x, y] H Q E0
section
variable {X : Cx} {k j : Nat} {C : Addr} {m : Str} {sp : Sp} {E : XK}
theorem cmp_ownA {K : PySem.W.Frag} {op : CmpOp} (hK : X.K = K) (hop : ∀ a b, compareOp op a b = richCompare op a b) (c : Cm X.prog X.w X.K X.mg X.base k C m sp) (hm : m = (cmpInfo op).2.1) (hr : Room j X.A) (hk : k ≤ j) : OpR X (compareOp op) (rOwnA K C sp) := by
  subst hK
  intro pins s σ H x y v u Q I rx ry h
  obtain ⟨⟨a, dx, fs, rfl, ha⟩, ⟨T, tb, _, e, _⟩, h⟩ := h
  obtain ⟨f, fd, ps, F, M, bd⟩ := c.ex
  obtain ⟨mA, O1, _⟩ := ins_get I.hok ha
  obtain ⟨od, J1, _⟩ := O1.look
  obtain ⟨mf, fr⟩ := I.fr
  have ht := TyB.is I ry tb
  cases rx
  subst hm
  rw [hop]
  refine PySem.W.cmp_K (op := op) (tb := .type T) hr.units0 fr I.ok.mod.kin J1 (looks_ty ht) (by unfold PySem.W.notFirst; rw [e]; simp) M.at_ M.fn ?_
  exact wpAny_mono (run_fnS (E := fun _ => E0) F (hr.mono hk) bd (passE0 σ) I (vs := [.ref a, y]) (.cons (rfl : L2.RelV (.ref a) (.ref a)) (.cons ry .nil)) h) (fun u s' q => back_of q) fun _ _ z => z
end
end Op

namespace Op
open PySem PySem.Spec PyProof.Rows L2 SX OpC
local macro_rules | `(tactic| walk_at "go1") => `(tactic| first
  | ((with_reducible refine' g_var ?h ?_); (case h => rfl)) | with_reducible refine' g_c ?_ | with_reducible refine' g_op ?_ | with_reducible refine' g_un ?_ | with_reducible refine' g_if ?_ | with_reducible refine' g_test ?_ | with_reducible refine' g_B ?_ | with_reducible refine' g_bl ?_
  | with_reducible refine' g_not ?_ | with_reducible refine' g_and ?_ | with_reducible refine' g_or ?_ | with_reducible refine' g_andV ?_ | with_reducible refine' g_orV ?_ | with_reducible refine' g_notV ?_ | with_reducible refine' g_nil ?_ | with_reducible refine' g_cons ?_ | with_reducible refine' g_CB ?_ | with_reducible refine' g_ca ?_
  | with_reducible refine' g_seq ?_ | with_reducible refine' g_next ?_ | with_reducible refine' g_asg ?_ | with_reducible refine' g_name ?_ | with_reducible refine' g_ret ?_ | with_reducible refine' g_retN ?_ | with_reducible refine' g_drop ?_ | with_reducible refine' g_ifS ?_ | with_reducible refine' g_sub ?_
  | with_reducible refine' g_I0 ?_ | with_reducible refine' g_U ?_ | ((with_reducible refine' g_eq ?h ?_); (case h => rfl)) | ((with_reducible refine' g_ne ?h ?_); (case h => rfl))
  | ((with_reducible refine' g_lenL ?h ?_); (case h => first | assumption | exact SqL.of (by assumption) | exact SqL.of upd_same)) | ((with_reducible refine' g_lenT ?h ?_); (case h => first | assumption | exact SqT.of (by assumption) | exact SqT.of upd_same))
  | ((with_reducible refine' g_ixL ?h ?ha ?_); (case h => first | assumption | exact SqL.of (by assumption) | exact SqL.of upd_same); (case ha => rfl)) | ((with_reducible refine' g_ixT ?h ?ha ?_); (case h => first | assumption | exact SqT.of (by assumption) | exact SqT.of upd_same); (case ha => rfl))
  | ((with_reducible refine' g_I ?h ?_); (case h => first | decide | omega | (first | refine' ⟨?_, ?_, ?_⟩ | refine' ⟨?_, ?_⟩ | refine' Or.inl ⟨?_, ?_⟩) <;> omega | (refine' Or.inr ⟨?_, ?_⟩ <;> omega)))
  | ((with_reducible refine' g_setL ?h ?ha ?_); (case h => first | assumption | exact upd_same); (case ha => rfl))
  | with_reducible refine' g_lcR ?_
  | with_reducible refine' g_M1 ?_ | with_reducible refine' g_isS ?_ | with_reducible refine' g_tyS ?_ | ((with_reducible refine' g_tyL ?h ?_); (case h => first | assumption | exact upd_same))
  | ((with_reducible refine' g_cat ?h ?h2 ?hl ?_); (case h => first | assumption | exact upd_same); (case h2 => first | assumption | exact upd_same); (case hl => first | decide | (simp; omega)))
  | with_reducible refine' g_lcS ?_
  | with_reducible refine' g_starts ?_ | with_reducible refine' g_chain ?_
  | ((with_reducible refine' g_lenS ?h ?_); (case h => first | exact len_le (by assumption) | exact len_le (by omega))) | ((with_reducible refine' g_rstrip ?h ?_); (case h => first | exact len_le (by assumption) | exact len_le (by omega))) | ((with_reducible refine' g_slX ?h ?_); (case h => first | exact len_le (by assumption) | exact len_le (by omega)))
  | with_reducible refine' g_sl ?_ | with_reducible refine' g_nopart ?_ | with_reducible refine' g_part ?_ | with_reducible refine' g_isI ?_
  | with_reducible refine' g_tru ?_
  | with_reducible refine' iteT ?_ | with_reducible refine' iteF ?_ | with_reducible refine' iteNT ?_ | with_reducible refine' iteNF ?_
  | with_reducible refine' g_int ?_ | with_reducible refine' g_insg ?_ | with_reducible refine' g_ninsg ?_ | with_reducible refine' g_isN ?_ | with_reducible refine' g_notN ?_ | with_reducible refine' g_lst ?_ | with_reducible refine' g_tup ?_ | with_reducible refine' g_BM ?_ | with_reducible refine' g_BM0 ?_)
local macro_rules | `(tactic| walk_at "go") => `(tactic| repeat' walk_at "go1")
local macro_rules | `(tactic| walk_at "go2") => `(tactic| repeat' (first | walk_at "go1" | with_reducible refine' g_cm ?_ | with_reducible refine' g_mk ?_ | with_reducible refine' g_for ?_ | ((with_reducible refine' g_rcm ?h ?ha ?_); (case h => first | assumption | exact upd_same); (case ha => first | rfl | decide | simp [List.lookup]))))
/- macro2 -/
section
variable {P : Program} {w : World} {K : PySem.W.Frag} {mg : Str → Option Value} {base : Heap} {CL CE : Addr}
/-! ## the law -/
/-- all([sign in signs for sign in text]) -/
theorem g_allIn {σ σ' : L2.St} {H : Hp} {Q : VK} {j : Nat} {vs : List Nat} {cs ss : List Nat} {z : Str} (hl : cs.length < 1000000) (hz : z.cps.toList = ss) (hw : ∀ x, wipe ((wipe σ vs).set j (some x)) vs = wipe σ vs) (hv : ∀ x, ((wipe σ vs).set j (some x))[j]? = some (some x))
    (k : ∀ H1, Same H H1 → Q (.bl (allIn cs ss)) H1) : rLcS j tYes (tOp rInSg (tVar j) (tC (.str z))) vs σ (.str (S cs)) H (fun x H1 => tNil σ' H1 fun xs H2 => rAll K (x :: xs) H2 Q) := by
  refine r_lcS1 (fun c => .bl (decide (c ∈ ss))) hl hw (fun c H2 R hc hS r => ?_) fun D hD => ?_
  · refine g_op (g_var (hv _) (g_c (g_insg ?_)))
    rw [hz]
    exact r
  · rw [all_map_bl]
    refine g_nil (g_all (SqL.of upd_same) ?_)
    rw [List.all_map]
    exact k _ (Same.upd hD)
/-- the law's own look at a text -/
def lawKind (cs : List Nat) : Option (Str × List Nat) :=
  if cs.length = 0 ∨ 8 < cs.length then none
  else if allIn cs smallL then some (kWord, cs)
  else if cs.take 1 = [63] ∧ 1 < cs.length ∧ allIn (cs.drop 1) smallL = true then some (kUnk, cs.drop 1)
  else if 0 < (cs.filter fun c => decide (c ∈ capL)).length ∧ allIn (cs.take (cs.filter fun c => decide (c ∈ capL)).length) capL = true then
    (if allIn (cs.drop (cs.filter fun c => decide (c ∈ capL)).length) digL = true then some (kName, cs) else none)
  else none
theorem unk_iff {cs : List Nat} (h8 : cs.length ≤ 8) : (cs.head? = some 63 ∧ isUnkB cs.tail = true) ↔ (cs.take 1 = [63] ∧ 1 < cs.length ∧ allIn (cs.drop 1) smallL = true) := by
  cases cs with
  | nil => simp
  | cons c r =>
    have hl : r.length ≤ 7 := by simpa using h8
    have hb : isUnkB r = true ↔ 1 ≤ r.length ∧ allIn r smallL = true := by
      unfold isUnkB
      rw [decide_eq_true hl, Bool.true_and, Bool.and_eq_true, decide_eq_true_eq]
    show (some c = some 63 ∧ isUnkB r = true) ↔ ([c] = [63] ∧ 1 < r.length + 1 ∧ allIn r smallL = true)
    rw [hb]
    constructor
    · rintro ⟨h1, h2, h3⟩
      exact ⟨by rw [Option.some.inj h1], by omega, h3⟩
    · rintro ⟨h1, h2, h3⟩
      exact ⟨by rw [(List.cons.inj h1).1], by omega, h3⟩
theorem lawKind_eq (cs : List Nat) : lawKind cs = kindOf cs := by
  unfold lawKind kindOf
  by_cases h0 : cs.length = 0 ∨ 8 < cs.length
  · have hw : ¬ isWordB cs = true := fun z => by
      simp only [isWordB, Bool.and_eq_true, decide_eq_true_eq] at z
      omega
    have hn : ¬ isNameB cs = true := fun z => by
      have := noDig_len cs
      simp only [isNameB, Bool.and_eq_true, decide_eq_true_eq] at z
      omega
    have hu : ¬ (cs.head? = some 63 ∧ isUnkB cs.tail = true) := fun z => by
      have z2 := z.2
      simp only [isUnkB, Bool.and_eq_true, decide_eq_true_eq, List.length_tail] at z2
      omega
    rw [if_pos h0, if_neg hw, if_neg hn, if_neg hu]
  · rw [if_neg h0]
    have h8 : cs.length ≤ 8 := by omega
    have hw : isWordB cs = true ↔ allIn cs smallL = true := by
      simp only [isWordB, Bool.and_eq_true, decide_eq_true_eq]
      exact ⟨fun z => z.2.2, fun z => ⟨by omega, h8, z⟩⟩
    by_cases h1 : allIn cs smallL = true
    · rw [if_pos h1, if_pos (hw.mpr h1)]
    · rw [if_neg h1, if_neg fun z => h1 (hw.mp z)]
      by_cases h2 : cs.take 1 = [63] ∧ 1 < cs.length ∧ allIn (cs.drop 1) smallL = true
      · have hu := (unk_iff h8).mpr h2
        have hn : ¬ isNameB cs = true := fun z => by
          obtain ⟨c, r, e, hc⟩ := name_head z
          have := hu.1
          rw [e] at this
          have e3 : c = 63 := Option.some.inj this
          rw [e3] at hc
          exact absurd hc (by decide +kernel)
        rw [if_pos h2, if_neg hn, if_pos hu, List.drop_one]
      · rw [if_neg h2]
        by_cases h3 : isNameB cs = true
        · obtain ⟨a1, a2, a3⟩ := (name_iff h8).mp h3
          rw [if_pos ⟨a1, a2⟩, if_pos a3, if_pos h3]
        · rw [if_neg h3, if_neg fun z => h2 ((unk_iff h8).mp z)]
          by_cases h4 : 0 < (cs.filter fun c => decide (c ∈ capL)).length ∧ allIn (cs.take (cs.filter fun c => decide (c ∈ capL)).length) capL = true
          · rw [if_pos h4, if_neg fun z => h3 ((name_iff h8).mpr ⟨h4.1, h4.2, z⟩)]
          · rw [if_neg h4]
def spKind : Sp := fun vs H Q _ => ∃ cs : List Nat, vs = [.str (S cs)] ∧ cs.length < 1000000 ∧ ∀ H' v, Same H H' → AtomV H' (lawKind cs) v → Q v H'
theorem ca_kind (T : Bl K mg) (D : Df K mg "_law_kind" s_law_kind p_law_kind) : Ca P w K mg base 1 "_law_kind" spKind := by
  refine ca_n D sc_law_kind (fun vs H Q E h => ?_) (fun f cdv A outer s H vs Q E hr h => ?_)
  · obtain ⟨cs, rfl, _⟩ := h
    rfl
  · obtain ⟨cs, rfl, hl, q⟩ := h
    refine ⟨_, (pss_cons (ps_set (i := 1) sc_law_kind.nd rfl (Or.inl rfl) (pe_callB cq_len (by rfl) T.b_len (by decide +kernel) (pa_cons (pe_lc (own := [("_law_sign", 2)]) (g := gName 2) rfl sc_law_kind.nd (pi_str (pv 0)) (blkOk_by (own := [("_law_sign", 2)]) (N := N_law_kind) (sc := defScope s_law_kind) (by decide +kernel)) (fun _ _ _ _ _ => pg_name (i := 2) sc_law_kind.nd rfl (Or.inl rfl)) (fun _ _ _ _ _ => (pts_one (pt_cmpR oq_insg (pv 2) pe_str rfl))) (fun _ _ _ _ _ => (pv 2))) pa_nil)))
  (pss_cons (ps_if (PW.pt (pw_or (pt_cmpR op_eq (pe_callB cq_lens (by rfl) T.b_len (by decide +kernel) (pa_cons (pv 0) pa_nil)) pe_int (nomark _)) (pw_or1 (pt_cmpR op_gt (pe_callB cq_lens (by rfl) T.b_len (by decide +kernel) (pa_cons (pv 0) pa_nil)) pe_int (nomark _)))))
  (pss_one (ps_ret pe_non))
  pss_nil)
  (pss_cons (ps_if (pt_val (pe_callB (cr_all rfl) (by rfl) T.b_all (by decide +kernel) (pa_cons (pe_lc (own := [("_law_sign", 2)]) (g := gName 2) (tt := tYes) rfl sc_law_kind.nd (pi_str (pv 0)) (blkOk_by (own := [("_law_sign", 2)]) (N := N_law_kind) (sc := defScope s_law_kind) (by decide +kernel)) (fun _ _ _ _ _ => pg_name (i := 2) sc_law_kind.nd rfl (Or.inl rfl)) (fun _ _ _ _ _ => pts_nil) (fun _ _ _ _ _ => (pe_cmpR oq_insg (pv 2) pe_str rfl))) pa_nil)))
  (pss_one (ps_ret (pe_tup (pa_cons pe_str (pa_cons (pv 0) pa_nil)))))
  pss_nil)
  (C8.pss_cut (ps_if (PW.pt (pw_and (pt_cmpR op_eq (pe_slice C8.sl_txt (pv 0) po_none (po_some pe_int)) pe_str (nomark _)) (pw_and (pt_cmpR op_gt (pe_callB cq_lens (by rfl) T.b_len (by decide +kernel) (pa_cons (pv 0) pa_nil)) pe_int (nomark _)) (pw_and1 (pt_val (pe_callB (cr_all rfl) (by rfl) T.b_all (by decide +kernel) (pa_cons (pe_lc (own := [("_law_sign", 2)]) (g := gName 2) (tt := tYes) rfl sc_law_kind.nd (pi_str (pe_slice C8.sl_txt (pv 0) (po_some pe_int) po_none)) (blkOk_by (own := [("_law_sign", 2)]) (N := N_law_kind) (sc := defScope s_law_kind) (by decide +kernel)) (fun _ _ _ _ _ => pg_name (i := 2) sc_law_kind.nd rfl (Or.inl rfl)) (fun _ _ _ _ _ => pts_nil) (fun _ _ _ _ _ => (pe_cmpR oq_insg (pv 2) pe_str rfl))) pa_nil)))))))
  (pss_one (ps_ret (pe_tup (pa_cons pe_str (pa_cons (pe_slice C8.sl_txt (pv 0) (po_some pe_int) po_none) pa_nil)))))
  pss_nil)
  (pss_cons (ps_if (PW.pt (pw_and (pt_cmpR op_gt (pv 1) pe_int (nomark _)) (pw_and1 (pt_val (pe_callB (cr_all rfl) (by rfl) T.b_all (by decide +kernel) (pa_cons (pe_lc (own := [("_law_sign", 2)]) (g := gName 2) (tt := tYes) rfl sc_law_kind.nd (pi_str (pe_slice C8.sl_txt (pv 0) po_none (po_some (pv 1)))) (blkOk_by (own := [("_law_sign", 2)]) (N := N_law_kind) (sc := defScope s_law_kind) (by decide +kernel)) (fun _ _ _ _ _ => pg_name (i := 2) sc_law_kind.nd rfl (Or.inl rfl)) (fun _ _ _ _ _ => pts_nil) (fun _ _ _ _ _ => (pe_cmpR oq_insg (pv 2) pe_str rfl))) pa_nil))))))
  (pss_one (ps_if (pt_val (pe_callB (cr_all rfl) (by rfl) T.b_all (by decide +kernel) (pa_cons (pe_lc (own := [("_law_sign", 2)]) (g := gName 2) (tt := tYes) rfl sc_law_kind.nd (pi_str (pe_slice C8.sl_txt (pv 0) (po_some (pv 1)) po_none)) (blkOk_by (own := [("_law_sign", 2)]) (N := N_law_kind) (sc := defScope s_law_kind) (by decide +kernel)) (fun _ _ _ _ _ => pg_name (i := 2) sc_law_kind.nd rfl (Or.inl rfl)) (fun _ _ _ _ _ => pts_nil) (fun _ _ _ _ _ => (pe_cmpR oq_insg (pv 2) pe_str rfl))) pa_nil)))
  (pss_one (ps_ret (pe_tup (pa_cons pe_str (pa_cons (pv 0) pa_nil)))))
  pss_nil))
  pss_nil)
  (pss_one (ps_ret pe_non))))))), ?_⟩
    walk_at "go"
    refine r_lcS (fun c => decide (c ∈ capL)) (fun c => .str (S [c])) hl (fun _ => rfl) (fun c H2 R hc hS r => ?_) (fun c H2 R hc hb hS r => ?_) fun D hD => ?_
    · walk_at "go"
      exact r
    · walk_at "go"
      exact r
    have s0 : Same H (L2.upd H D (.lst ((cs.filter fun c => decide (c ∈ capL)).map fun c => .str (S [c])))) := Same.upd hD
    have hS0 : SqL K (L2.upd H D (.lst ((cs.filter fun c => decide (c ∈ capL)).map fun c => .str (S [c])))) D ((cs.filter fun c => decide (c ∈ capL)).map fun c => .str (S [c])) := SqL.of upd_same
    generalize L2.upd H D (.lst ((cs.filter fun c => decide (c ∈ capL)).map fun c => .str (S [c]))) = H1 at s0 hS0 ⊢
    walk_at "go"
    rw [List.length_map]
    rw [S_len]
    refine iteD (fun h1 => ?_) (fun h1 => ?_)
    · walk_at "go"
      refine q _ _ s0 ?_
      unfold lawKind
      rw [if_pos (.inl (by have := V.int.inj h1; omega))]
      rfl
    walk_at "go"
    rw [S_len]
    refine iteD (fun h2 => ?_) (fun h2 => ?_)
    · walk_at "go"
      refine q _ _ s0 ?_
      unfold lawKind
      rw [if_pos (.inr (by omega))]
      rfl
    have hn : ¬ (cs.length = 0 ∨ 8 < cs.length) := by
      rintro (z | z)
      · exact h1 (by rw [z]; rfl)
      · omega
    walk_at "go"
    refine g_allIn (ss := smallL) hl rfl (fun _ => rfl) (fun _ => rfl) fun H2 s2 => ?_
    walk_at "go"
    refine iteB (fun h3 => ?_) (fun h3 => ?_)
    · walk_at "go"
      refine ⟨by show 2 ≤ sizeLine; decide, fun p hp => ?_⟩
      refine q _ _ ((s0.trans s2).trans (Same.upd hp)) ?_
      unfold lawKind
      rw [if_neg hn, if_pos h3]
      exact ⟨p, rfl, upd_same⟩
    have h3' : ¬ allIn cs smallL = true := by rw [h3]; decide
    refine ⟨fun σ' H' => σ' = [some (.str (S cs)), some (.int ((cs.filter fun c => decide (c ∈ capL)).length : Nat)), none] ∧ Same H H' ∧ ¬ (cs.take 1 = [63] ∧ 1 < cs.length ∧ allIn (cs.drop 1) smallL = true), ?_, ?_⟩
    · walk_at "go"
      rw [slice_to (by decide), show Str.ofString "?" = S [63] by decide +kernel]
      refine iteD (fun h4 => ?_) (fun h4 => ?_)
      · have h4' : cs.take 1 = [63] := S_inj (V.str.inj h4)
        walk_at "go"
        rw [S_len]
        refine iteD (fun h5 => ?_) (fun h5 => ?_)
        · walk_at "go"
          rw [slice_from (by decide)]
          refine g_allIn (ss := smallL) (by rw [List.length_drop]; omega) rfl (fun _ => rfl) (fun _ => rfl) fun H3 s3 => ?_
          walk_at "go"
          refine iteB (fun h6 => ?_) (fun h6 => ?_)
          · walk_at "go"
            rw [slice_from (by decide)]
            refine ⟨by show 2 ≤ sizeLine; decide, fun p hp => ?_⟩
            refine q _ _ (((s0.trans s2).trans s3).trans (Same.upd hp)) ?_
            unfold lawKind
            rw [if_neg hn, if_neg h3', if_pos ⟨h4', by omega, h6⟩]
            exact ⟨p, rfl, upd_same⟩
          · walk_at "go"
            exact ⟨rfl, (s0.trans s2).trans s3, fun z => by have := z.2.2; have h6' : allIn (cs.drop 1) smallL = false := h6; rw [h6'] at this; cases this⟩
        · walk_at "go"
          exact ⟨rfl, s0.trans s2, fun z => by have := z.2.1; omega⟩
      · walk_at "go"
        exact ⟨rfl, s0.trans s2, fun z => h4 (by show V.str (S (cs.take 1)) = _; rw [z.1])⟩
    · rintro σ' H3 ⟨rfl, s3, hu⟩
      generalize hc : (cs.filter fun c => decide (c ∈ capL)).length = cnt
      walk_at "go"
      refine iteD (fun h5 => ?_) (fun h5 => ?_)
      · walk_at "go"
        rw [slice_to (by omega), Int.toNat_natCast]
        refine g_allIn (ss := capL) (by rw [List.length_take]; omega) rfl (fun _ => rfl) (fun _ => rfl) fun H4 s4 => ?_
        walk_at "go"
        refine iteB (fun h6 => ?_) (fun h6 => ?_)
        · walk_at "go"
          rw [slice_from (by omega), Int.toNat_natCast]
          refine g_allIn (ss := digL) (by rw [List.length_drop]; omega) rfl (fun _ => rfl) (fun _ => rfl) fun H5 s5 => ?_
          walk_at "go"
          refine iteB (fun h7 => ?_) (fun h7 => ?_)
          · walk_at "go"
            refine ⟨by show 2 ≤ sizeLine; decide, fun p hp => ?_⟩
            refine q _ _ (((s3.trans s4).trans s5).trans (Same.upd hp)) ?_
            unfold lawKind
            rw [if_neg hn, if_neg h3', if_neg hu, hc, if_pos ⟨by omega, h6⟩, if_pos h7]
            exact ⟨p, rfl, upd_same⟩
          · walk_at "go"
            refine q _ _ ((s3.trans s4).trans s5) ?_
            unfold lawKind
            rw [if_neg hn, if_neg h3', if_neg hu, hc, if_pos ⟨by omega, h6⟩, if_neg (by rw [h7]; decide)]
            rfl
        · walk_at "go"
          refine q _ _ (s3.trans s4) ?_
          unfold lawKind
          rw [if_neg hn, if_neg h3', if_neg hu, hc, if_neg (fun z => by have z2 := z.2; have h6' : allIn (cs.take cnt) capL = false := h6; rw [h6'] at z2; cases z2)]
          rfl
      · walk_at "go"
        refine q _ _ s3 ?_
        unfold lawKind
        rw [if_neg hn, if_neg h3', if_neg hu, hc, if_neg (fun z => h5 (by have := z.1; omega))]
        rfl
end
end Op

namespace Op
open PySem PySem.Spec PyProof.Rows L2 SX OpC
/-! ### lists of forms, of letters -/
inductive FsAt (H : Hp) : List V → List Fm → Prop where
  | nil : FsAt H [] []
  | cons {v : V} {vs : List V} {a : Fm} {as : List Fm} : FmAt H v a → FsAt H vs as → FsAt H (v :: vs) (a :: as)
inductive LsAt (CL : Addr) (H : Hp) : List V → List Fm → Prop where
  | nil : LsAt CL H [] []
  | cons {v : V} {vs : List V} {a : Fm} {as : List Fm} : LetAt CL H v a → LsAt CL H vs as → LsAt CL H (v :: vs) (a :: as)
theorem FsAt.tps {H H' : Hp} (t : Tps H H') : ∀ {vs : List V} {as : List Fm}, FsAt H vs as → FsAt H' vs as
  | _, _, .nil => .nil
  | _, _, .cons h r => .cons (h.tps t) (r.tps t)
theorem FsAt.same {H H' : Hp} {vs : List V} {as : List Fm} (h : FsAt H vs as) (s : Same H H') : FsAt H' vs as := h.tps (Tps.same s)
theorem LsAt.same {CL : Addr} {H H' : Hp} (s : Same H H') : ∀ {vs : List V} {as : List Fm}, LsAt CL H vs as → LsAt CL H' vs as
  | _, _, .nil => .nil
  | _, _, .cons h r => .cons (h.same s) (r.same s)
theorem FsAt.len {H : Hp} : ∀ {vs : List V} {as : List Fm}, FsAt H vs as → vs.length = as.length
  | _, _, .nil => rfl
  | _, _, .cons _ r => congrArg (· + 1) r.len
theorem LsAt.len {CL : Addr} {H : Hp} : ∀ {vs : List V} {as : List Fm}, LsAt CL H vs as → vs.length = as.length
  | _, _, .nil => rfl
  | _, _, .cons _ r => congrArg (· + 1) r.len
theorem FsAt.get {H : Hp} : ∀ {vs : List V} {as : List Fm}, FsAt H vs as → ∀ {i : Nat} {v : V}, vs[i]? = some v → ∃ a, as[i]? = some a ∧ FmAt H v a
  | _, _, .cons h r, 0, v, e => ⟨_, rfl, by rw [← Option.some.inj e]; exact h⟩
  | _, _, .cons h r, i + 1, v, e => r.get (i := i) e
theorem LsAt.get {CL : Addr} {H : Hp} : ∀ {vs : List V} {as : List Fm}, LsAt CL H vs as → ∀ {i : Nat} {v : V}, vs[i]? = some v → ∃ a, as[i]? = some a ∧ LetAt CL H v a
  | _, _, .cons h r, 0, v, e => ⟨_, rfl, by rw [← Option.some.inj e]; exact h⟩
  | _, _, .cons h r, i + 1, v, e => r.get (i := i) e
theorem FsAt.app {H : Hp} {v : V} {a : Fm} (h : FmAt H v a) : ∀ {vs : List V} {as : List Fm}, FsAt H vs as → FsAt H (vs ++ [v]) (as ++ [a])
  | _, _, .nil => .cons h .nil
  | _, _, .cons g r => .cons g (r.app h)
theorem FsAt.append {H : Hp} {ws : List V} {bs : List Fm} (h : FsAt H ws bs) : ∀ {vs : List V} {as : List Fm}, FsAt H vs as → FsAt H (vs ++ ws) (as ++ bs)
  | _, _, .nil => h
  | _, _, .cons g r => .cons g (FsAt.append h r)
theorem FsAt.dp {K : PySem.W.Frag} {H : Hp} : ∀ {vs : List V} {as : List Fm}, FsAt H vs as → DpAll K H vs (as.map Fm.data)
  | _, _, .nil => .nil
  | _, _, .cons h r => .cons (dp_fm h) r.dp
theorem fm_lay : ∀ {as : List Fm}, (∀ a ∈ as, a.ok = true ∧ a.dep ≤ 60) → (PyData.list (as.map Fm.data)).canLay0 = true ∧ (PyData.list (as.map Fm.data)).depth ≤ 62
  | [], _ => ⟨rfl, by show 0 + 1 ≤ 62; decide⟩
  | a :: as, h => by
    obtain ⟨h1, h2⟩ := fm_lay fun b hb => h b (List.mem_cons_of_mem _ hb)
    obtain ⟨o, d⟩ := h a (List.mem_cons_self ..)
    have e1 := Fm.lay o
    have e2 := Fm.depth_le a
    refine ⟨?_, ?_⟩
    · show (a.data.canLay0 && (PyData.list (as.map Fm.data)).canLay0) = true
      rw [e1, h1]
      rfl
    · have h3 : (PyData.list (as.map Fm.data)).depth ≤ 62 := h2
      have e : (PyData.list ((a :: as).map Fm.data)).depth + 0 = max a.data.depth ((PyData.list (as.map Fm.data)).depth - 1) + 1 := rfl
      omega
theorem shapedL {as : List Fm} (h : ∀ a ∈ as, a.ok = true ∧ a.dep ≤ 60) : SeqAt.shaped (.list (as.map Fm.data)) = true := by
  obtain ⟨h1, h2⟩ := fm_lay h
  show ((PyData.list (as.map Fm.data)).canLay0 && decide ((PyData.list (as.map Fm.data)).depth ≤ 64)) = true
  rw [h1, decide_eq_true (by omega)]
  rfl
end Op

namespace Op
open PySem PySem.Spec PyProof.Rows L2 SX OpC
local macro_rules | `(tactic| walk_at "go1") => `(tactic| first
  | ((with_reducible refine' g_var ?h ?_); (case h => rfl)) | with_reducible refine' g_c ?_ | with_reducible refine' g_op ?_ | with_reducible refine' g_un ?_ | with_reducible refine' g_if ?_ | with_reducible refine' g_test ?_ | with_reducible refine' g_B ?_ | with_reducible refine' g_bl ?_
  | with_reducible refine' g_not ?_ | with_reducible refine' g_and ?_ | with_reducible refine' g_or ?_ | with_reducible refine' g_andV ?_ | with_reducible refine' g_orV ?_ | with_reducible refine' g_notV ?_ | with_reducible refine' g_nil ?_ | with_reducible refine' g_cons ?_ | with_reducible refine' g_CB ?_ | with_reducible refine' g_ca ?_
  | with_reducible refine' g_seq ?_ | with_reducible refine' g_next ?_ | with_reducible refine' g_asg ?_ | with_reducible refine' g_name ?_ | with_reducible refine' g_ret ?_ | with_reducible refine' g_retN ?_ | with_reducible refine' g_drop ?_ | with_reducible refine' g_ifS ?_ | with_reducible refine' g_sub ?_
  | with_reducible refine' g_I0 ?_ | with_reducible refine' g_U ?_ | ((with_reducible refine' g_eq ?h ?_); (case h => rfl)) | ((with_reducible refine' g_ne ?h ?_); (case h => rfl))
  | ((with_reducible refine' g_lenL ?h ?_); (case h => first | assumption | exact SqL.of (by assumption) | exact SqL.of upd_same)) | ((with_reducible refine' g_lenT ?h ?_); (case h => first | assumption | exact SqT.of (by assumption) | exact SqT.of upd_same))
  | ((with_reducible refine' g_ixL ?h ?ha ?_); (case h => first | assumption | exact SqL.of (by assumption) | exact SqL.of upd_same); (case ha => rfl)) | ((with_reducible refine' g_ixT ?h ?ha ?_); (case h => first | assumption | exact SqT.of (by assumption) | exact SqT.of upd_same); (case ha => rfl))
  | ((with_reducible refine' g_I ?h ?_); (case h => first | decide | omega | (first | refine' ⟨?_, ?_, ?_⟩ | refine' ⟨?_, ?_⟩ | refine' Or.inl ⟨?_, ?_⟩) <;> omega | (refine' Or.inr ⟨?_, ?_⟩ <;> omega)))
  | ((with_reducible refine' g_setL ?h ?ha ?_); (case h => first | assumption | exact upd_same); (case ha => rfl))
  | with_reducible refine' g_lcR ?_
  | with_reducible refine' g_M1 ?_ | with_reducible refine' g_isS ?_ | with_reducible refine' g_tyS ?_ | ((with_reducible refine' g_tyL ?h ?_); (case h => first | assumption | exact upd_same))
  | ((with_reducible refine' g_cat ?h ?h2 ?hl ?_); (case h => first | assumption | exact upd_same); (case h2 => first | assumption | exact upd_same); (case hl => first | decide | (simp; omega)))
  | with_reducible refine' g_lcS ?_
  | with_reducible refine' g_starts ?_ | with_reducible refine' g_chain ?_
  | ((with_reducible refine' g_lenS ?h ?_); (case h => first | exact len_le (by assumption) | exact len_le (by omega))) | ((with_reducible refine' g_rstrip ?h ?_); (case h => first | exact len_le (by assumption) | exact len_le (by omega))) | ((with_reducible refine' g_slX ?h ?_); (case h => first | exact len_le (by assumption) | exact len_le (by omega)))
  | with_reducible refine' g_sl ?_ | with_reducible refine' g_nopart ?_ | with_reducible refine' g_part ?_ | with_reducible refine' g_isI ?_
  | with_reducible refine' g_tru ?_
  | with_reducible refine' iteT ?_ | with_reducible refine' iteF ?_ | with_reducible refine' iteNT ?_ | with_reducible refine' iteNF ?_
  | with_reducible refine' g_int ?_ | with_reducible refine' g_insg ?_ | with_reducible refine' g_ninsg ?_ | with_reducible refine' g_isN ?_ | with_reducible refine' g_notN ?_ | with_reducible refine' g_lst ?_ | with_reducible refine' g_tup ?_ | with_reducible refine' g_BM ?_ | with_reducible refine' g_BM0 ?_)
local macro_rules | `(tactic| walk_at "go") => `(tactic| repeat' walk_at "go1")
local macro_rules | `(tactic| walk_at "go2") => `(tactic| repeat' (first | walk_at "go1" | with_reducible refine' g_cm ?_ | with_reducible refine' g_mk ?_ | with_reducible refine' g_for ?_ | ((with_reducible refine' g_rcm ?h ?ha ?_); (case h => first | assumption | exact upd_same); (case ha => first | rfl | decide | simp [List.lookup]))))
/- macro2 -/
local macro_rules | `(tactic| walk_at "go3a") => `(tactic| first
  | walk_at "go1" | with_reducible refine' g_cm ?_ | with_reducible refine' g_mk ?_ | with_reducible refine' g_for ?_ | with_reducible refine' g_fld ?_ | with_reducible refine' g_lcT0 ?_
  | ((with_reducible refine' g_rcm ?h ?ha ?_); (case h => first | assumption | exact upd_same); (case ha => first | rfl | decide | simp [List.lookup]))
  | ((with_reducible refine' g_shape ?hc ?hn ?h ?_); (case hc => assumption); (case hn => assumption); (case h => first | assumption | exact upd_same | (rw [upd_ne (by assumption)]; assumption))))
local macro_rules | `(tactic| walk_at "go3") => `(tactic| repeat' walk_at "go3a")
local macro_rules | `(tactic| walk_at "go4") => `(tactic| repeat' (first
  | walk_at "go3a" | ((with_reducible refine' iteDT ?h ?_); (case h => first | rfl | decide +kernel)) | ((with_reducible refine' iteDF ?h ?_); (case h => decide +kernel))))
/-! ## any object, as data -/
inductive ThAt (H : Hp) : V → PyData → Prop where
  | non : ThAt H .non .none
  | int (i : Int) : ThAt H (.int i) (.int i)
  | str {s : Str} : s.length < 100000 → ThAt H (.str s) (.str s)
  | tup {p : Addr} {xs : List V} {ds : List PyData} : H p = some (.tup xs) → xs.length = ds.length → (∀ (i : Nat) (x : V) (d : PyData), xs[i]? = some x → ds[i]? = some d → ThAt H x d) → ThAt H (.ref p) (.tuple ds)
  | lst {p : Addr} {xs : List V} {ds : List PyData} : H p = some (.lst xs) → xs.length ≤ 1 → xs.length = ds.length → (∀ (i : Nat) (x : V) (d : PyData), xs[i]? = some x → ds[i]? = some d → ThAt H x d) → ThAt H (.ref p) (.list ds)
def ThL (H : Hp) (xs : List V) (ds : List PyData) : Prop := xs.length = ds.length ∧ ∀ (i : Nat) (x : V) (d : PyData), xs[i]? = some x → ds[i]? = some d → ThAt H x d
section
variable {H H' : Hp} {v x : V} {d : PyData} {xs ys : List V} {ds es : List PyData} {p st : Addr}
theorem ThL.nil : ThL H [] [] := ⟨rfl, fun i x d h => by simp at h⟩
theorem ThL.cons (h : ThAt H x d) (r : ThL H xs ds) : ThL H (x :: xs) (d :: ds) := ⟨by rw [List.length_cons, List.length_cons, r.1], fun i y e h1 h2 => by
  cases i with
  | zero => rw [← Option.some.inj h1, ← Option.some.inj h2]; exact h
  | succ i => exact r.2 i y e h1 h2⟩
theorem ThL.head (h : ThL H xs (d :: ds)) : ∃ x r, xs = x :: r ∧ ThAt H x d ∧ ThL H r ds := by
  cases xs with
  | nil => exact absurd h.1 (by simp)
  | cons x r => exact ⟨x, r, rfl, h.2 0 x d rfl rfl, by have := h.1; simpa using this, fun i y e h1 h2 => h.2 (i + 1) y e h1 h2⟩
theorem ThL.no (h : ThL H xs []) : xs = [] := List.length_eq_zero_iff.mp h.1
theorem ThL.app : ∀ {xs : List V} {ds : List PyData}, ThL H xs ds → ThL H ys es → ThL H (xs ++ ys) (ds ++ es)
  | xs, [], h, r => by rw [h.no]; exact r
  | xs, d :: ds, h, r => by
    obtain ⟨x, r', rfl, h0, h1⟩ := h.head
    exact .cons h0 (ThL.app h1 r)
theorem ThL.get (h : ThL H xs ds) {i : Nat} (hi : ds[i]? = some d) : ∃ x, xs[i]? = some x ∧ ThAt H x d := by
  have hl := (List.getElem?_eq_some_iff.mp hi).1
  have hl2 : i < xs.length := by rw [h.1]; exact hl
  exact ⟨_, List.getElem?_eq_getElem hl2, h.2 i _ d (List.getElem?_eq_getElem hl2) hi⟩
theorem ThL.take (h : ThL H xs ds) (n : Nat) : ThL H (xs.take n) (ds.take n) := ⟨by rw [List.length_take, List.length_take, h.1], fun i x d h1 h2 => by
  by_cases hn : i < n
  · rw [List.getElem?_take_of_lt hn] at h1 h2
    exact h.2 i x d h1 h2
  · rw [List.getElem?_eq_none (by rw [List.length_take]; omega)] at h1
    cases h1⟩
theorem ThL.drop (h : ThL H xs ds) (n : Nat) : ThL H (xs.drop n) (ds.drop n) := ⟨by rw [List.length_drop, List.length_drop, h.1], fun i x d h1 h2 => by
  rw [List.getElem?_drop] at h1 h2
  exact h.2 _ x d h1 h2⟩
theorem ThAt.mkT (h : H p = some (.tup xs)) (r : ThL H xs ds) : ThAt H (.ref p) (.tuple ds) := .tup h r.1 r.2
theorem ThAt.mkL (h : H p = some (.lst xs)) (hl : xs.length ≤ 1) (r : ThL H xs ds) : ThAt H (.ref p) (.list ds) := .lst h hl r.1 r.2
theorem ThAt.tupE (h : ThAt H v (.tuple ds)) : ∃ p xs, v = .ref p ∧ H p = some (.tup xs) ∧ ThL H xs ds := by
  cases h with
  | tup h h1 h2 => exact ⟨_, _, rfl, h, h1, h2⟩
theorem ThAt.same (s : Same H H') : ∀ {v : V} {d : PyData}, ThAt H v d → ThAt H' v d := by
  intro v d h
  induction h with
  | non => exact .non
  | int i => exact .int i
  | str h => exact .str h
  | tup h h1 _ ih => exact .tup (s _ _ h) h1 ih
  | lst h h0 h1 _ ih => exact .lst (s _ _ h) h0 h1 ih
theorem ThAt.but {n : Nat} (hs : StAt H st n) (b : But st H H') : ∀ {v : V} {d : PyData}, ThAt H v d → ThAt H' v d := by
  obtain ⟨a1, a2, a3, e, _⟩ := hs
  intro v d h
  induction h with
  | non => exact .non
  | int i => exact .int i
  | str h => exact .str h
  | tup h h1 _ ih => exact .tup (b _ _ (fun z => by rw [z, e] at h; cases h) h) h1 ih
  | lst h h0 h1 _ ih => exact .lst (b _ _ (fun z => by
      rw [z, e] at h
      injection h with h
      injection h with h
      rw [← h] at h0
      exact absurd h0 (by simp)) h) h0 h1 ih
theorem ThL.same (s : Same H H') (h : ThL H xs ds) : ThL H' xs ds := ⟨h.1, fun i x d h1 h2 => (h.2 i x d h1 h2).same s⟩
theorem ThL.but {n : Nat} (hs : StAt H st n) (b : But st H H') (h : ThL H xs ds) : ThL H' xs ds := ⟨h.1, fun i x d h1 h2 => (h.2 i x d h1 h2).but hs b⟩
theorem dpAll_of {K : PySem.W.Frag} : ∀ {xs : List V} {ds : List PyData}, xs.length = ds.length → (∀ (i : Nat) (x : V) (d : PyData), xs[i]? = some x → ds[i]? = some d → Dp K H x d) → DpAll K H xs ds
  | [], [], _, _ => .nil
  | [], _ :: _, h, _ => by simp at h
  | _ :: _, [], h, _ => by simp at h
  | x :: xs, d :: ds, h, k => .cons (k 0 x d rfl rfl) (dpAll_of (by simpa using h) fun i y e h1 h2 => k (i + 1) y e h1 h2)
theorem ThAt.dp {K : PySem.W.Frag} : ∀ {v : V} {d : PyData}, ThAt H v d → Dp K H v d := by
  intro v d h
  induction h with
  | non => exact .non
  | int i => exact .int i
  | str h => exact .str _
  | tup h h1 _ ih => exact .tup (SqT.of h) (dpAll_of h1 ih)
  | lst h h0 h1 _ ih => exact .lst (SqL.of h) (dpAll_of h1 ih)
end
abbrev kFold : Str := Str.ofString "fold"
abbrev kA : Str := Str.ofString "a"
def hdK (k : Str) : Bool := atK k || (unK k || (biK k || (k == kFold || k == kA)))
mutual
def szD : PyData → Nat
  | .list xs => szDs xs + 1
  | .tuple xs => szDs xs + 1
  | _ => 1
def szDs : List PyData → Nat
  | [] => 0
  | x :: xs => szD x + szDs xs
end
/-! the words at the head of what is looked at -/
mutual
def pkD : PyData → Bool
  | .str s => hdK s
  | .tuple (.str k :: ks) => hdK k && (atK k || pkDs ks)
  | .tuple ds => pkDs ds
  | _ => true
def pkDs : List PyData → Bool
  | [] => true
  | x :: xs => pkD x && pkDs xs
end
def isAtD (k : Str) : PyData → Bool
  | .str s => isAtomB k s.cps.toList
  | _ => false
def stKs (k : Str) (ks : List PyData) : Bool := if atK k = true then (match ks with | [d] => isAtD k d | _ => false) else if unK k = true then ks.length == 1 else if biK k = true then ks.length == 2 else false
def standsD : PyData → Bool
  | .tuple (.str k :: ks) => stKs k ks
  | _ => false
def keyB : List PyData → Bool
  | [_, .tuple (.str k :: _)] => k == kOpen || k == kOwn
  | _ => false
/-! the path of the first part that is no form -/
mutual
def flt : PyData → Option (List Nat)
  | .tuple (.str k :: ks) => if stKs k ks = true then (if atK k = true then none else match fltL ks 1 with | some p => some p | none => if (k == kLock && !keyB ks) = true then some [] else none) else some []
  | _ => some []
def fltL : List PyData → Nat → Option (List Nat)
  | [], _ => none
  | x :: xs, i => match flt x with | some p => some (i :: p) | none => fltL xs (i + 1)
end
structure Bd (n m : Nat) (d : PyData) : Prop where
  lay : d.canLay0 = true
  dep : d.depth ≤ n
  sz : szD d ≤ m
  pk : pkD d = true
theorem ThAt.of_fm {H : Hp} : ∀ {v : V} {a : Fm}, FmAt H v a → a.ok = true → ThAt H v a.data := by
  intro v a h
  induction h with
  | @atm p k t h =>
    intro ok
    have hk := Fm.ok_kin ok
    have hs : t.length ≤ 8 := Fm.ok_small ok
    have hkl : k.length < 100000 := by
      simp only [Fm.kin, atK, Bool.or_eq_true, beq_iff_eq] at hk
      rcases hk with (rfl | rfl) | rfl <;> decide +kernel
    exact .mkT h (.cons (.str hkl) (.cons (.str (by rw [S_len]; omega)) .nil))
  | un h _ ih =>
    intro ok
    simp only [Fm.ok, Bool.and_eq_true] at ok
    exact .mkT h (.cons (.str (by rw [str_len]; have := unK_len ok.1; omega)) (.cons (ih ok.2) .nil))
  | bi h _ _ ih1 ih2 =>
    intro ok
    simp only [Fm.ok, Bool.and_eq_true] at ok
    exact .mkT h (.cons (.str (by rw [str_len]; have := biK_len ok.1; omega)) (.cons (ih1 ok.2.2.1) (.cons (ih2 ok.2.2.2) .nil)))
theorem Fm.szD_le : ∀ a : Fm, szD a.data ≤ 3 * a.size
  | .atm _ _ => Nat.le_refl _
  | .un _ a => by
    have := Fm.szD_le a
    show 1 + (szD a.data + 0) + 1 ≤ 3 * (a.size + 1)
    omega
  | .bi _ a b => by
    have := Fm.szD_le a
    have := Fm.szD_le b
    show 1 + (szD a.data + (szD b.data + 0)) + 1 ≤ 3 * (a.size + b.size + 1)
    omega
theorem Fm.pkD : ∀ {a : Fm}, a.ok = true → Op.pkD a.data = true
  | .atm k t, h => by
    have hk : atK k = true := Fm.ok_kin h
    show (hdK k && (atK k || _)) = true
    simp [hdK, hk]
  | .un k a, h => by
    simp only [Fm.ok, Bool.and_eq_true] at h
    show (hdK k && (atK k || (Op.pkD a.data && true))) = true
    rw [Fm.pkD h.2]
    simp [hdK, h.1]
  | .bi k a b, h => by
    simp only [Fm.ok, Bool.and_eq_true] at h
    show (hdK k && (atK k || (Op.pkD a.data && (Op.pkD b.data && true)))) = true
    rw [Fm.pkD h.2.2.1, Fm.pkD h.2.2.2]
    simp [hdK, h.1]
theorem Bd.fm {a : Fm} (h : a.ok = true) : Bd (a.dep + 1) (3 * a.size) a.data := ⟨Fm.lay h, Fm.depth_le a, Fm.szD_le a, Fm.pkD h⟩
theorem pk_str (k : Str) (ks : List PyData) : pkD (.tuple (.str k :: ks)) = (hdK k && (atK k || pkDs ks)) := rfl
theorem pkDs_cons (d : PyData) (ks : List PyData) : pkDs (d :: ks) = (pkD d && pkDs ks) := rfl
theorem pk_any {h : PyData} {ks : List PyData} (h1 : pkD h = true) (h2 : pkDs ks = true) : pkD (.tuple (h :: ks)) = true := by
  cases h with
  | str k =>
    rw [pk_str]
    have h1' : hdK k = true := h1
    rw [h1', h2, Bool.or_true]
    rfl
  | none => exact (pkDs_cons .none ks).trans (by rw [h1, h2]; rfl)
  | bool b => exact (pkDs_cons (.bool b) ks).trans (by rw [h1, h2]; rfl)
  | int i => exact (pkDs_cons (.int i) ks).trans (by rw [h1, h2]; rfl)
  | list x => exact (pkDs_cons (.list x) ks).trans (by rw [h1, h2]; rfl)
  | tuple x => exact (pkDs_cons (.tuple x) ks).trans (by rw [h1, h2]; rfl)
  | dict x => exact (pkDs_cons (.dict x) ks).trans (by rw [h1, h2]; rfl)
theorem g_catT {K : PySem.W.Frag} {H : Hp} {Q : VK} {a b : Addr} {xs ys : List V} (ha : H a = some (.tup xs)) (hb : H b = some (.tup ys)) (hl : xs.length + ys.length ≤ sizeLine) (k : ∀ c H', Same H H' → H' c = some (.tup (xs ++ ys)) → Q (.ref c) H') : rCatA K (.ref a) (.ref b) H Q :=
  ⟨a, b, xs, ys, rfl, rfl, SqT.of ha, SqT.of hb, hl, fun e => k b H (Same.refl _) (by rw [e]; exact hb), fun _ e => k a H (Same.refl _) (by rw [e, List.append_nil]; exact ha), fun _ _ c hc => k c _ (Same.upd hc) upd_same⟩
end Op

namespace Op
open PySem PySem.Spec PyProof.Rows L2 SX OpC
local macro_rules | `(tactic| walk_at "go1") => `(tactic| first
  | ((with_reducible refine' g_var ?h ?_); (case h => rfl)) | with_reducible refine' g_c ?_ | with_reducible refine' g_op ?_ | with_reducible refine' g_un ?_ | with_reducible refine' g_if ?_ | with_reducible refine' g_test ?_ | with_reducible refine' g_B ?_ | with_reducible refine' g_bl ?_
  | with_reducible refine' g_not ?_ | with_reducible refine' g_and ?_ | with_reducible refine' g_or ?_ | with_reducible refine' g_andV ?_ | with_reducible refine' g_orV ?_ | with_reducible refine' g_notV ?_ | with_reducible refine' g_nil ?_ | with_reducible refine' g_cons ?_ | with_reducible refine' g_CB ?_ | with_reducible refine' g_ca ?_
  | with_reducible refine' g_seq ?_ | with_reducible refine' g_next ?_ | with_reducible refine' g_asg ?_ | with_reducible refine' g_name ?_ | with_reducible refine' g_ret ?_ | with_reducible refine' g_retN ?_ | with_reducible refine' g_drop ?_ | with_reducible refine' g_ifS ?_ | with_reducible refine' g_sub ?_
  | with_reducible refine' g_I0 ?_ | with_reducible refine' g_U ?_ | ((with_reducible refine' g_eq ?h ?_); (case h => rfl)) | ((with_reducible refine' g_ne ?h ?_); (case h => rfl))
  | ((with_reducible refine' g_lenL ?h ?_); (case h => first | assumption | exact SqL.of (by assumption) | exact SqL.of upd_same)) | ((with_reducible refine' g_lenT ?h ?_); (case h => first | assumption | exact SqT.of (by assumption) | exact SqT.of upd_same))
  | ((with_reducible refine' g_ixL ?h ?ha ?_); (case h => first | assumption | exact SqL.of (by assumption) | exact SqL.of upd_same); (case ha => rfl)) | ((with_reducible refine' g_ixT ?h ?ha ?_); (case h => first | assumption | exact SqT.of (by assumption) | exact SqT.of upd_same); (case ha => rfl))
  | ((with_reducible refine' g_I ?h ?_); (case h => first | decide | omega | (first | refine' ⟨?_, ?_, ?_⟩ | refine' ⟨?_, ?_⟩ | refine' Or.inl ⟨?_, ?_⟩) <;> omega | (refine' Or.inr ⟨?_, ?_⟩ <;> omega)))
  | ((with_reducible refine' g_setL ?h ?ha ?_); (case h => first | assumption | exact upd_same); (case ha => rfl))
  | with_reducible refine' g_lcR ?_
  | with_reducible refine' g_M1 ?_ | with_reducible refine' g_isS ?_ | with_reducible refine' g_tyS ?_ | ((with_reducible refine' g_tyL ?h ?_); (case h => first | assumption | exact upd_same))
  | ((with_reducible refine' g_cat ?h ?h2 ?hl ?_); (case h => first | assumption | exact upd_same); (case h2 => first | assumption | exact upd_same); (case hl => first | decide | (simp; omega)))
  | with_reducible refine' g_lcS ?_
  | with_reducible refine' g_starts ?_ | with_reducible refine' g_chain ?_
  | ((with_reducible refine' g_lenS ?h ?_); (case h => first | exact len_le (by assumption) | exact len_le (by omega))) | ((with_reducible refine' g_rstrip ?h ?_); (case h => first | exact len_le (by assumption) | exact len_le (by omega))) | ((with_reducible refine' g_slX ?h ?_); (case h => first | exact len_le (by assumption) | exact len_le (by omega)))
  | with_reducible refine' g_sl ?_ | with_reducible refine' g_nopart ?_ | with_reducible refine' g_part ?_ | with_reducible refine' g_isI ?_
  | with_reducible refine' g_tru ?_
  | with_reducible refine' iteT ?_ | with_reducible refine' iteF ?_ | with_reducible refine' iteNT ?_ | with_reducible refine' iteNF ?_
  | with_reducible refine' g_int ?_ | with_reducible refine' g_insg ?_ | with_reducible refine' g_ninsg ?_ | with_reducible refine' g_isN ?_ | with_reducible refine' g_notN ?_ | with_reducible refine' g_lst ?_ | with_reducible refine' g_tup ?_ | with_reducible refine' g_BM ?_ | with_reducible refine' g_BM0 ?_)
local macro_rules | `(tactic| walk_at "go") => `(tactic| repeat' walk_at "go1")
local macro_rules | `(tactic| walk_at "go2") => `(tactic| repeat' (first | walk_at "go1" | with_reducible refine' g_cm ?_ | with_reducible refine' g_mk ?_ | with_reducible refine' g_for ?_ | ((with_reducible refine' g_rcm ?h ?ha ?_); (case h => first | assumption | exact upd_same); (case ha => first | rfl | decide | simp [List.lookup]))))
/- macro2 -/
local macro_rules | `(tactic| walk_at "go3a") => `(tactic| first
  | walk_at "go1" | with_reducible refine' g_cm ?_ | with_reducible refine' g_mk ?_ | with_reducible refine' g_for ?_ | with_reducible refine' g_fld ?_ | with_reducible refine' g_lcT0 ?_
  | ((with_reducible refine' g_rcm ?h ?ha ?_); (case h => first | assumption | exact upd_same); (case ha => first | rfl | decide | simp [List.lookup]))
  | ((with_reducible refine' g_shape ?hc ?hn ?h ?_); (case hc => assumption); (case hn => assumption); (case h => first | assumption | exact upd_same | (rw [upd_ne (by assumption)]; assumption))))
local macro_rules | `(tactic| walk_at "go3") => `(tactic| repeat' walk_at "go3a")
local macro_rules | `(tactic| walk_at "go4") => `(tactic| repeat' (first
  | walk_at "go3a" | ((with_reducible refine' iteDT ?h ?_); (case h => first | rfl | decide +kernel)) | ((with_reducible refine' iteDF ?h ?_); (case h => decide +kernel))))
/-! ## first_fault of any object -/
def spIsAtomD : Sp := fun vs H Q _ => ∃ (k : Str) (v : V) (d : PyData), vs = [.str k, v] ∧ ThAt H v d ∧ ∀ H', Same H H' → Q (.bl (isAtD k d)) H'
def spStandsD : Sp := fun vs H Q _ => ∃ (v : V) (d : PyData), vs = [v] ∧ ThAt H v d ∧ pkD d = true ∧ ∀ H', Same H H' → Q (.bl (standsD d)) H'
/-- the dict of how many items the form of each kind has; two words it has not -/
structure SzD (K : PySem.W.Frag) (w : World) (mg : Str → Option Value) : Prop where
  ex : ∃ (a : Addr) (es : Array DictEntry) (n : Nat), mg "SIZES" = some (.ref a) ∧ KDict K w a es n ∧ (∀ k, atK k = true → ∃ t, PySem.W.nsIn K a k = some (some (.int 2 t))) ∧
    (∀ k, unK k = true → ∃ t, PySem.W.nsIn K a k = some (some (.int 2 t))) ∧ (∀ k, biK k = true → ∃ t, PySem.W.nsIn K a k = some (some (.int 3 t))) ∧ (∀ k, (k == kFold || k == kA) = true → PySem.W.nsIn K a k = some none)
theorem un_at {k : Str} (h : unK k = true) : atK k = false := unK_at h
theorem bi_un {k : Str} (h : biK k = true) : unK k = false := by
  simp only [biK, Bool.or_eq_true, beq_iff_eq] at h
  rcases h with (rfl | rfl) | rfl <;> decide +kernel
theorem fold_no {k : Str} (h : (k == kFold || k == kA) = true) : atK k = false ∧ unK k = false ∧ biK k = false := by
  simp only [Bool.or_eq_true, beq_iff_eq] at h
  rcases h with rfl | rfl <;> decide +kernel
theorem pk_tup {k : Str} {ks : List PyData} (h : pkD (.tuple (.str k :: ks)) = true) : hdK k = true ∧ (atK k = true ∨ pkDs ks = true) := by
  have h' : (hdK k && (atK k || pkDs ks)) = true := h
  simp only [Bool.and_eq_true, Bool.or_eq_true] at h'
  exact h'
section
variable {P : Program} {w : World} {K : PySem.W.Frag} {mg : Str → Option Value} {base : Heap}
theorem ca_is_atomD (T : Bl K mg) (D : Df K mg "is_atom" s_is_atom p_is_atom) (c_is_word : Ca P w K mg base 2 "is_word" (spTextB isWordB)) (c_is_name : Ca P w K mg base 2 "is_name" (spTextB isNameB)) (c_is_unknown : Ca P w K mg base 2 "is_unknown" (spTextB isUnkB)) :
    Ca P w K mg base 3 "is_atom" spIsAtomD := by
  refine ca_n D sc_is_atom (fun vs H Q E h => ?_) (fun f cdv A outer s H vs Q E hr h => ?_)
  · obtain ⟨k, v, d, rfl, _⟩ := h
    rfl
  · obtain ⟨k, v, d, rfl, th, q⟩ := h
    refine ⟨_, (pss_cons (ps_if (pt_not (pt_val (pe_callB call_isi (by rfl) T.b_isinstance (by decide +kernel) (pa_cons (pv 1) (pa_cons (pe_bltn (v := .ty "str") (u := .type "str") (by rfl) T.b_str (by decide +kernel) rfl) pa_nil)))))
  (pss_one (ps_ret pe_bl))
  pss_nil)
  (pss_cons (ps_if (pt_cmpR op_eq (pv 0) pe_str (nomark _))
  (pss_one (ps_ret (pe_ca c_is_word hr (by decide) (by rfl) (pa_cons (pv 1) pa_nil))))
  pss_nil)
  (pss_cons (ps_if (pt_cmpR op_eq (pv 0) pe_str (nomark _))
  (pss_one (ps_ret (pe_ca c_is_name hr (by decide) (by rfl) (pa_cons (pv 1) pa_nil))))
  pss_nil)
  (pss_one (ps_ret (pe_ca c_is_unknown hr (by decide) (by rfl) (pa_cons (pv 1) pa_nil))))))), ?_⟩
    cases th with
    | non =>
      walk_at "go3"
      refine g_isi (.ty _) (.base .non) (kit_ty (b := "str") (r := false) (by decide +kernel)) ?_
      walk_at "go3"
      exact q H (Same.refl _)
    | int i =>
      walk_at "go3"
      refine g_isi (.ty _) (.base (.int i)) (kit_ty (b := "str") (r := false) (by decide +kernel)) ?_
      walk_at "go3"
      exact q H (Same.refl _)
    | tup e _ _ =>
      walk_at "go3"
      refine g_isi (.ty _) (.base (.tup e)) (kit_ty (b := "str") (r := false) (by decide +kernel)) ?_
      walk_at "go3"
      exact q H (Same.refl _)
    | lst e _ _ _ =>
      walk_at "go3"
      refine g_isi (.ty _) (.base (.lst e)) (kit_ty (b := "str") (r := false) (by decide +kernel)) ?_
      walk_at "go3"
      exact q H (Same.refl _)
    | @str x hl =>
      obtain ⟨t, rfl⟩ : ∃ t, x = S t := ⟨_, (S_tl x).symm⟩
      rw [S_len] at hl
      walk_at "go3"
      refine g_isi (.ty _) (.base (.str _)) (kit_ty (b := "str") (r := true) (by decide +kernel)) ?_
      walk_at "go3"
      refine iteD (fun e => ?_) (fun ne => ?_)
      · have e' : k = kWord := V.str.inj e
        walk_at "go3"
        refine ⟨t, rfl, by omega, fun H1 s1 => ?_⟩
        have z : isAtD k (.str (S t)) = isWordB t := if_pos e'
        rw [← z]
        exact q H1 s1
      · have ne' : ¬ k = kWord := fun z => ne (by rw [z])
        walk_at "go3"
        refine iteD (fun e => ?_) (fun ne2 => ?_)
        · have e' : k = kName := V.str.inj e
          walk_at "go3"
          refine ⟨t, rfl, by omega, fun H1 s1 => ?_⟩
          have z : isAtD k (.str (S t)) = isNameB t := (if_neg ne').trans (if_pos e')
          rw [← z]
          exact q H1 s1
        · have ne2' : ¬ k = kName := fun z => ne2 (by rw [z])
          walk_at "go3"
          refine ⟨t, rfl, by omega, fun H1 s1 => ?_⟩
          have z : isAtD k (.str (S t)) = isUnkB t := (if_neg ne').trans (if_neg ne2')
          rw [← z]
          exact q H1 s1
theorem ca_standsD (T : Bl K mg) (SZ : SzD K w mg) (D : Df K mg "stands_alone" s_stands_alone p_stands_alone) (c_is_atom : Ca P w K mg base 3 "is_atom" spIsAtomD) : Ca P w K mg base 4 "stands_alone" spStandsD := by
  obtain ⟨aA, hA, tA⟩ := T.t_ATOMS
  have c_ATOMS : ∃ u, mg "ATOMS" = some u ∧ RelV (.ref aA) u := ⟨_, hA, rfl⟩
  obtain ⟨aS, es, nS, hS, KD, z1, z2, z3, z4⟩ := SZ.ex
  have c_SIZES : ∃ u, mg "SIZES" = some u ∧ RelV (.ref aS) u := ⟨_, hS, rfl⟩
  refine ca_n D sc_stands_alone (fun vs H Q E h => ?_) (fun f cdv A outer s H vs Q E hr h => ?_)
  · obtain ⟨v, d, rfl, _⟩ := h
    rfl
  · obtain ⟨v, d, rfl, th, pk, q⟩ := h
    refine ⟨_, (pss_cons (ps_if (PW.pt (pw_or (pt_not (pt_val (pe_callB call_isi (by rfl) T.b_isinstance (by decide +kernel) (pa_cons (pv 0) (pa_cons (pe_bltn (v := .ty "tuple") (u := .type "tuple") (by rfl) T.b_tuple (by decide +kernel) rfl) pa_nil))))) (pw_or1 (pt_cmpR op_eq (pe_callB cq_len (by rfl) T.b_len (by decide +kernel) (pa_cons (pv 0) pa_nil)) pe_int (nomark _)))))
  (pss_one (ps_ret pe_bl))
  pss_nil)
  (pss_cons (ps_set (i := 1) sc_stands_alone.nd rfl (Or.inl rfl) (pe_ix ix_tup (pv 0) pe_int (fun _ _ => rfl)))
  (pss_cons (ps_if (PW.pt (pw_or (pt_not (pt_val (pe_callB call_isi (by rfl) T.b_isinstance (by decide +kernel) (pa_cons (pv 1) (pa_cons (pe_bltn (v := .ty "str") (u := .type "str") (by rfl) T.b_str (by decide +kernel) rfl) pa_nil))))) (pw_or (pt_cmpR (op_notIn_kd KD) (pv 1) (C8.pe_gc (by rfl) c_SIZES) rfl) (pw_or1 (pt_cmpR op_ne (pe_callB cq_len (by rfl) T.b_len (by decide +kernel) (pa_cons (pv 0) pa_nil)) (pe_ix ix_kdict (C8.pe_gc (by rfl) c_SIZES) (pv 1) (fun _ _ => rfl)) (nomark _))))))
  (pss_one (ps_ret pe_bl))
  pss_nil)
  (pss_one (ps_ret (pe_or (pe_cmpR op_notIn_seq (pv 1) (C8.pe_gc (by rfl) c_ATOMS) rfl) (pe_one (pe_ca c_is_atom hr (by decide) (by rfl) (pa_cons (pv 1) (pa_cons (pe_ix ix_tup (pv 0) pe_int (fun _ _ => rfl)) pa_nil)))))))))), ?_⟩
    cases th with
    | non =>
      walk_at "go3"
      refine g_isi (.ty _) (.base .non) (kit_ty (b := "tuple") (r := false) (by decide +kernel)) ?_
      walk_at "go3"
      exact q H (Same.refl _)
    | int i =>
      walk_at "go3"
      refine g_isi (.ty _) (.base (.int i)) (kit_ty (b := "tuple") (r := false) (by decide +kernel)) ?_
      walk_at "go3"
      exact q H (Same.refl _)
    | str _ =>
      walk_at "go3"
      refine g_isi (.ty _) (.base (.str _)) (kit_ty (b := "tuple") (r := false) (by decide +kernel)) ?_
      walk_at "go3"
      exact q H (Same.refl _)
    | lst e _ _ _ =>
      walk_at "go3"
      refine g_isi (.ty _) (.base (.lst e)) (kit_ty (b := "tuple") (r := false) (by decide +kernel)) ?_
      walk_at "go3"
      exact q H (Same.refl _)
    | @tup p xs ds ep hl hch =>
      have hL : ThL H xs ds := ⟨hl, hch⟩
      walk_at "go3"
      refine g_isi (.ty _) (.base (.tup ep)) (kit_ty (b := "tuple") (r := true) (by decide +kernel)) ?_
      cases ds with
      | nil =>
        obtain rfl := hL.no
        walk_at "go3"
        refine iteD (fun _ => ?_) (fun h => absurd rfl h)
        walk_at "go3"
        exact q H (Same.refl _)
      | cons d0 ds =>
        obtain ⟨x0, xs, rfl, h0, hR⟩ := hL.head
        walk_at "go3"
        refine iteD (fun h => absurd (V.int.inj h) (by rw [List.length_cons]; omega)) (fun _ => ?_)
        walk_at "go3"
        refine g_ixT (v := x0) (SqT.of ep) at0 ?_
        walk_at "go3"
        cases h0 with
        | non =>
          refine g_isi (.ty _) (.base .non) (kit_ty (b := "str") (r := false) (by decide +kernel)) ?_
          walk_at "go3"
          exact q H (Same.refl _)
        | int i =>
          refine g_isi (.ty _) (.base (.int i)) (kit_ty (b := "str") (r := false) (by decide +kernel)) ?_
          walk_at "go3"
          exact q H (Same.refl _)
        | tup e _ _ =>
          refine g_isi (.ty _) (.base (.tup e)) (kit_ty (b := "str") (r := false) (by decide +kernel)) ?_
          walk_at "go3"
          exact q H (Same.refl _)
        | lst e _ _ _ =>
          refine g_isi (.ty _) (.base (.lst e)) (kit_ty (b := "str") (r := false) (by decide +kernel)) ?_
          walk_at "go3"
          exact q H (Same.refl _)
        | @str k hk =>
          refine g_isi (.ty _) (.base (.str _)) (kit_ty (b := "str") (r := true) (by decide +kernel)) ?_
          walk_at "go3"
          have hl1 : xs.length = ds.length := hR.1
          have hh := (pk_tup pk).1
          have q' : ∀ b, stKs k ds = b → ∀ H', Same H H' → Q (.bl b) H' := fun b e => by rw [← e]; exact q
          by_cases ka : atK k = true
          · obtain ⟨tk, ek⟩ := z1 k ka
            refine ⟨k, _, rfl, rfl, ek, ?_⟩
            refine ⟨_, rfl, ?_⟩
            refine iteF ?_
            walk_at "go3"
            refine ⟨aS, k, .int 2, rfl, rfl, ⟨es, nS, _, KD.at_, KD.lit, ek, ⟨tk, rfl⟩⟩, ?_⟩
            walk_at "go3"
            refine iteND (fun hne => ?_) (fun he => ?_)
            · walk_at "go3"
              refine q' _ ?_ H (Same.refl _)
              unfold stKs
              rw [if_pos ka]
              match ds, hl1 with
              | [], _ => rfl
              | [_], hl1 => exact absurd (by rw [List.length_cons, hl1]; rfl) hne
              | _ :: _ :: _, _ => rfl
            · have he' : xs.length = 1 := by have := V.int.inj he; rw [List.length_cons] at this; omega
              match ds, hl1, hR, q', hl, hch, hL, q, pk with
              | [], hl1, _, _, _, _, _, _, _ => exact absurd hl1 (by rw [he']; decide)
              | _ :: _ :: _, hl1, _, _, _, _, _, _, _ => exact absurd hl1 (by rw [he']; simp)
              | [d1], hl1, hR, q', _, _, _, _, _ =>
                obtain ⟨x1, xs', rfl, h1, hR2⟩ := hR.head
                obtain rfl := hR2.no
                walk_at "go3"
                refine g_ninT (tA _) rfl rfl ?_
                rw [inV_atoms, ka]
                walk_at "go3"
                refine ⟨k, x1, d1, rfl, h1, fun H1 s1 => ?_⟩
                refine q' _ ?_ H1 s1
                unfold stKs
                rw [if_pos ka]
          · have ka' : atK k = false := by cases h : atK k with | false => rfl | true => exact absurd h ka
            by_cases ku : unK k = true
            · obtain ⟨tk, ek⟩ := z2 k ku
              refine ⟨k, _, rfl, rfl, ek, ?_⟩
              refine ⟨_, rfl, ?_⟩
              refine iteF ?_
              walk_at "go3"
              refine ⟨aS, k, .int 2, rfl, rfl, ⟨es, nS, _, KD.at_, KD.lit, ek, ⟨tk, rfl⟩⟩, ?_⟩
              walk_at "go3"
              have es : stKs k ds = (ds.length == 1) := by
                unfold stKs
                rw [if_neg ka, if_pos ku]
              refine iteND (fun hne => ?_) (fun he => ?_)
              · walk_at "go3"
                refine q' _ ?_ H (Same.refl _)
                rw [es, beq_eq_false_iff_ne]
                intro z
                exact hne (by rw [List.length_cons, hl1, z]; rfl)
              · have he' : ds.length = 1 := by have := V.int.inj he; rw [List.length_cons] at this; omega
                walk_at "go3"
                refine g_ninT (tA _) rfl rfl ?_
                rw [inV_atoms, ka']
                walk_at "go3"
                refine q' _ ?_ H (Same.refl _)
                rw [es, he']
                rfl
            · by_cases kb : biK k = true
              · obtain ⟨tk, ek⟩ := z3 k kb
                refine ⟨k, _, rfl, rfl, ek, ?_⟩
                refine ⟨_, rfl, ?_⟩
                refine iteF ?_
                walk_at "go3"
                refine ⟨aS, k, .int 3, rfl, rfl, ⟨es, nS, _, KD.at_, KD.lit, ek, ⟨tk, rfl⟩⟩, ?_⟩
                walk_at "go3"
                have es : stKs k ds = (ds.length == 2) := by
                  unfold stKs
                  rw [if_neg ka, if_neg ku, if_pos kb]
                refine iteND (fun hne => ?_) (fun he => ?_)
                · walk_at "go3"
                  refine q' _ ?_ H (Same.refl _)
                  rw [es, beq_eq_false_iff_ne]
                  intro z
                  exact hne (by rw [List.length_cons, hl1, z]; rfl)
                · have he' : ds.length = 2 := by have := V.int.inj he; rw [List.length_cons] at this; omega
                  walk_at "go3"
                  refine g_ninT (tA _) rfl rfl ?_
                  rw [inV_atoms, ka']
                  walk_at "go3"
                  refine q' _ ?_ H (Same.refl _)
                  rw [es, he']
                  rfl
              · have hf : (k == kFold || k == kA) = true := by
                  have hh' : (atK k || (unK k || (biK k || (k == kFold || k == kA)))) = true := hh
                  rw [Bool.or_eq_true] at hh'
                  rcases hh' with h | h
                  · exact absurd h ka
                  rw [Bool.or_eq_true] at h
                  rcases h with h | h
                  · exact absurd h ku
                  rw [Bool.or_eq_true] at h
                  rcases h with h | h
                  · exact absurd h kb
                  · exact h
                refine ⟨k, none, rfl, rfl, z4 k hf, ?_⟩
                refine ⟨_, rfl, ?_⟩
                refine iteT ?_
                walk_at "go3"
                refine q' _ ?_ H (Same.refl _)
                unfold stKs
                rw [if_neg ka, if_neg ku, if_neg kb]
end
end Op

namespace Op
open PySem PySem.Spec PyProof.Rows L2 SX OpC
local macro_rules | `(tactic| walk_at "go1") => `(tactic| first
  | ((with_reducible refine' g_var ?h ?_); (case h => rfl)) | with_reducible refine' g_c ?_ | with_reducible refine' g_op ?_ | with_reducible refine' g_un ?_ | with_reducible refine' g_if ?_ | with_reducible refine' g_test ?_ | with_reducible refine' g_B ?_ | with_reducible refine' g_bl ?_
  | with_reducible refine' g_not ?_ | with_reducible refine' g_and ?_ | with_reducible refine' g_or ?_ | with_reducible refine' g_andV ?_ | with_reducible refine' g_orV ?_ | with_reducible refine' g_notV ?_ | with_reducible refine' g_nil ?_ | with_reducible refine' g_cons ?_ | with_reducible refine' g_CB ?_ | with_reducible refine' g_ca ?_
  | with_reducible refine' g_seq ?_ | with_reducible refine' g_next ?_ | with_reducible refine' g_asg ?_ | with_reducible refine' g_name ?_ | with_reducible refine' g_ret ?_ | with_reducible refine' g_retN ?_ | with_reducible refine' g_drop ?_ | with_reducible refine' g_ifS ?_ | with_reducible refine' g_sub ?_
  | with_reducible refine' g_I0 ?_ | with_reducible refine' g_U ?_ | ((with_reducible refine' g_eq ?h ?_); (case h => rfl)) | ((with_reducible refine' g_ne ?h ?_); (case h => rfl))
  | ((with_reducible refine' g_lenL ?h ?_); (case h => first | assumption | exact SqL.of (by assumption) | exact SqL.of upd_same)) | ((with_reducible refine' g_lenT ?h ?_); (case h => first | assumption | exact SqT.of (by assumption) | exact SqT.of upd_same))
  | ((with_reducible refine' g_ixL ?h ?ha ?_); (case h => first | assumption | exact SqL.of (by assumption) | exact SqL.of upd_same); (case ha => rfl)) | ((with_reducible refine' g_ixT ?h ?ha ?_); (case h => first | assumption | exact SqT.of (by assumption) | exact SqT.of upd_same); (case ha => rfl))
  | ((with_reducible refine' g_I ?h ?_); (case h => first | decide | omega | (first | refine' ⟨?_, ?_, ?_⟩ | refine' ⟨?_, ?_⟩ | refine' Or.inl ⟨?_, ?_⟩) <;> omega | (refine' Or.inr ⟨?_, ?_⟩ <;> omega)))
  | ((with_reducible refine' g_setL ?h ?ha ?_); (case h => first | assumption | exact upd_same); (case ha => rfl))
  | with_reducible refine' g_lcR ?_
  | with_reducible refine' g_M1 ?_ | with_reducible refine' g_isS ?_ | with_reducible refine' g_tyS ?_ | ((with_reducible refine' g_tyL ?h ?_); (case h => first | assumption | exact upd_same))
  | ((with_reducible refine' g_cat ?h ?h2 ?hl ?_); (case h => first | assumption | exact upd_same); (case h2 => first | assumption | exact upd_same); (case hl => first | decide | (simp; omega)))
  | with_reducible refine' g_lcS ?_
  | with_reducible refine' g_starts ?_ | with_reducible refine' g_chain ?_
  | ((with_reducible refine' g_lenS ?h ?_); (case h => first | exact len_le (by assumption) | exact len_le (by omega))) | ((with_reducible refine' g_rstrip ?h ?_); (case h => first | exact len_le (by assumption) | exact len_le (by omega))) | ((with_reducible refine' g_slX ?h ?_); (case h => first | exact len_le (by assumption) | exact len_le (by omega)))
  | with_reducible refine' g_sl ?_ | with_reducible refine' g_nopart ?_ | with_reducible refine' g_part ?_ | with_reducible refine' g_isI ?_
  | with_reducible refine' g_tru ?_
  | with_reducible refine' iteT ?_ | with_reducible refine' iteF ?_ | with_reducible refine' iteNT ?_ | with_reducible refine' iteNF ?_
  | with_reducible refine' g_int ?_ | with_reducible refine' g_insg ?_ | with_reducible refine' g_ninsg ?_ | with_reducible refine' g_isN ?_ | with_reducible refine' g_notN ?_ | with_reducible refine' g_lst ?_ | with_reducible refine' g_tup ?_ | with_reducible refine' g_BM ?_ | with_reducible refine' g_BM0 ?_)
local macro_rules | `(tactic| walk_at "go") => `(tactic| repeat' walk_at "go1")
local macro_rules | `(tactic| walk_at "go2") => `(tactic| repeat' (first | walk_at "go1" | with_reducible refine' g_cm ?_ | with_reducible refine' g_mk ?_ | with_reducible refine' g_for ?_ | ((with_reducible refine' g_rcm ?h ?ha ?_); (case h => first | assumption | exact upd_same); (case ha => first | rfl | decide | simp [List.lookup]))))
/- macro2 -/
local macro_rules | `(tactic| walk_at "go3a") => `(tactic| first
  | walk_at "go1" | with_reducible refine' g_cm ?_ | with_reducible refine' g_mk ?_ | with_reducible refine' g_for ?_ | with_reducible refine' g_fld ?_ | with_reducible refine' g_lcT0 ?_
  | ((with_reducible refine' g_rcm ?h ?ha ?_); (case h => first | assumption | exact upd_same); (case ha => first | rfl | decide | simp [List.lookup]))
  | ((with_reducible refine' g_shape ?hc ?hn ?h ?_); (case hc => assumption); (case hn => assumption); (case h => first | assumption | exact upd_same | (rw [upd_ne (by assumption)]; assumption))))
local macro_rules | `(tactic| walk_at "go3") => `(tactic| repeat' walk_at "go3a")
local macro_rules | `(tactic| walk_at "go4") => `(tactic| repeat' (first
  | walk_at "go3a" | ((with_reducible refine' iteDT ?h ?_); (case h => first | rfl | decide +kernel)) | ((with_reducible refine' iteDF ?h ?_); (case h => decide +kernel))))
/-! ## the stack of first_fault -/
abbrev En := List Nat × PyData × Bool
def PathV (H : Hp) (v : V) (p : List Nat) : Prop := ∃ a, v = .ref a ∧ H a = some (.tup (p.map fun (n : Nat) => V.int (n : Int)))
theorem PathV.same {H H' : Hp} {v : V} {p : List Nat} (h : PathV H v p) (s : Same H H') : PathV H' v p := by
  obtain ⟨a, rfl, e⟩ := h
  exact ⟨a, rfl, s _ _ e⟩
theorem PathV.tps {H H' : Hp} {v : V} {p : List Nat} (h : PathV H v p) (s : Tps H H') : PathV H' v p := by
  obtain ⟨a, rfl, e⟩ := h
  exact ⟨a, rfl, s _ _ e⟩
def FltV (H : Hp) : Option (List Nat) → V → Prop
  | none, v => v = .non
  | some p, v => PathV H v p
def tailB : PyData → Bool
  | .tuple (_ :: ks) => keyB ks
  | _ => false
def fltS : List En → Option (List Nat)
  | [] => none
  | (p, d, false) :: r => match flt d with | some q => some (p ++ q) | none => fltS r
  | (p, d, true) :: r => if tailB d = true then fltS r else some p
def GoodS : List En → Prop
  | [] => True
  | (_, d, false) :: r => flt d = none → GoodS r
  | (_, d, true) :: r => (∃ x k ys, d = .tuple [.str kLock, x, .tuple (.str k :: ys)]) ∧ (tailB d = true → GoodS r)
def kidsE (p : List Nat) : Nat → List PyData → List En
  | _, [] => []
  | i, d :: r => (p ++ [i], d, false) :: kidsE p (i + 1) r
def wtE (y : En) : Nat := if y.2.2 = true then 1 else 2 * szD y.2.1
def wtS (l : List En) : Nat := (l.map wtE).sum
theorem szD_pos : ∀ d, 0 < szD d := fun d => by cases d <;> simp [szD]
theorem wtE_pos (y : En) : 0 < wtE y := by
  unfold wtE
  have := szD_pos y.2.1
  split <;> omega
theorem wtS_len : ∀ l : List En, l.length ≤ wtS l
  | [] => Nat.le_refl _
  | x :: r => by
    have ih := wtS_len r
    have h := wtE_pos x
    show r.length + 1 ≤ wtE x + wtS r
    omega
theorem fltL_nil (i : Nat) : fltL [] i = none := by unfold fltL; rfl
theorem fltL_cons (d : PyData) (r : List PyData) (i : Nat) : fltL (d :: r) i = match flt d with | some p => some (i :: p) | none => fltL r (i + 1) := by
  conv => lhs; unfold fltL
  all_goals rfl
theorem flt_tup (k : Str) (ks : List PyData) : flt (.tuple (.str k :: ks)) = if stKs k ks = true then (if atK k = true then none else match fltL ks 1 with | some p => some p | none => if (k == kLock && !keyB ks) = true then some [] else none) else some [] := by
  conv => lhs; unfold flt
  all_goals rfl
theorem fltS_kids (p : List Nat) (r : List En) : ∀ (ks : List PyData) (i : Nat), fltS (kidsE p i ks ++ r) = match fltL ks i with | some q => some (p ++ q) | none => fltS r
  | [], i => by
    rw [fltL_nil]
    rfl
  | d :: ks, i => by
    rw [fltL_cons]
    show (match flt d with | some q => some ((p ++ [i]) ++ q) | none => fltS (kidsE p (i + 1) ks ++ r)) = _
    cases flt d with
    | some q => simp
    | none => exact fltS_kids p r ks (i + 1)
theorem good_kids (p : List Nat) (r : List En) : ∀ (ks : List PyData) (i : Nat), (fltL ks i = none → GoodS r) → GoodS (kidsE p i ks ++ r)
  | [], i, h => h (fltL_nil i)
  | d :: ks, i, h => by
    show flt d = none → GoodS (kidsE p (i + 1) ks ++ r)
    intro hd
    refine good_kids p r ks (i + 1) fun hr => h ?_
    rw [fltL_cons, hd]
    exact hr
def behE (p : List Nat) (k : Str) (ks : List PyData) : List En := if (k == kLock) = true then [(p, .tuple (.str k :: ks), true)] else []
theorem flt_shape {y : PyData} (h : flt y = none) : ∃ k ys, y = .tuple (.str k :: ys) := by
  cases y with
  | tuple ds =>
    cases ds with
    | nil => unfold flt at h; cases h
    | cons d ds =>
      cases d with
      | str k => exact ⟨k, ds, rfl⟩
      | _ => unfold flt at h; cases h
  | _ => unfold flt at h; cases h
theorem lock_two {ks : List PyData} (h : stKs kLock ks = true) : ∃ x y, ks = [x, y] := by
  have e : stKs kLock ks = (ks.length == 2) := by
    unfold stKs
    rw [if_neg (by decide +kernel), if_neg (by decide +kernel), if_pos (by decide +kernel)]
  rw [e, beq_iff_eq] at h
  match ks, h with
  | [x, y], _ => exact ⟨x, y, rfl⟩
theorem fltS_open {p : List Nat} {k : Str} {ks : List PyData} {r : List En} (hs : stKs k ks = true) (ha : atK k = false) : fltS (kidsE p 1 ks ++ (behE p k ks ++ r)) = fltS ((p, .tuple (.str k :: ks), false) :: r) := by
  rw [fltS_kids]
  show _ = match flt (.tuple (.str k :: ks)) with | some q => some (p ++ q) | none => fltS r
  rw [flt_tup, if_pos hs, if_neg (by rw [ha]; decide)]
  cases fltL ks 1 with
  | some q => rfl
  | none =>
    unfold behE
    cases hk : (k == kLock) with
    | false => rfl
    | true =>
      show (if keyB ks = true then fltS r else some p) = _
      cases hb : keyB ks with
      | true => rfl
      | false =>
        show some p = some (p ++ [])
        rw [List.append_nil]
theorem good_open {p : List Nat} {k : Str} {ks : List PyData} {r : List En} (hs : stKs k ks = true) (ha : atK k = false) (g : GoodS ((p, .tuple (.str k :: ks), false) :: r)) : GoodS (kidsE p 1 ks ++ (behE p k ks ++ r)) := by
  refine good_kids p _ ks 1 fun hn => ?_
  have g' : flt (.tuple (.str k :: ks)) = none → GoodS r := g
  rw [flt_tup, if_pos hs, if_neg (by rw [ha]; decide), hn] at g'
  unfold behE
  cases hk : (k == kLock) with
  | false =>
    rw [hk] at g'
    exact g' rfl
  | true =>
    have ek : k = kLock := beq_iff_eq.mp hk
    subst ek
    obtain ⟨x, y, rfl⟩ := lock_two hs
    have hy : flt y = none := by
      rw [fltL_cons] at hn
      cases hx : flt x with
      | some q => rw [hx] at hn; cases hn
      | none =>
        rw [hx, fltL_cons] at hn
        cases hy : flt y with
        | some q => rw [hy] at hn; cases hn
        | none => rfl
    obtain ⟨k', ys, rfl⟩ := flt_shape hy
    refine ⟨⟨x, k', ys, rfl⟩, fun hb => g' ?_⟩
    have hb' : keyB [x, .tuple (.str k' :: ys)] = true := hb
    rw [hb', hk]
    rfl
theorem wt_kids (p : List Nat) : ∀ (ks : List PyData) (i : Nat), wtS (kidsE p i ks) = 2 * szDs ks
  | [], i => by unfold szDs; rfl
  | d :: ks, i => by
    have ih := wt_kids p ks (i + 1)
    have e : szDs (d :: ks) = szD d + szDs ks := by conv => lhs; unfold szDs
    rw [e]
    show 2 * szD d + wtS (kidsE p (i + 1) ks) = _
    rw [ih]
    omega
theorem wtS_app (a b : List En) : wtS (a ++ b) = wtS a + wtS b := by
  unfold wtS
  rw [List.map_append, List.sum_append]
theorem szD_tup (ds : List PyData) : szD (.tuple ds) = szDs ds + 1 := by conv => lhs; unfold szD
theorem szDs_cons (d : PyData) (ds : List PyData) : szDs (d :: ds) = szD d + szDs ds := by conv => lhs; unfold szDs
theorem szDs_len : ∀ ds : List PyData, ds.length ≤ szDs ds
  | [] => Nat.zero_le _
  | d :: ds => by
    have := szDs_len ds
    have := szD_pos d
    rw [szDs_cons, List.length_cons]
    omega
theorem szDs_drop : ∀ (ds : List PyData) (i : Nat), szDs (ds.drop i) ≤ szDs ds
  | [], i => by rw [List.drop_nil]; exact Nat.le_refl _
  | d :: ds, 0 => Nat.le_refl _
  | d :: ds, i + 1 => by
    have := szDs_drop ds i
    rw [szDs_cons, List.drop_succ_cons]
    omega
theorem dep_mem : ∀ {ds : List PyData} {d : PyData}, d ∈ ds → d.depth ≤ PyData.depthAll ds
  | [], _, h => nomatch h
  | e :: r, d, h => by
    have e1 : PyData.depthAll (e :: r) = max e.depth (PyData.depthAll r) := by simp [PyData.depthAll]
    rw [e1]
    rcases List.mem_cons.mp h with rfl | h
    · exact Nat.le_max_left _ _
    · exact Nat.le_trans (dep_mem h) (Nat.le_max_right _ _)
theorem dep_kid {ds : List PyData} {d : PyData} (h : d ∈ ds) : d.depth + 1 ≤ (PyData.tuple ds).depth := by
  have e1 : (PyData.tuple ds).depth = PyData.depthAll ds + 1 := by simp [PyData.depth]
  have := dep_mem h
  omega
theorem pk_mem : ∀ {ds : List PyData} {d : PyData}, pkDs ds = true → d ∈ ds → pkD d = true
  | [], _, _, h => nomatch h
  | e :: r, d, hp, h => by
    have e1 : pkDs (e :: r) = (pkD e && pkDs r) := by conv => lhs; unfold pkDs
    rw [e1, Bool.and_eq_true] at hp
    rcases List.mem_cons.mp h with rfl | h
    · exact hp.1
    · exact pk_mem hp.2 h
def EnD (H0 H : Hp) (D : Nat) (v : V) (y : En) : Prop := ∃ (p q : Addr) (u : V), v = .ref p ∧ H p = some (.tup [.ref q, u, .bl y.2.2]) ∧ PathV H (.ref q) y.1 ∧ y.1.length + y.2.1.depth ≤ D ∧ ThAt H0 u y.2.1 ∧ pkD y.2.1 = true
theorem EnD.tps {H0 H H' : Hp} {D : Nat} {v : V} {y : En} (t : Tps H H') (h : EnD H0 H D v y) : EnD H0 H' D v y := by
  obtain ⟨p, q, u, rfl, e, pq, r⟩ := h
  exact ⟨p, q, u, rfl, t _ _ e, pq.tps t, r⟩
def FdW (H0 : Hp) (v : V) (d : PyData) (D M : Nat) (pl : Addr) (m : Nat) : L2.St → Hp → Prop := fun σ H => ∃ (st : List (V × En)) (x2 x3 x4 x5 : Option V), σ = [some v, some (.ref pl), x2, x3, x4, x5] ∧ Same H0 H ∧
  H pl = some (.lst (st.map (·.1)).reverse) ∧ (∀ y ∈ st, EnD H0 H D y.1 y.2) ∧ GoodS (st.map (·.2)) ∧ fltS (st.map (·.2)) = flt d ∧ m = wtS (st.map (·.2)) ∧ m ≤ M
def spFaultD : Sp := fun vs H Q _ => ∃ (v : V) (d : PyData), vs = [v] ∧ ThAt H v d ∧ pkD d = true ∧ szD d ≤ 100000 ∧ d.depth ≤ 100000 ∧ ∀ H' x, Same H H' → FltV H' (flt d) x → Q x H'
theorem kidsE_drop (p : List Nat) {ks : List PyData} {j : Nat} {d : PyData} (h : ks[j]? = some d) (i : Nat) : kidsE p (i + j) (ks.drop j) = (p ++ [i + j], d, false) :: kidsE p (i + (j + 1)) (ks.drop (j + 1)) := by
  obtain ⟨hl, rfl⟩ := List.getElem?_eq_some_iff.mp h
  rw [List.drop_eq_getElem_cons hl]
  rfl
theorem g_catP {K : PySem.W.Frag} {H : Hp} {Q : VK} {a b : Addr} {p : List Nat} {n : Nat} (ha : H a = some (.tup (p.map fun (n : Nat) => V.int (n : Int)))) (hb : H b = some (.tup [.int (n : Int)])) (hl : p.length < 1000000) (k : ∀ c H', Same H H' → H' c = some (.tup ((p ++ [n]).map fun (n : Nat) => V.int (n : Int))) → Q (.ref c) H') : rCatA K (.ref a) (.ref b) H Q :=
  ⟨a, b, _, _, rfl, rfl, SqT.of ha, SqT.of hb, by rw [List.length_map, List.length_singleton, sizeLine_eq]; omega, fun e => k b H (Same.refl _) (by rw [List.map_eq_nil_iff.mp e]; exact hb), fun _ e => absurd e (by simp), fun _ _ c hc => k c _ (Same.upd hc) (by rw [upd_same, List.map_append]; rfl)⟩
theorem ixD {k : Str} {xs : List V} {i : Nat} {x : V} (h : xs[i]? = some x) : atI (V.str k :: xs) ((i + 1 : Nat) : Int) = some x := at_of (j := i + 1) rfl (by rw [List.getElem?_cons_succ, h])
section
variable {P : Program} {w : World} {K : PySem.W.Frag} {mg : Str → Option Value} {base : Heap}
theorem ca_faultD (T : Bl K mg) (D : Df K mg "first_fault" s_first_fault p_first_fault) (c_stands_alone : Ca P w K mg base 4 "stands_alone" spStandsD) : Ca P w K mg base 5 "first_fault" spFaultD := by
  obtain ⟨aA, hA, tA⟩ := T.t_ATOMS
  have c_ATOMS : ∃ u, mg "ATOMS" = some u ∧ RelV (.ref aA) u := ⟨_, hA, rfl⟩
  obtain ⟨aK, hK, tK⟩ := T.t_KEYS
  have c_KEYS : ∃ u, mg "KEYS" = some u ∧ RelV (.ref aK) u := ⟨_, hK, rfl⟩
  refine ca_n D sc_first_fault (fun vs H Q E h => ?_) (fun f cdv A outer s H vs Q E hr h => ?_)
  · obtain ⟨v, a, rfl, _⟩ := h
    rfl
  · obtain ⟨v, d, rfl, th, pk, hz, hdp, q⟩ := h
    refine ⟨_, (pss_cons (ps_set (i := 1) sc_first_fault.nd rfl (Or.inl rfl) (pe_lst (pa_cons (pe_tup (pa_cons (pe_tup pa_nil) (pa_cons (pv 0) (pa_cons pe_bl pa_nil)))) pa_nil)))
  (pss_cons (ps_while PassesOwn.never (pq_truth (pv 1) (by intro _; rfl))
  (pss_cons (ps_asg (pe_bm0 PySem.F.plainAttrs_list PySem.F.slot_list_pop PySem.F.type_list_pop mt_pop (pv 1)) (pg_tup rfl (pgs_cons (pg_name (i := 2) sc_first_fault.nd rfl (Or.inl rfl)) (pgs_cons (pg_name (i := 3) sc_first_fault.nd rfl (Or.inl rfl)) (pgs_cons (pg_name (i := 4) sc_first_fault.nd rfl (Or.inl rfl)) pgs_nil)))))
  (pss_cons (ps_if (pt_val (pv 4))
  (pss_cons (ps_if (pt_cmpR op_notIn_seq (pe_ix ix_tup (pe_ix ix_tup (pv 3) pe_int (fun _ _ => rfl)) pe_int (fun _ _ => rfl)) (C8.pe_gc (by rfl) c_KEYS) rfl)
  (pss_one (ps_ret (pv 2)))
  pss_nil)
  (pss_one ps_continue))
  pss_nil)
  (pss_cons (ps_if (pt_not (pt_val (pe_ca c_stands_alone hr (by decide) (by rfl) (pa_cons (pv 3) pa_nil))))
  (pss_one (ps_ret (pv 2)))
  pss_nil)
  (pss_cons (ps_if (pt_cmpR op_in_seq (pe_ix ix_tup (pv 3) pe_int (fun _ _ => rfl)) (C8.pe_gc (by rfl) c_ATOMS) rfl)
  (pss_one ps_continue)
  pss_nil)
  (C8.pss_cut (ps_if (pt_cmpR op_eq (pe_ix ix_tup (pv 3) pe_int (fun _ _ => rfl)) pe_str (nomark _))
  (pss_one (ps_expr (pe_bm PySem.F.plainAttrs_list PySem.F.slot_list_append PySem.F.type_list_append mt_append (pv 1) (pa_cons (pe_tup (pa_cons (pv 2) (pa_cons (pv 3) (pa_cons pe_bl pa_nil)))) pa_nil))))
  pss_nil)
  (pss_one (ps_for PassesOwn.never rfl (pi_range3 rfl T.b_range (pa_cons (pe_op op_sub (pe_callB cq_len (by rfl) T.b_len (by decide +kernel) (pa_cons (pv 3) pa_nil)) pe_int) (pa_cons pe_int (pa_cons (pe_un un_neg pe_int) pa_nil)))) (pg_name (i := 5) sc_first_fault.nd rfl (Or.inl rfl))
  (pss_one (ps_expr (pe_bm PySem.F.plainAttrs_list PySem.F.slot_list_append PySem.F.type_list_append mt_append (pv 1) (pa_cons (pe_tup (pa_cons (pe_op op_catA (pv 2) (pe_tup (pa_cons (pv 5) pa_nil))) (pa_cons (pe_ix ix_tup (pv 3) (pv 5) (fun _ _ => rfl)) (pa_cons pe_bl pa_nil)))) pa_nil))))))))))))
  (pss_one (ps_ret pe_non)))), ?_⟩
    walk_at "go3"
    refine ⟨by show 0 ≤ sizeLine; decide, fun p0 hp0 => ?_⟩
    walk_at "go3"
    refine ⟨by show 3 ≤ sizeLine; decide, fun p1 hp1 => ?_⟩
    walk_at "go3"
    refine ⟨by show 1 ≤ sizeLine; decide, fun pl hpl => ?_⟩
    have s1 : Same H (upd H p0 (.tup [])) := Same.upd hp0
    have e0 : upd H p0 (.tup []) p0 = some (.tup []) := upd_same
    generalize upd H p0 (.tup []) = H1 at s1 e0 hp1 hpl ⊢
    have s2 : Same H1 (upd H1 p1 (.tup [.ref p0, v, .bl false])) := Same.upd hp1
    have e1 : upd H1 p1 (.tup [.ref p0, v, .bl false]) p1 = some (.tup [.ref p0, v, .bl false]) := upd_same
    generalize upd H1 p1 (.tup [.ref p0, v, .bl false]) = H2 at s2 e1 hpl ⊢
    have hplH : H pl = none := Same.non (s1.trans s2) hpl
    have s3 : Same H2 (upd H2 pl (.lst [.ref p1])) := Same.upd hpl
    have f0 : fltS [([], d, false)] = flt d := by
      show (match flt d with | some q => some ([] ++ q) | none => none) = flt d
      cases flt d <;> rfl
    walk_at "go3"
    refine g_while (FdW H v d d.depth (2 * szD d) pl) (2 * szD d) ⟨[(.ref p1, ([], d, false))], none, none, none, none, rfl, (s1.trans s2).trans s3, upd_same, fun y hy => ?_, fun _ => True.intro, f0, by simp [wtS, wtE], Nat.le_refl _⟩ ?_
    · rw [List.mem_singleton.mp hy]
      exact ⟨p1, p0, v, rfl, s3 _ _ e1, ⟨p0, rfl, s3 _ _ (s2 _ _ e0)⟩, by show 0 + d.depth ≤ d.depth; omega, th, pk⟩
    clear s3 e1 e0 s2 s1 hpl hp1 f0
    rintro m σ' H3 ⟨st, x2, x3, x4, x5, rfl, sH, ef, hst, hG, hF, hm, hM⟩
    walk_at "go3"
    refine g_truL (SqL.of ef) ?_
    cases st with
    | nil =>
      refine iteF ?_
      walk_at "go3"
      refine q _ _ sH ?_
      rw [← hF]
      rfl
    | cons hd r =>
      obtain ⟨u, y⟩ := hd
      obtain ⟨p, q', u1, rfl, e1, e2, hl, t1, pk1⟩ := hst (u, y) (List.mem_cons_self ..)
      have hr3 : ∀ y ∈ r, EnD H H3 d.depth y.1 y.2 := fun y hy => hst y (List.mem_cons_of_mem _ hy)
      have hmr : wtE y + wtS (r.map (·.2)) = m := hm.symm
      have hlr := wtS_len (r.map (·.2))
      rw [List.length_map] at hlr
      have eT : (!(List.map (fun x => x.fst) ((V.ref p, y) :: r)).reverse.isEmpty) = true := by simp
      rw [eT]
      refine iteT ⟨_, fun _ _ n => n, ?_⟩
      walk_at "go3"
      refine g_pop (xs := (r.map (·.1)).reverse) (by rw [ef, List.map_cons, List.reverse_cons]) ?_
      have tt : Tps H3 (upd H3 pl (.lst (r.map (·.1)).reverse)) := Tps.lst ef
      have e1' := tt _ _ e1
      have e2' := e2.tps tt
      have hr4 : ∀ y ∈ r, EnD H (upd H3 pl (.lst (r.map (·.1)).reverse)) d.depth y.1 y.2 := fun y hy => (hr3 y hy).tps tt
      have sH4 : Same H (upd H3 pl (.lst (r.map (·.1)).reverse)) := Same.mut sH hplH
      have ef4 : upd H3 pl (.lst (r.map (·.1)).reverse) pl = some (.lst (r.map (·.1)).reverse) := upd_same
      generalize upd H3 pl (.lst (r.map (·.1)).reverse) = H4 at e1' e2' hr4 sH4 ef4 ⊢
      clear tt hr3 e1 e2 ef sH hst eT hm
      refine ⟨_, _, rfl, SqT.of e1', rfl, _, _, rfl, ?_⟩
      refine g_name ?_
      refine ⟨_, _, rfl, ?_⟩
      refine g_name ?_
      refine ⟨_, _, rfl, ?_⟩
      refine g_name ?_
      refine ⟨rfl, ?_⟩
      obtain ⟨pt, b, fl⟩ := y
      cases fl with
      | true =>
        obtain ⟨⟨x, k, ys, hb⟩, hG'⟩ : (∃ x k ys, b = .tuple [.str kLock, x, .tuple (.str k :: ys)]) ∧ (tailB b = true → GoodS (r.map fun (x : V × En) => x.2)) := hG
        subst hb
        have hF' : (if (k == kOpen || k == kOwn) = true then fltS (r.map fun (x : V × En) => x.2) else some pt) = flt d := hF
        obtain ⟨p5, xs5, rfl, e5, l5⟩ := (t1.same sH4).tupE
        obtain ⟨z0, r0, rfl, _, l6⟩ := l5.head
        obtain ⟨z1, r1, rfl, _, l7⟩ := l6.head
        obtain ⟨z2, r2, rfl, t7, l8⟩ := l7.head
        obtain rfl := l8.no
        obtain ⟨p8, xs8, rfl, e8, l9⟩ := t7.tupE
        obtain ⟨z3, r3, rfl, t9, l10⟩ := l9.head
        cases t9 with
        | str hkl =>
          walk_at "go3"
          refine g_ixT (v := .str k) (SqT.of e8) at0 ?_
          walk_at "go3"
          refine g_ninT (tK _) rfl rfl ?_
          rw [inV_keys]
          walk_at "go3"
          refine iteB (fun h => ?_) (fun h => ?_)
          · have h' : (k == kOpen || k == kOwn) = false := by simpa using h
            rw [h'] at hF'
            walk_at "go3"
            refine q _ _ sH4 ?_
            rw [← hF']
            exact e2'
          · have h' : (k == kOpen || k == kOwn) = true := by
              cases hh : (k == kOpen || k == kOwn) with
              | true => rfl
              | false => rw [hh] at h; cases h
            rw [if_pos h'] at hF'
            walk_at "go3"
            have hw1 : wtE (pt, PyData.tuple [.str kLock, x, .tuple (.str k :: ys)], true) = 1 := rfl
            exact ⟨wtS (r.map (·.2)), by omega, r, _, _, _, _, rfl, sH4, ef4, hr4, hG' h', hF', rfl, by omega⟩
      | false =>
        walk_at "go3"
        refine ⟨u1, b, rfl, t1.same sH4, pk1, fun H5 s5 => ?_⟩
        have e25 := e2'.same s5
        have ef5 := s5 _ _ ef4
        have hr5 : ∀ y ∈ r, EnD H H5 d.depth y.1 y.2 := fun y hy => (hr4 y hy).tps (Tps.same s5)
        have sH5 := sH4.trans s5
        clear e1' e2' ef4 hr4 sH4 s5
        have hwb : 2 * szD b + wtS (r.map (·.2)) = m := hmr
        have hbp := szD_pos b
        have hG' : flt b = none → GoodS (r.map fun (x : V × En) => x.2) := hG
        have hF' : (match flt b with | some q => some (pt ++ q) | none => fltS (r.map fun (x : V × En) => x.2)) = flt d := hF
        walk_at "go3"
        refine iteB (fun h => ?_) (fun h => ?_)
        · have hsb : standsD b = false := by simpa using h
          have hfb : flt b = some [] := by
            cases b with
            | tuple ds =>
              cases ds with
              | nil => unfold flt; rfl
              | cons d0 ds =>
                cases d0 with
                | str k =>
                  rw [flt_tup, if_neg (by have hsb' : stKs k ds = false := hsb; rw [hsb']; decide)]
                | _ => unfold flt; rfl
            | _ => unfold flt; rfl
          rw [hfb] at hF'
          have hF2 : some (pt ++ []) = flt d := hF'
          rw [List.append_nil] at hF2
          walk_at "go3"
          refine q _ _ sH5 ?_
          rw [← hF2]
          exact e25
        · have hsb : standsD b = true := by
            cases hh : standsD b with
            | true => rfl
            | false => rw [hh] at h; cases h
          obtain ⟨k, ks, rfl⟩ : ∃ k ks, b = .tuple (.str k :: ks) := by
            cases b with
            | tuple ds =>
              cases ds with
              | nil => cases hsb
              | cons d0 ds =>
                cases d0 with
                | str k => exact ⟨k, ds, rfl⟩
                | _ => cases hsb
            | _ => cases hsb
          have hst : stKs k ks = true := hsb
          obtain ⟨pa, xs5, rfl, ea, l5⟩ := (t1.same sH5).tupE
          obtain ⟨pa', xs5', epa, ea0, l50⟩ := t1.tupE
          cases epa
          obtain ⟨z0, xs, rfl, h0, lk⟩ := l5.head
          obtain ⟨z0', xs', rfl, h0', lk0⟩ := l50.head
          have exs : xs = xs' ∧ z0 = z0' := by
            have := sH5 _ _ ea0
            rw [this] at ea
            injection ea with ea
            injection ea with ea
            injection ea with e1 e2
            exact ⟨e2.symm, e1.symm⟩
          obtain ⟨rfl, rfl⟩ := exs
          cases h0 with
          | str hkl =>
            walk_at "go3"
            refine g_ixT (v := .str k) (SqT.of ea) at0 ?_
            walk_at "go3"
            refine g_inT (tA _) rfl rfl ?_
            rw [inV_atoms]
            walk_at "go3"
            refine iteB (fun hk => ?_) (fun hk => ?_)
            · have hfb : flt (.tuple (.str k :: ks)) = none := by rw [flt_tup, if_pos hst, if_pos hk]
              rw [hfb] at hF'
              walk_at "go3"
              exact ⟨wtS (r.map (·.2)), by omega, r, _, _, _, _, rfl, sH5, ef5, hr5, hG' hfb, hF', rfl, by omega⟩
            · have hGo := good_open (p := pt) (r := r.map fun (x : V × En) => x.2) hst hk hG'
              have hFo := (fltS_open (p := pt) (r := r.map fun (x : V × En) => x.2) hst hk).trans hF'
              have pks : pkDs ks = true := by
                rcases (pk_tup pk1).2 with h | h
                · exact absurd h (by rw [hk]; decide)
                · exact h
              have hsz : szD (.tuple (.str k :: ks)) = 1 + szDs ks + 1 := by rw [szD_tup, szDs_cons]; rfl
              have hkl2 := szDs_len ks
              have hxl : xs.length = ks.length := lk.1
              clear hG' hF' hG hF
              walk_at "go3"
              refine ⟨fun σ' H' => ∃ (st : List (V × En)), σ' = [some v, some (.ref pl), some (.ref q'), some (.ref pa), some (.bl false), x5] ∧ Same H H' ∧ Tps H5 H' ∧ H' pl = some (.lst (st.map (·.1)).reverse) ∧ (∀ y ∈ st, EnD H H' d.depth y.1 y.2) ∧ st.map (·.2) = behE pt k ks ++ r.map (·.2), ?_, ?_⟩
              · walk_at "go3"
                refine g_ixT (v := .str k) (SqT.of ea) at0 ?_
                walk_at "go3"
                refine iteD (fun e => ?_) (fun ne => ?_)
                · have e' : k = kLock := V.str.inj e
                  walk_at "go3"
                  refine ⟨by show 3 ≤ sizeLine; decide, fun p3 hp3 => ?_⟩
                  have s6 : Same H5 (upd H5 p3 (.tup [.ref q', .ref pa, .bl true])) := Same.upd hp3
                  have e6 : upd H5 p3 (.tup [.ref q', .ref pa, .bl true]) p3 = some (.tup [.ref q', .ref pa, .bl true]) := upd_same
                  generalize upd H5 p3 (.tup [.ref q', .ref pa, .bl true]) = H6 at s6 e6 ⊢
                  have ef6 := s6 _ _ ef5
                  walk_at "go3"
                  refine g_app ef6 (by rw [List.length_reverse, List.length_map, sizeLine_eq]; omega) ?_
                  have t7 : Tps H6 (upd H6 pl (.lst ((r.map (·.1)).reverse ++ [.ref p3]))) := Tps.lst ef6
                  refine ⟨(.ref p3, (pt, .tuple (.str k :: ks), true)) :: r, rfl, Same.mut (sH5.trans s6) hplH, (Tps.same s6).trans t7, by rw [upd_same, List.map_cons, List.reverse_cons], fun y hy => ?_, ?_⟩
                  · rcases List.mem_cons.mp hy with rfl | hy
                    · exact ⟨p3, q', .ref pa, rfl, t7 _ _ e6, (e25.same s6).tps t7, hl, t1, pk1⟩
                    · exact ((hr5 y hy).tps (Tps.same s6)).tps t7
                  · unfold behE
                    rw [if_pos (by rw [e']; exact beq_self_eq_true _)]
                    rfl
                · refine ⟨r, rfl, sH5, fun _ _ z => z, ef5, hr5, ?_⟩
                  unfold behE
                  rw [if_neg (fun z => ne (congrArg V.str (beq_iff_eq.mp z)))]
                  rfl
              · rintro σ6 H6 ⟨st6, rfl, sH6, t6, ef6, hr6, hb6⟩
                have ea6 := t6 _ _ ea
                have e26 := e25.tps t6
                have hwb6 : wtS (behE pt k ks ++ r.map (·.2)) ≤ 1 + wtS (r.map (·.2)) := by
                  unfold behE
                  split
                  · exact Nat.le_refl _
                  · exact Nat.le_add_left _ _
                clear t6 ef5 hr5 e25 ea
                refine g_for3 ?_
                walk_at "go3"
                rw [show (((V.str k :: xs).length : Int) - 1) = ((ks.length : Nat) : Int) by rw [List.length_cons]; omega]
                refine r_for3 (by omega) (fun i σ' H' => ∃ (st : List (V × En)) (w5 : Option V), σ' = [some v, some (.ref pl), some (.ref q'), some (.ref pa), some (.bl false), w5] ∧ Same H H' ∧ Tps H6 H' ∧ H' pl = some (.lst (st.map (·.1)).reverse) ∧ (∀ y ∈ st, EnD H H' d.depth y.1 y.2) ∧ st.map (·.2) = kidsE pt (1 + (ks.length - i)) (ks.drop (ks.length - i)) ++ (behE pt k ks ++ r.map (·.2)))
                  ⟨st6, x5, rfl, sH6, fun _ _ z => z, ef6, hr6, by rw [Nat.sub_zero, List.drop_length]; exact hb6⟩ (fun i σ' H7 hi p7 => ?_) (fun σ' H7 p7 => ?_)
                · obtain ⟨st, w5, rfl, sH7, t7, ef7, hr7, hb7⟩ := p7
                  obtain ⟨dy, hy⟩ : ∃ dy, ks[ks.length - i - 1]? = some dy := ⟨_, List.getElem?_eq_getElem (by omega)⟩
                  obtain ⟨xy, hxy, ty⟩ := lk0.get hy
                  have hmem : dy ∈ ks := List.mem_of_getElem? hy
                  have hdy := dep_kid (List.mem_cons_of_mem (.str k) hmem)
                  have hpky := pk_mem pks hmem
                  have hwl : st.length ≤ 2 * szDs ks + (1 + wtS (r.map (·.2))) := by
                    have h1 := wtS_len (st.map (·.2))
                    rw [List.length_map, hb7, wtS_app, wt_kids] at h1
                    have h2 := szDs_drop ks (ks.length - i)
                    omega
                  have ea7 := t7 _ _ ea6
                  obtain ⟨aq, eaq, e27⟩ := e26.tps t7
                  cases eaq
                  walk_at "go3"
                  refine ⟨by show 1 ≤ sizeLine; decide, fun p8 hp8 => ?_⟩
                  have s8 : Same H7 (upd H7 p8 (.tup [.int ((ks.length - i : Nat) : Int)])) := Same.upd hp8
                  have e8 : upd H7 p8 (.tup [.int ((ks.length - i : Nat) : Int)]) p8 = some (.tup [.int ((ks.length - i : Nat) : Int)]) := upd_same
                  generalize upd H7 p8 (.tup [.int ((ks.length - i : Nat) : Int)]) = H8 at s8 e8 ⊢
                  have hl' : pt.length + (PyData.tuple (.str k :: ks)).depth ≤ d.depth := hl
                  have hks : (PyData.tuple (.str k :: ks)).depth ≤ d.depth := by omega
                  refine g_catP (s8 _ _ e27) e8 (by omega) fun p9 H9 s9 e9 => ?_
                  walk_at "go3"
                  have ea9 := s9 _ _ (s8 _ _ ea7)
                  rw [show ks.length - i = (ks.length - i - 1) + 1 by omega] at e9 ⊢
                  refine g_ixT (v := xy) (SqT.of ea9) (ixD hxy) ?_
                  walk_at "go3"
                  refine ⟨by show 3 ≤ sizeLine; decide, fun p10 hp10 => ?_⟩
                  have s10 : Same H9 (upd H9 p10 (.tup [.ref p9, xy, .bl false])) := Same.upd hp10
                  have e10 : upd H9 p10 (.tup [.ref p9, xy, .bl false]) p10 = some (.tup [.ref p9, xy, .bl false]) := upd_same
                  generalize upd H9 p10 (.tup [.ref p9, xy, .bl false]) = H10 at s10 e10 ⊢
                  have sT := s8.trans (s9.trans s10)
                  have ef10 := sT _ _ ef7
                  walk_at "go3"
                  refine g_app ef10 (by rw [List.length_reverse, List.length_map, sizeLine_eq]; omega) ?_
                  have t11 : Tps H10 (upd H10 pl (.lst ((st.map (·.1)).reverse ++ [.ref p10]))) := Tps.lst ef10
                  refine ⟨(.ref p10, (pt ++ [ks.length - i - 1 + 1], dy, false)) :: st, _, rfl, Same.mut (sH7.trans sT) hplH, t7.trans ((Tps.same sT).trans t11), by rw [upd_same, List.map_cons, List.reverse_cons], fun z hz => ?_, ?_⟩
                  · rcases List.mem_cons.mp hz with rfl | hz
                    · refine ⟨p10, p9, xy, rfl, t11 _ _ e10, ⟨p9, rfl, t11 _ _ (s10 _ _ e9)⟩, ?_, ty, hpky⟩
                      show (pt ++ [ks.length - i - 1 + 1]).length + dy.depth ≤ _
                      rw [List.length_append, List.length_singleton]
                      omega
                    · exact ((hr7 z hz).tps (Tps.same sT)).tps t11
                  · have hkd := kidsE_drop pt hy 1
                    rw [show 1 + (ks.length - (i + 1)) = 1 + (ks.length - i - 1) by omega, show ks.length - (i + 1) = ks.length - i - 1 by omega, hkd, List.map_cons, hb7]
                    rw [show ks.length - i - 1 + 1 = ks.length - i by omega, show 1 + (ks.length - i - 1) = ks.length - i by omega]
                    rfl
                · obtain ⟨st, w5, rfl, sH7, t7, ef7, hr7, hb7⟩ := p7
                  rw [Nat.sub_self, List.drop_zero, Nat.add_zero] at hb7
                  have hw7 : wtS (st.map (·.2)) ≤ 2 * szDs ks + (1 + wtS (r.map (·.2))) := by
                    rw [hb7, wtS_app, wt_kids]
                    omega
                  exact ⟨wtS (st.map (·.2)), by omega, st, _, _, _, _, rfl, sH7, ef7, hr7, by rw [hb7]; exact hGo, by rw [hb7]; exact hFo, rfl, by omega⟩
end
end Op

namespace Op
open PySem PySem.Spec PyProof.Rows L2 SX OpC
local macro_rules | `(tactic| walk_at "go1") => `(tactic| first
  | ((with_reducible refine' g_var ?h ?_); (case h => rfl)) | with_reducible refine' g_c ?_ | with_reducible refine' g_op ?_ | with_reducible refine' g_un ?_ | with_reducible refine' g_if ?_ | with_reducible refine' g_test ?_ | with_reducible refine' g_B ?_ | with_reducible refine' g_bl ?_
  | with_reducible refine' g_not ?_ | with_reducible refine' g_and ?_ | with_reducible refine' g_or ?_ | with_reducible refine' g_andV ?_ | with_reducible refine' g_orV ?_ | with_reducible refine' g_notV ?_ | with_reducible refine' g_nil ?_ | with_reducible refine' g_cons ?_ | with_reducible refine' g_CB ?_ | with_reducible refine' g_ca ?_
  | with_reducible refine' g_seq ?_ | with_reducible refine' g_next ?_ | with_reducible refine' g_asg ?_ | with_reducible refine' g_name ?_ | with_reducible refine' g_ret ?_ | with_reducible refine' g_retN ?_ | with_reducible refine' g_drop ?_ | with_reducible refine' g_ifS ?_ | with_reducible refine' g_sub ?_
  | with_reducible refine' g_I0 ?_ | with_reducible refine' g_U ?_ | ((with_reducible refine' g_eq ?h ?_); (case h => rfl)) | ((with_reducible refine' g_ne ?h ?_); (case h => rfl))
  | ((with_reducible refine' g_lenL ?h ?_); (case h => first | assumption | exact SqL.of (by assumption) | exact SqL.of upd_same)) | ((with_reducible refine' g_lenT ?h ?_); (case h => first | assumption | exact SqT.of (by assumption) | exact SqT.of upd_same))
  | ((with_reducible refine' g_ixL ?h ?ha ?_); (case h => first | assumption | exact SqL.of (by assumption) | exact SqL.of upd_same); (case ha => rfl)) | ((with_reducible refine' g_ixT ?h ?ha ?_); (case h => first | assumption | exact SqT.of (by assumption) | exact SqT.of upd_same); (case ha => rfl))
  | ((with_reducible refine' g_I ?h ?_); (case h => first | decide | omega | (first | refine' ⟨?_, ?_, ?_⟩ | refine' ⟨?_, ?_⟩ | refine' Or.inl ⟨?_, ?_⟩) <;> omega | (refine' Or.inr ⟨?_, ?_⟩ <;> omega)))
  | ((with_reducible refine' g_setL ?h ?ha ?_); (case h => first | assumption | exact upd_same); (case ha => rfl))
  | with_reducible refine' g_lcR ?_
  | with_reducible refine' g_M1 ?_ | with_reducible refine' g_isS ?_ | with_reducible refine' g_tyS ?_ | ((with_reducible refine' g_tyL ?h ?_); (case h => first | assumption | exact upd_same))
  | ((with_reducible refine' g_cat ?h ?h2 ?hl ?_); (case h => first | assumption | exact upd_same); (case h2 => first | assumption | exact upd_same); (case hl => first | decide | (simp; omega)))
  | with_reducible refine' g_lcS ?_
  | with_reducible refine' g_starts ?_ | with_reducible refine' g_chain ?_
  | ((with_reducible refine' g_lenS ?h ?_); (case h => first | exact len_le (by assumption) | exact len_le (by omega))) | ((with_reducible refine' g_rstrip ?h ?_); (case h => first | exact len_le (by assumption) | exact len_le (by omega))) | ((with_reducible refine' g_slX ?h ?_); (case h => first | exact len_le (by assumption) | exact len_le (by omega)))
  | with_reducible refine' g_sl ?_ | with_reducible refine' g_nopart ?_ | with_reducible refine' g_part ?_ | with_reducible refine' g_isI ?_
  | with_reducible refine' g_tru ?_
  | with_reducible refine' iteT ?_ | with_reducible refine' iteF ?_ | with_reducible refine' iteNT ?_ | with_reducible refine' iteNF ?_
  | with_reducible refine' g_int ?_ | with_reducible refine' g_insg ?_ | with_reducible refine' g_ninsg ?_ | with_reducible refine' g_isN ?_ | with_reducible refine' g_notN ?_ | with_reducible refine' g_lst ?_ | with_reducible refine' g_tup ?_ | with_reducible refine' g_BM ?_ | with_reducible refine' g_BM0 ?_)
local macro_rules | `(tactic| walk_at "go") => `(tactic| repeat' walk_at "go1")
local macro_rules | `(tactic| walk_at "go2") => `(tactic| repeat' (first | walk_at "go1" | with_reducible refine' g_cm ?_ | with_reducible refine' g_mk ?_ | with_reducible refine' g_for ?_ | ((with_reducible refine' g_rcm ?h ?ha ?_); (case h => first | assumption | exact upd_same); (case ha => first | rfl | decide | simp [List.lookup]))))
/- macro2 -/
local macro_rules | `(tactic| walk_at "go3a") => `(tactic| first
  | walk_at "go1" | with_reducible refine' g_cm ?_ | with_reducible refine' g_mk ?_ | with_reducible refine' g_for ?_ | with_reducible refine' g_fld ?_ | with_reducible refine' g_lcT0 ?_
  | ((with_reducible refine' g_rcm ?h ?ha ?_); (case h => first | assumption | exact upd_same); (case ha => first | rfl | decide | simp [List.lookup]))
  | ((with_reducible refine' g_shape ?hc ?hn ?h ?_); (case hc => assumption); (case hn => assumption); (case h => first | assumption | exact upd_same | (rw [upd_ne (by assumption)]; assumption))))
local macro_rules | `(tactic| walk_at "go3") => `(tactic| repeat' walk_at "go3a")
local macro_rules | `(tactic| walk_at "go4") => `(tactic| repeat' (first
  | walk_at "go3a" | ((with_reducible refine' iteDT ?h ?_); (case h => first | rfl | decide +kernel)) | ((with_reducible refine' iteDF ?h ?_); (case h => decide +kernel))))
/-! ## the tokens of a written letter -/
def Fm.toks : Fm → List (List Nat)
  | .atm k t => [atTxt k t]
  | .un k a => (k.cps.toList ++ [40]) :: (a.toks ++ [[41]])
  | .bi k a b => (k.cps.toList ++ [40]) :: (a.toks ++ ([44, 32] :: (b.toks ++ [[41]])))
/-! the text behind each of the three changes -/
def Fm.tx1 : Fm → List Nat
  | .atm k t => atTxt k t
  | .un k a => k.cps.toList ++ ([40, 10] ++ (a.tx1 ++ [41]))
  | .bi k a b => k.cps.toList ++ ([40, 10] ++ (a.tx1 ++ ([44, 32] ++ (b.tx1 ++ [41]))))
def Fm.tx2 : Fm → List Nat
  | .atm k t => atTxt k t
  | .un k a => k.cps.toList ++ ([40, 10] ++ (a.tx2 ++ [41]))
  | .bi k a b => k.cps.toList ++ ([40, 10] ++ (a.tx2 ++ ([10, 44, 32, 10] ++ (b.tx2 ++ [41]))))
def Fm.tx3 : Fm → List Nat
  | .atm k t => atTxt k t
  | .un k a => k.cps.toList ++ ([40, 10] ++ (a.tx3 ++ [10, 41]))
  | .bi k a b => k.cps.toList ++ ([40, 10] ++ (a.tx3 ++ ([10, 44, 32, 10] ++ (b.tx3 ++ [10, 41]))))
/-- no sign of these parts a text -/
def plainL (l : List Nat) : Prop := ∀ c ∈ l, c ≠ 40 ∧ c ≠ 41 ∧ c ≠ 44 ∧ c ≠ 10
theorem plain_un {k : Str} (h : unK k = true) : plainL k.cps.toList := by
  simp only [unK, Bool.or_eq_true, beq_iff_eq] at h
  unfold plainL
  rcases h with (rfl | rfl) | rfl <;> decide +kernel
theorem plain_bi {k : Str} (h : biK k = true) : plainL k.cps.toList := by
  simp only [biK, Bool.or_eq_true, beq_iff_eq] at h
  unfold plainL
  rcases h with (rfl | rfl) | rfl <;> decide +kernel
theorem small_plain : ∀ c ∈ smallL, c ≠ 40 ∧ c ≠ 41 ∧ c ≠ 44 ∧ c ≠ 10 := by decide +kernel
theorem cap_plain : ∀ c ∈ capL, c ≠ 40 ∧ c ≠ 41 ∧ c ≠ 44 ∧ c ≠ 10 := by decide +kernel
theorem dig_plain : ∀ c ∈ digL, c ≠ 40 ∧ c ≠ 41 ∧ c ≠ 44 ∧ c ≠ 10 := by decide +kernel
theorem name_plain {t : List Nat} (h : isNameB t = true) : ∀ c ∈ t, c ≠ 40 ∧ c ≠ 41 ∧ c ≠ 44 ∧ c ≠ 10 := by
  have h8 : t.length ≤ 8 := by
    have h' := h
    simp only [isNameB, Bool.and_eq_true, decide_eq_true_eq] at h'
    exact h'.2.1
  obtain ⟨_, h2, h3⟩ := (name_iff h8).mp h
  intro c hc
  rw [← List.take_append_drop (t.filter fun c => decide (c ∈ capL)).length t] at hc
  rcases List.mem_append.mp hc with hc | hc
  · exact cap_plain c (allIn_mem h2 c hc)
  · exact dig_plain c (allIn_mem h3 c hc)
theorem plain_atm {k : Str} {t : List Nat} (h : (Fm.atm k t).ok = true) : plainL (atTxt k t) := by
  have ht : ∀ c ∈ t, c ≠ 40 ∧ c ≠ 41 ∧ c ≠ 44 ∧ c ≠ 10 := by
    simp only [Fm.ok, Bool.or_eq_true, Bool.and_eq_true, beq_iff_eq] at h
    rcases h with ⟨rfl, h⟩ | ⟨rfl, h⟩ | ⟨rfl, h⟩
    · have hs : allIn t smallL = true := by
        unfold isWordB at h
        simp only [Bool.and_eq_true] at h
        exact h.2.2
      exact fun c hc => small_plain c (allIn_mem hs c hc)
    · exact name_plain h
    · have hs : allIn t smallL = true := by
        unfold isUnkB at h
        simp only [Bool.and_eq_true] at h
        exact h.2.2
      exact fun c hc => small_plain c (allIn_mem hs c hc)
  unfold atTxt
  split
  · intro c hc
    rcases List.mem_cons.mp hc with rfl | hc
    · decide
    · exact ht c hc
  · exact ht
theorem repl_miss {d : Nat} {y z : List Nat} : ∀ (l r : List Nat), (∀ c ∈ l, c ≠ d) → StrLaws.replL (d :: y) z (l ++ r) = l ++ StrLaws.replL (d :: y) z r
  | [], _, _ => rfl
  | c :: l, r, h => by
    have e : StrLaws.replL (d :: y) z (c :: (l ++ r)) = c :: StrLaws.replL (d :: y) z (l ++ r) := StrLaws.replL_miss (fun q => by
      rw [List.length_cons, List.take_succ_cons] at q
      injection q with q1 q2
      exact h c (List.mem_cons_self ..) q1)
    show StrLaws.replL (d :: y) z (c :: (l ++ r)) = c :: (l ++ StrLaws.replL (d :: y) z r)
    rw [e, repl_miss l r fun c hc => h c (List.mem_cons_of_mem _ hc)]
theorem repl_hit (d : Nat) (y z r : List Nat) : StrLaws.replL (d :: y) z ((d :: y) ++ r) = z ++ StrLaws.replL (d :: y) z r := by
  have e : (d :: (y ++ r)).take (d :: y).length = d :: y := by
    rw [List.length_cons, List.take_succ_cons, List.take_left]
  have e2 : (d :: (y ++ r)).drop (d :: y).length = r := by
    rw [List.length_cons, List.drop_succ_cons, List.drop_left]
  show StrLaws.replL (d :: y) z (d :: (y ++ r)) = _
  rw [StrLaws.replL_hit (by simp) e, e2]
theorem tx1_of : ∀ {a : Fm}, a.ok = true → ∀ l, StrLaws.replL [40] [40, 10] (a.txt ++ l) = a.tx1 ++ StrLaws.replL [40] [40, 10] l
  | .atm k t, h, l => repl_miss _ _ fun c hc => (plain_atm h c hc).1
  | .un k a, h, l => by
    simp only [Fm.ok, Bool.and_eq_true] at h
    have e : (Fm.un k a).txt ++ l = k.cps.toList ++ ([40] ++ (a.txt ++ ([41] ++ l))) := by simp [Fm.txt]
    rw [e, repl_miss _ _ (fun c hc => (plain_un h.1 c hc).1), repl_hit, tx1_of h.2, repl_miss [41] l (by decide)]
    simp [Fm.tx1]
  | .bi k a b, h, l => by
    simp only [Fm.ok, Bool.and_eq_true] at h
    have e : (Fm.bi k a b).txt ++ l = k.cps.toList ++ ([40] ++ (a.txt ++ ([44, 32] ++ (b.txt ++ ([41] ++ l))))) := by simp [Fm.txt]
    rw [e, repl_miss _ _ (fun c hc => (plain_bi h.1 c hc).1), repl_hit, tx1_of h.2.2.1, repl_miss [44, 32] _ (by decide), tx1_of h.2.2.2, repl_miss [41] l (by decide)]
    simp [Fm.tx1]
theorem tx2_of : ∀ {a : Fm}, a.ok = true → ∀ l, StrLaws.replL [44, 32] [10, 44, 32, 10] (a.tx1 ++ l) = a.tx2 ++ StrLaws.replL [44, 32] [10, 44, 32, 10] l
  | .atm k t, h, l => repl_miss _ _ fun c hc => (plain_atm h c hc).2.2.1
  | .un k a, h, l => by
    simp only [Fm.ok, Bool.and_eq_true] at h
    have e : (Fm.un k a).tx1 ++ l = k.cps.toList ++ ([40, 10] ++ (a.tx1 ++ ([41] ++ l))) := by simp [Fm.tx1]
    rw [e, repl_miss _ _ (fun c hc => (plain_un h.1 c hc).2.2.1), repl_miss [40, 10] _ (by decide), tx2_of h.2, repl_miss [41] l (by decide)]
    simp [Fm.tx2]
  | .bi k a b, h, l => by
    simp only [Fm.ok, Bool.and_eq_true] at h
    have e : (Fm.bi k a b).tx1 ++ l = k.cps.toList ++ ([40, 10] ++ (a.tx1 ++ ([44, 32] ++ (b.tx1 ++ ([41] ++ l))))) := by simp [Fm.tx1]
    rw [e, repl_miss _ _ (fun c hc => (plain_bi h.1 c hc).2.2.1), repl_miss [40, 10] _ (by decide), tx2_of h.2.2.1, repl_hit, tx2_of h.2.2.2, repl_miss [41] l (by decide)]
    simp [Fm.tx2]
theorem tx3_of : ∀ {a : Fm}, a.ok = true → ∀ l, StrLaws.replL [41] [10, 41] (a.tx2 ++ l) = a.tx3 ++ StrLaws.replL [41] [10, 41] l
  | .atm k t, h, l => repl_miss _ _ fun c hc => (plain_atm h c hc).2.1
  | .un k a, h, l => by
    simp only [Fm.ok, Bool.and_eq_true] at h
    have e : (Fm.un k a).tx2 ++ l = k.cps.toList ++ ([40, 10] ++ (a.tx2 ++ ([41] ++ l))) := by simp [Fm.tx2]
    rw [e, repl_miss _ _ (fun c hc => (plain_un h.1 c hc).2.1), repl_miss [40, 10] _ (by decide), tx3_of h.2, repl_hit]
    simp [Fm.tx3]
  | .bi k a b, h, l => by
    simp only [Fm.ok, Bool.and_eq_true] at h
    have e : (Fm.bi k a b).tx2 ++ l = k.cps.toList ++ ([40, 10] ++ (a.tx2 ++ ([10, 44, 32, 10] ++ (b.tx2 ++ ([41] ++ l))))) := by simp [Fm.tx2]
    rw [e, repl_miss _ _ (fun c hc => (plain_bi h.1 c hc).2.1), repl_miss [40, 10] _ (by decide), tx3_of h.2.2.1, repl_miss [10, 44, 32, 10] _ (by decide), tx3_of h.2.2.2, repl_hit]
    simp [Fm.tx3]
theorem spl_on : ∀ (u acc l : List Nat), (∀ c ∈ u, c ≠ 10) → TL.spl [10] 0 acc (u ++ 10 :: l) = (acc ++ u) :: TL.spl [10] 0 [] l
  | [], acc, l, _ => by
    have e : TL.spl [10] 0 acc (10 :: l) = acc :: TL.spl [10] 0 [] l := TL.spl_hit (TL.pre_self [10] l)
    rw [List.append_nil]
    exact e
  | c :: u, acc, l, h => by
    have e : TL.spl [10] 0 acc (c :: (u ++ 10 :: l)) = TL.spl [10] 0 (acc ++ [c]) (u ++ 10 :: l) := TL.spl_miss (TL.pre_of_head [] _ (h c (List.mem_cons_self ..)))
    show TL.spl [10] 0 acc (c :: (u ++ 10 :: l)) = _
    rw [e, spl_on u _ l fun c hc => h c (List.mem_cons_of_mem _ hc), List.append_assoc]
    rfl
theorem spl_end : ∀ (u acc : List Nat), (∀ c ∈ u, c ≠ 10) → TL.spl [10] 0 acc u = [acc ++ u]
  | [], acc, _ => by rw [TL.spl_nil, List.append_nil]
  | c :: u, acc, h => by
    rw [TL.spl_miss (TL.pre_of_head [] _ (h c (List.mem_cons_self ..))), spl_end u _ fun c hc => h c (List.mem_cons_of_mem _ hc), List.append_assoc]
    rfl
theorem head_10 {k : List Nat} (h : plainL k) : ∀ c ∈ k ++ [40], c ≠ 10 := fun c hc => by
  rcases List.mem_append.mp hc with hc | hc
  · exact (h c hc).2.2.2
  · rw [List.mem_singleton.mp hc]
    decide
theorem toks_on : ∀ {a : Fm}, a.ok = true → ∀ l, TL.spl [10] 0 [] (a.tx3 ++ 10 :: l) = a.toks ++ TL.spl [10] 0 [] l
  | .atm k t, h, l => spl_on _ [] l fun c hc => (plain_atm h c hc).2.2.2
  | .un k a, h, l => by
    simp only [Fm.ok, Bool.and_eq_true] at h
    have e : (Fm.un k a).tx3 ++ 10 :: l = (k.cps.toList ++ [40]) ++ 10 :: (a.tx3 ++ 10 :: ([41] ++ 10 :: l)) := by simp [Fm.tx3]
    rw [e, spl_on _ _ _ (head_10 (plain_un h.1)), toks_on h.2, spl_on [41] _ _ (by decide)]
    simp [Fm.toks]
  | .bi k a b, h, l => by
    simp only [Fm.ok, Bool.and_eq_true] at h
    have e : (Fm.bi k a b).tx3 ++ 10 :: l = (k.cps.toList ++ [40]) ++ 10 :: (a.tx3 ++ 10 :: ([44, 32] ++ 10 :: (b.tx3 ++ 10 :: ([41] ++ 10 :: l)))) := by simp [Fm.tx3]
    rw [e, spl_on _ _ _ (head_10 (plain_bi h.1)), toks_on h.2.2.1, spl_on [44, 32] _ _ (by decide), toks_on h.2.2.2, spl_on [41] _ _ (by decide)]
    simp [Fm.toks]
theorem toks_all : ∀ {a : Fm}, a.ok = true → TL.spl [10] 0 [] a.tx3 = a.toks
  | .atm k t, h => spl_end _ [] fun c hc => (plain_atm h c hc).2.2.2
  | .un k a, h => by
    simp only [Fm.ok, Bool.and_eq_true] at h
    have e : (Fm.un k a).tx3 = (k.cps.toList ++ [40]) ++ 10 :: (a.tx3 ++ 10 :: [41]) := by simp [Fm.tx3]
    rw [e, spl_on _ _ _ (head_10 (plain_un h.1)), toks_on h.2, spl_end [41] _ (by decide)]
    simp [Fm.toks]
  | .bi k a b, h => by
    simp only [Fm.ok, Bool.and_eq_true] at h
    have e : (Fm.bi k a b).tx3 = (k.cps.toList ++ [40]) ++ 10 :: (a.tx3 ++ 10 :: ([44, 32] ++ 10 :: (b.tx3 ++ 10 :: [41]))) := by simp [Fm.tx3]
    rw [e, spl_on _ _ _ (head_10 (plain_bi h.1)), toks_on h.2.2.1, spl_on [44, 32] _ _ (by decide), toks_on h.2.2.2, spl_end [41] _ (by decide)]
    simp [Fm.toks]
theorem repl_S {u y' z' : List Nat} {y z : Str} (hy : y.cps.toList = y') (hz : z.cps.toList = z') (h1 : 1 ≤ y.length) : Txt.replace (S u) y z = S (StrLaws.replL y' z' u) := by
  refine TL.ext_tl ?_
  show (Txt.replace (S u) y z).cps.toList = StrLaws.replL y' z' u
  rw [StrLaws.replace_list h1, hy, hz]
theorem split_toks {a : Fm} (h : a.ok = true) : Txt.split (Txt.replace (Txt.replace (Txt.replace (S a.txt) (Str.ofString "(") (Str.ofString "(\n")) (Str.ofString ", ") (Str.ofString "\n, \n")) (Str.ofString ")") (Str.ofString "\n)")) (Str.ofString "\n") = a.toks.map S := by
  have n0 : ∀ y z, StrLaws.replL y z [] = [] := fun y z => StrLaws.replL_nil
  have e1 : StrLaws.replL [40] [40, 10] a.txt = a.tx1 := by
    have z := tx1_of h []
    rw [List.append_nil, n0, List.append_nil] at z
    exact z
  have e2 : StrLaws.replL [44, 32] [10, 44, 32, 10] a.tx1 = a.tx2 := by
    have z := tx2_of h []
    rw [List.append_nil, n0, List.append_nil] at z
    exact z
  have e3 : StrLaws.replL [41] [10, 41] a.tx2 = a.tx3 := by
    have z := tx3_of h []
    rw [List.append_nil, n0, List.append_nil] at z
    exact z
  rw [repl_S (u := a.txt) (y' := [40]) (z' := [40, 10]) (by decide +kernel) (by decide +kernel) (by decide +kernel), e1, repl_S (u := a.tx1) (y' := [44, 32]) (z' := [10, 44, 32, 10]) (by decide +kernel) (by decide +kernel) (by decide +kernel), e2,
    repl_S (u := a.tx2) (y' := [41]) (z' := [10, 41]) (by decide +kernel) (by decide +kernel) (by decide +kernel), e3]
  refine TL.map_tl_inj ?_
  rw [TL.split_spl _ _ (by decide +kernel) (TL.kind_ok (by decide +kernel)), show TL.tl (Str.ofString "\n") = [10] by decide +kernel, show TL.tl (S a.tx3) = a.tx3 from rfl, toks_all h, List.map_map]
  exact (List.map_id' _).symm
/-! ### the def -/
theorem pst_set {X : Cx} {i : Nat} {x : Str} {e : Expr} {te : TE} {pos' pos : Pos} (hN : X.N.Nodup) (hi : X.N[i]? = some x) (hx : Loc X.env.scope x) (he : PET X e te) (hs : swapsWith e (some (.Name x pos')) pos.line X.env = pure false := by rfl)
    (hf : X.fn x = true ∨ X.env.scope.names.lookup x = some .local := by first | exact .inl rfl | exact .inr rfl | assumption) : PST X (.Assign [.Name x pos'] e pos) (tAsg te (gName i)) := by
  intro pins s σ H D h0 I h
  refine wpAny_Assign_Name (thn (he pins s σ H _ h0 I h) fun v s1 ⟨y, H1, I1, r1, q1⟩ => ?_) hs
  exact store_ok I1 hN hi hx r1 (fun s2 I2 => ⟨_, H1, I2, q1⟩) hf
theorem fnT {P : Program} {w : World} {K : PySem.W.Frag} {mg : Str → Option Value} {base : Heap} {x qual : Str} {st : Stmt} {f : Addr} {fd : FuncData} {N ps : List Str} {k : Nat} {sp : Sp} (F : Fun K x qual st f fd) (S : FnScope N ps (defScope st)) (hnc : ∀ y ∈ (defScope st).names, y.2 ≠ .cell) (hps : 1 ≤ ps.length) (len : ∀ vs H Q E, sp vs H Q E → vs.length = ps.length)
    (hb : ∀ (f : Addr) (cdv : Value) (A : Around) (outer : List Env) (s : Shared) (H : Hp) (vs : List V) (Q : VK) (E : XK), Room k (A.deeper (envOfC qual (defScope st) s.heap.objs.size f cdv)) → sp vs H Q E →
      ∃ t, PSsT (cxOf (L2.CX P w) P w K mg base N qual (defScope st) f cdv A outer s H E) (defBody st) t ∧ t { nx := fun _ H' => Q .non H', rt := Q } (start N vs) H) : FnOk P w K mg base (L2.CX P w) (k + 1) f fd ps sp := by
  obtain ⟨oc, od, kV, doc, pm, an, cdv, ct, osl, rfl, lk, hcd⟩ := F.ex
  exact fn_ofT lk hcd S hnc hps len fun A outer s H vs Q E hr hsp => hb f cdv A outer s H vs Q E hr hsp
def spTokens : Sp := fun vs H Q _ => ∃ a : Fm, vs = [.str (S a.txt)] ∧ a.ok = true ∧ a.size ≤ 2000 ∧ ∀ p H', Same H H' → H p = none → H' p = some (.lst (a.toks.map fun t => .str (S t))) → Q (.ref p) H'
theorem repl_lenS (u y' z' : List Nat) (y z : Str) (hy : y.cps.toList = y') (hz : z.cps.toList = z') (h1 : 1 ≤ y.length) : (StrLaws.replL y' z' u).length ≤ u.length + (u.length + 1) * z.length := by
  have h := TK.replace_len (S u) y z
  rw [repl_S hy hz h1, S_len, S_len] at h
  exact h
theorem ca_tokens {P : Program} {w : World} {K : PySem.W.Frag} {mg : Str → Option Value} {base : Heap} (D : Df K mg "tokens" s_tokens p_tokens) : Ca P w K mg base 1 "tokens" spTokens := by
  obtain ⟨f, fd, F, hm, b⟩ := D.ex
  refine ⟨f, fd, _, fnT F sc_tokens (by decide +kernel) (by decide) (fun vs H Q E h => ?_) (fun f cdv A outer s H vs Q E hr h => ?_), hm, F.kp, b⟩
  · obtain ⟨a, rfl, _⟩ := h
    rfl
  · obtain ⟨a, rfl, ok, hz, q⟩ := h
    have hl : a.txt.length ≤ 20 * a.size := Fm.txt_len (Fm.ok_kin ok) (Fm.ok_small ok)
    have e0 : (Str.ofString "(\n").length = 2 := by decide +kernel
    have e1 : (Str.ofString "\n, \n").length = 4 := by decide +kernel
    have e2 : (Str.ofString "\n)").length = 2 := by decide +kernel
    have l1 := TK.replace_len (S a.txt) (Str.ofString "(") (Str.ofString "(\n")
    have l2 := TK.replace_len (Txt.replace (S a.txt) (Str.ofString "(") (Str.ofString "(\n")) (Str.ofString ", ") (Str.ofString "\n, \n")
    have l3 := TK.replace_len (Txt.replace (Txt.replace (S a.txt) (Str.ofString "(") (Str.ofString "(\n")) (Str.ofString ", ") (Str.ofString "\n, \n")) (Str.ofString ")") (Str.ofString "\n)")
    have e3 : (S a.txt).length = a.txt.length := S_len _
    rw [e0] at l1
    rw [e1] at l2
    rw [e2] at l3
    refine ⟨_, psst_cons (pst_set (i := 1) sc_tokens.nd rfl (Or.inl rfl) (CwR.pet_replT (CwR.pet_replT (CwR.pet_replC (pv 0))))) (PSsT.of (pss_one (ps_ret (pe_split (pv 1) pe_str)))), ?_⟩
    refine ⟨_, rfl, _, rfl, ?_, _, rfl, ?_, _, rfl, ?_, ?_⟩
    · rw [e0]
      omega
    · rw [e1]
      omega
    · rw [e2]
      omega
    refine ⟨_, rfl, ⟨_, rfl⟩, _, _, rfl, rfl, by decide +kernel, ?_, fun p hp => ?_⟩
    · rw [sizeLine_eq]
      omega
    · rw [split_toks ok, List.map_map]
      exact q p _ (Same.upd hp) hp upd_same
end Op

namespace Op
open PySem PySem.Spec PyProof.Rows L2 SX OpC
local macro_rules | `(tactic| walk_at "go1") => `(tactic| first
  | ((with_reducible refine' g_var ?h ?_); (case h => rfl)) | with_reducible refine' g_c ?_ | with_reducible refine' g_op ?_ | with_reducible refine' g_un ?_ | with_reducible refine' g_if ?_ | with_reducible refine' g_test ?_ | with_reducible refine' g_B ?_ | with_reducible refine' g_bl ?_
  | with_reducible refine' g_not ?_ | with_reducible refine' g_and ?_ | with_reducible refine' g_or ?_ | with_reducible refine' g_andV ?_ | with_reducible refine' g_orV ?_ | with_reducible refine' g_notV ?_ | with_reducible refine' g_nil ?_ | with_reducible refine' g_cons ?_ | with_reducible refine' g_CB ?_ | with_reducible refine' g_ca ?_
  | with_reducible refine' g_seq ?_ | with_reducible refine' g_next ?_ | with_reducible refine' g_asg ?_ | with_reducible refine' g_name ?_ | with_reducible refine' g_ret ?_ | with_reducible refine' g_retN ?_ | with_reducible refine' g_drop ?_ | with_reducible refine' g_ifS ?_ | with_reducible refine' g_sub ?_
  | with_reducible refine' g_I0 ?_ | with_reducible refine' g_U ?_ | ((with_reducible refine' g_eq ?h ?_); (case h => rfl)) | ((with_reducible refine' g_ne ?h ?_); (case h => rfl))
  | ((with_reducible refine' g_lenL ?h ?_); (case h => first | assumption | exact SqL.of (by assumption) | exact SqL.of upd_same)) | ((with_reducible refine' g_lenT ?h ?_); (case h => first | assumption | exact SqT.of (by assumption) | exact SqT.of upd_same))
  | ((with_reducible refine' g_ixL ?h ?ha ?_); (case h => first | assumption | exact SqL.of (by assumption) | exact SqL.of upd_same); (case ha => rfl)) | ((with_reducible refine' g_ixT ?h ?ha ?_); (case h => first | assumption | exact SqT.of (by assumption) | exact SqT.of upd_same); (case ha => rfl))
  | ((with_reducible refine' g_I ?h ?_); (case h => first | decide | omega | (first | refine' ⟨?_, ?_, ?_⟩ | refine' ⟨?_, ?_⟩ | refine' Or.inl ⟨?_, ?_⟩) <;> omega | (refine' Or.inr ⟨?_, ?_⟩ <;> omega)))
  | ((with_reducible refine' g_setL ?h ?ha ?_); (case h => first | assumption | exact upd_same); (case ha => rfl))
  | with_reducible refine' g_lcR ?_
  | with_reducible refine' g_M1 ?_ | with_reducible refine' g_isS ?_ | with_reducible refine' g_tyS ?_ | ((with_reducible refine' g_tyL ?h ?_); (case h => first | assumption | exact upd_same))
  | ((with_reducible refine' g_cat ?h ?h2 ?hl ?_); (case h => first | assumption | exact upd_same); (case h2 => first | assumption | exact upd_same); (case hl => first | decide | (simp; omega)))
  | with_reducible refine' g_lcS ?_
  | with_reducible refine' g_starts ?_ | with_reducible refine' g_chain ?_
  | ((with_reducible refine' g_lenS ?h ?_); (case h => first | exact len_le (by assumption) | exact len_le (by omega))) | ((with_reducible refine' g_rstrip ?h ?_); (case h => first | exact len_le (by assumption) | exact len_le (by omega))) | ((with_reducible refine' g_slX ?h ?_); (case h => first | exact len_le (by assumption) | exact len_le (by omega)))
  | with_reducible refine' g_sl ?_ | with_reducible refine' g_nopart ?_ | with_reducible refine' g_part ?_ | with_reducible refine' g_isI ?_
  | with_reducible refine' g_tru ?_
  | with_reducible refine' iteT ?_ | with_reducible refine' iteF ?_ | with_reducible refine' iteNT ?_ | with_reducible refine' iteNF ?_
  | with_reducible refine' g_int ?_ | with_reducible refine' g_insg ?_ | with_reducible refine' g_ninsg ?_ | with_reducible refine' g_isN ?_ | with_reducible refine' g_notN ?_ | with_reducible refine' g_lst ?_ | with_reducible refine' g_tup ?_ | with_reducible refine' g_BM ?_ | with_reducible refine' g_BM0 ?_)
local macro_rules | `(tactic| walk_at "go") => `(tactic| repeat' walk_at "go1")
local macro_rules | `(tactic| walk_at "go2") => `(tactic| repeat' (first | walk_at "go1" | with_reducible refine' g_cm ?_ | with_reducible refine' g_mk ?_ | with_reducible refine' g_for ?_ | ((with_reducible refine' g_rcm ?h ?ha ?_); (case h => first | assumption | exact upd_same); (case ha => first | rfl | decide | simp [List.lookup]))))
/- macro2 -/
local macro_rules | `(tactic| walk_at "go3a") => `(tactic| first
  | walk_at "go1" | with_reducible refine' g_cm ?_ | with_reducible refine' g_mk ?_ | with_reducible refine' g_for ?_ | with_reducible refine' g_fld ?_ | with_reducible refine' g_lcT0 ?_
  | ((with_reducible refine' g_rcm ?h ?ha ?_); (case h => first | assumption | exact upd_same); (case ha => first | rfl | decide | simp [List.lookup]))
  | ((with_reducible refine' g_shape ?hc ?hn ?h ?_); (case hc => assumption); (case hn => assumption); (case h => first | assumption | exact upd_same | (rw [upd_ne (by assumption)]; assumption))))
local macro_rules | `(tactic| walk_at "go3") => `(tactic| repeat' walk_at "go3a")
local macro_rules | `(tactic| walk_at "go4") => `(tactic| repeat' (first
  | walk_at "go3a" | ((with_reducible refine' iteDT ?h ?_); (case h => first | rfl | decide +kernel)) | ((with_reducible refine' iteDF ?h ?_); (case h => decide +kernel))))
/-! ## a written letter is read -/
abbrev Fr := Option Str × List Fm
/-- these tokens lead from these frames (the last one first) to the form -/
inductive Leads : Bool → List Fr → List (List Nat) → Fm → Prop where
  | done {a : Fm} : Leads false [(none, [a])] [] a
  | atom {o : Option Str} {fs : List Fm} {r : List Fr} {k : Str} {t tk : List Nat} {ts : List (List Nat)} {a : Fm} : kindOf tk = some (k, t) → tk.length < 1000000 → Leads false ((o, fs ++ [.atm k t]) :: r) ts a → Leads true ((o, fs) :: r) (tk :: ts) a
  | head {r : List Fr} {k : Str} {ts : List (List Nat)} {a : Fm} : (unK k || biK k) = true → Leads true ((some k, []) :: r) ts a → Leads true r ((k.cps.toList ++ [40]) :: ts) a
  | comma {r : List Fr} {ts : List (List Nat)} {a : Fm} : Leads true r ts a → Leads false r ([44, 32] :: ts) a
  | un {o : Option Str} {k : Str} {b : Fm} {fs : List Fm} {r : List Fr} {ts : List (List Nat)} {a : Fm} : Leads false ((o, fs ++ [.un k b]) :: r) ts a → Leads false ((some k, [b]) :: (o, fs) :: r) ([41] :: ts) a
  | bi {o : Option Str} {k : Str} {b c : Fm} {fs : List Fm} {r : List Fr} {ts : List (List Nat)} {a : Fm} : Leads false ((o, fs ++ [.bi k b c]) :: r) ts a → Leads false ((some k, [b, c]) :: (o, fs) :: r) ([41] :: ts) a
theorem leads_of : ∀ {a : Fm}, a.ok = true → ∀ {o : Option Str} {fs : List Fm} {r : List Fr} {ts : List (List Nat)} {c : Fm}, Leads false ((o, fs ++ [a]) :: r) ts c → Leads true ((o, fs) :: r) (a.toks ++ ts) c
  | .atm k t, h, o, fs, r, ts, c, l => by
    have hs : t.length ≤ 8 := Fm.ok_small h
    have hl := atTxt_len (k := k) (t := t)
    exact .atom (kind_txt h) (by omega) l
  | .un k a, h, o, fs, r, ts, c, l => by
    simp only [Fm.ok, Bool.and_eq_true] at h
    have e : (Fm.un k a).toks ++ ts = (k.cps.toList ++ [40]) :: (a.toks ++ ([41] :: ts)) := by simp [Fm.toks]
    rw [e]
    exact .head (by rw [h.1]; rfl) (leads_of h.2 (fs := []) (.un l))
  | .bi k a b, h, o, fs, r, ts, c, l => by
    simp only [Fm.ok, Bool.and_eq_true] at h
    have e : (Fm.bi k a b).toks ++ ts = (k.cps.toList ++ [40]) :: (a.toks ++ ([44, 32] :: (b.toks ++ ([41] :: ts)))) := by simp [Fm.toks]
    rw [e]
    exact .head (by rw [h.1, Bool.or_true]) (leads_of h.2.2.1 (fs := []) (.comma (leads_of h.2.2.2 (fs := [a]) (.bi l))))
theorem leads_all {a : Fm} (h : a.ok = true) : Leads true [(none, [])] a.toks a := by
  have l := leads_of h (o := none) (fs := []) (r := []) (ts := []) Leads.done
  rw [List.append_nil] at l
  exact l
theorem toks_len : ∀ a : Fm, a.toks.length ≤ 3 * a.size
  | .atm _ _ => by simp [Fm.toks, Fm.size]
  | .un _ a => by
    have := toks_len a
    simp only [Fm.toks, Fm.size, List.length_cons, List.length_append, List.length_nil]
    omega
  | .bi _ a b => by
    have := toks_len a
    have := toks_len b
    simp only [Fm.toks, Fm.size, List.length_cons, List.length_append, List.length_nil]
    omega
theorem kind_head {k : Str} (h : (unK k || biK k) = true) : kindOf (k.cps.toList ++ [40]) = none := by
  simp only [unK, biK, Bool.or_eq_true, beq_iff_eq] at h
  rcases h with ((rfl | rfl) | rfl) | ((rfl | rfl) | rfl) <;> decide +kernel
theorem kind_comma : kindOf [44, 32] = none := by decide +kernel
theorem kind_close : kindOf [41] = none := by decide +kernel
theorem txt_10 : ∀ {a : Fm}, a.ok = true → ∀ c ∈ a.txt, c ≠ 10
  | .atm k t, h, c, hc => (plain_atm h c hc).2.2.2
  | .un k a, h, c, hc => by
    simp only [Fm.ok, Bool.and_eq_true] at h
    simp only [Fm.txt, List.mem_append, List.mem_singleton] at hc
    rcases hc with ((hc | rfl) | hc) | rfl
    · exact (plain_un h.1 c hc).2.2.2
    · decide
    · exact txt_10 h.2 c hc
    · decide
  | .bi k a b, h, c, hc => by
    simp only [Fm.ok, Bool.and_eq_true] at h
    simp only [Fm.txt, List.mem_append, List.mem_cons, List.not_mem_nil, or_false] at hc
    rcases hc with ((((hc | rfl) | hc) | (rfl | rfl)) | hc) | rfl
    · exact (plain_bi h.1 c hc).2.2.2
    · decide
    · exact txt_10 h.2.2.1 c hc
    · decide
    · decide
    · exact txt_10 h.2.2.2 c hc
    · decide
/-- the dict of the heads -/
structure Hd (K : PySem.W.Frag) (w : World) (mg : Str → Option Value) : Prop where
  ex : ∃ (a : Addr) (es : Array DictEntry) (n : Nat), mg "HEADS" = some (.ref a) ∧ KDict K w a es n ∧ ∀ k, (unK k || biK k) = true → ∃ t, PySem.W.nsIn K a (S (k.cps.toList ++ [40])) = some (some (.str k t))
/-- what a frame begins with -/
def kv : Option Str → List V
  | none => []
  | some k => [.str k]
def FrAt (H : Hp) (x : Addr × Fr) : Prop := ∃ vs, H x.1 = some (.lst (kv x.2.1 ++ vs)) ∧ FsAt H vs x.2.2
def frL (L : List (Addr × Fr)) : List V := (L.map fun x => V.ref x.1).reverse
theorem frL_cons (x : Addr × Fr) (L : List (Addr × Fr)) : frL (x :: L) = frL L ++ [.ref x.1] := by
  unfold frL
  rw [List.map_cons, List.reverse_cons]
theorem frL_len (L : List (Addr × Fr)) : (frL L).length = L.length := by
  unfold frL
  rw [List.length_reverse, List.length_map]
structure Frs (H0 H : Hp) (pf pt : Addr) (T : List V) (L : List (Addr × Fr)) : Prop where
  sm : Same H0 H
  ef : H pf = some (.lst (frL L))
  et : H pt = some (.lst T)
  fr : ∀ x ∈ L, FrAt H x
  nd : (L.map (·.1)).Nodup
  nw : ∀ x ∈ L, H0 x.1 = none ∧ x.1 ≠ pf ∧ x.1 ≠ pt
  nf : H0 pf = none
  ne : pt ≠ pf
theorem FrAt.same {H H' : Hp} {x : Addr × Fr} (h : FrAt H x) (s : Same H H') : FrAt H' x := by
  obtain ⟨vs, e, f⟩ := h
  exact ⟨vs, s _ _ e, f.same s⟩
theorem FrAt.but {H : Hp} {x : Addr × Fr} {p : Addr} {xs ys : List V} (h : FrAt H x) (e : H p = some (.lst xs)) (n : x.1 ≠ p) : FrAt (upd H p (.lst ys)) x := by
  obtain ⟨vs, e1, f⟩ := h
  exact ⟨vs, by rw [upd_ne n]; exact e1, f.tps (Tps.lst e)⟩
section
variable {H0 H : Hp} {pf pt q : Addr} {T : List V} {L : List (Addr × Fr)} {o : Option Str} {fs : List Fm} {x : Fr} {vs : List V} {v : V} {b : Fm}
theorem Frs.same {H' : Hp} (h : Frs H0 H pf pt T L) (s : Same H H') : Frs H0 H' pf pt T L := ⟨h.sm.trans s, s _ _ h.ef, s _ _ h.et, fun x hx => (h.fr x hx).same s, h.nd, h.nw, h.nf, h.ne⟩
theorem Frs.app (h : Frs H0 H pf pt T ((q, (o, fs)) :: L)) (e : H q = some (.lst (kv o ++ vs))) (f : FsAt H vs fs) (g : FmAt H v b) : Frs H0 (upd H q (.lst (kv o ++ vs ++ [v]))) pf pt T ((q, (o, fs ++ [b])) :: L) := by
  have nq := h.nw _ (List.mem_cons_self ..)
  have nd := h.nd
  rw [List.map_cons, List.nodup_cons] at nd
  refine ⟨Same.mut h.sm nq.1, ?_, ?_, fun y hy => ?_, h.nd, fun y hy => ?_, h.nf, h.ne⟩
  · rw [upd_ne nq.2.1.symm, h.ef, frL_cons, frL_cons]
  · rw [upd_ne nq.2.2.symm]
    exact h.et
  · rcases List.mem_cons.mp hy with rfl | hy
    · exact ⟨vs ++ [v], by rw [← List.append_assoc]; exact upd_same, (FsAt.app g f).tps (Tps.lst e)⟩
    · exact (h.fr y (List.mem_cons_of_mem _ hy)).but e fun z => nd.1 (List.mem_map.mpr ⟨y, hy, z⟩)
  · rcases List.mem_cons.mp hy with rfl | hy
    · exact nq
    · exact h.nw y (List.mem_cons_of_mem _ hy)
theorem Frs.push {k : Str} (h : Frs H0 H pf pt T L) (n : H q = none) : Frs H0 (upd (upd H q (.lst [.str k])) pf (.lst (frL L ++ [.ref q]))) pf pt T ((q, (some k, [])) :: L) := by
  have s1 : Same H (upd H q (.lst [.str k])) := Same.upd n
  have h1 := h.same s1
  have nqf : q ≠ pf := fun z => by rw [z, h.ef] at n; cases n
  have nqt : q ≠ pt := fun z => by rw [z, h.et] at n; cases n
  have nqL : ∀ x ∈ L, x.1 ≠ q := fun x hx z => by
    obtain ⟨vs, e, _⟩ := h.fr x hx
    rw [z, n] at e
    cases e
  refine ⟨Same.mut h1.sm h.nf, ?_, ?_, fun y hy => ?_, ?_, fun y hy => ?_, h.nf, h.ne⟩
  · rw [upd_same, frL_cons]
  · rw [upd_ne h.ne]
    exact h1.et
  · rcases List.mem_cons.mp hy with rfl | hy
    · exact FrAt.but ⟨[], upd_same, .nil⟩ h1.ef nqf
    · exact (h1.fr y hy).but h1.ef (h.nw y hy).2.1
  · rw [List.map_cons, List.nodup_cons]
    refine ⟨fun z => ?_, h.nd⟩
    obtain ⟨y, hy, e⟩ := List.mem_map.mp z
    exact nqL y hy e
  · rcases List.mem_cons.mp hy with rfl | hy
    · exact ⟨Same.non h.sm n, nqf, nqt⟩
    · exact h.nw y hy
theorem Frs.pop (h : Frs H0 H pf pt T ((q, x) :: L)) : Frs H0 (upd H pf (.lst (frL L))) pf pt T L ∧ FrAt (upd H pf (.lst (frL L))) (q, x) := by
  have nd := h.nd
  rw [List.map_cons, List.nodup_cons] at nd
  refine ⟨⟨Same.mut h.sm h.nf, upd_same, ?_, fun y hy => ?_, nd.2, fun y hy => h.nw y (List.mem_cons_of_mem _ hy), h.nf, h.ne⟩, ?_⟩
  · rw [upd_ne h.ne]
    exact h.et
  · exact (h.fr y (List.mem_cons_of_mem _ hy)).but h.ef (h.nw y (List.mem_cons_of_mem _ hy)).2.1
  · exact (h.fr _ (List.mem_cons_self ..)).but h.ef (h.nw _ (List.mem_cons_self ..)).2.1
end
/-- for x in a list that a call made -/
def rForL (K : PySem.W.Frag) (g : TG) (tb : TS) (D : Ends) (σ : L2.St) (v : V) (H : Hp) : Prop := ∃ a, v = .ref a ∧ (∃ xs, SqL K H a xs) ∧ ∃ W : Nat → Nat → L2.St → Hp → Prop, (∃ m, W 0 m σ H) ∧ ∀ i m σ H, W i m σ H →
  ((Itl K a).stop i H ∧ D.nx σ H) ∨ ((Itl K a).go i H ∧ ∃ N : L2.St → Hp → Prop, (∀ σ' H', N σ' H' → ∃ m', m' < m ∧ W (i + 1) m' σ' H') ∧ ∀ x H', (Itl K a).yld i H x H' → g x σ H' fun σ2 H2 => tb { D with nx := N, ct := N, bk := D.nx } σ2 H2)
theorem g_forL0 {K : PySem.W.Frag} {tl : TE} {g : TG} {tb : TS} {D : Ends} {σ : L2.St} {H : Hp} (k : tl σ H fun v H1 => rForL K g tb D σ v H1) : tFor (iList K tl) g tb D σ H := k
theorem r_forL {K : PySem.W.Frag} {j : Nat} {tb : TS} {D : Ends} {σ : L2.St} {a : Addr} {xs : List V} {H : Hp} (Pv : Nat → L2.St → Hp → Prop) (h0 : Pv 0 σ H) (hl : ∀ i σ H, Pv i σ H → SqL K H a xs)
    (hs : ∀ i x σ H, xs[i]? = some x → Pv i σ H → tb { D with nx := Pv (i + 1), ct := Pv (i + 1), bk := D.nx } (σ.set j (some x)) H) (hd : ∀ σ H, Pv xs.length σ H → D.nx σ H) : rForL K (gName j) tb D σ (.ref a) H :=
  ⟨a, rfl, ⟨xs, hl 0 _ _ h0⟩, for_list Pv h0 (fun i σ H _ p => hl i σ H p) (fun i x σ H hx p => hs i x σ H hx p) hd⟩
def TfW (H0 : Hp) (u : V) (pf pt : Addr) (a : Fm) (i : Nat) : L2.St → Hp → Prop := fun σ H => ∃ (w : Bool) (L : List (Addr × Fr)) (x3 x4 x5 : Option V), σ = [some u, some (.ref pf), some (.bl w), x3, x4, x5] ∧
  Frs H0 H pf pt (a.toks.map fun t => .str (S t)) L ∧ Leads w (L.map (·.2)) (a.toks.drop i) a ∧ L.length ≤ i + 1 ∧ ∀ x ∈ L, x.2.2.length ≤ i
def spTextForm : Sp := fun vs H Q _ => ∃ a : Fm, vs = [.str (S a.txt)] ∧ a.ok = true ∧ a.size ≤ 2000 ∧ ∀ H' v, Same H H' → FmAt H' v a → Q v H'
theorem TfW.app {H0 H : Hp} {u v : V} {pf pt q : Addr} {a b : Fm} {i : Nat} {L : List (Addr × Fr)} {o : Option Str} {fs : List Fm} {vs : List V} {x3 x4 x5 : Option V} (h : Frs H0 H pf pt (a.toks.map fun t => .str (S t)) ((q, (o, fs)) :: L)) (e : H q = some (.lst (kv o ++ vs))) (f : FsAt H vs fs) (g : FmAt H v b)
    (ld : Leads false ((o, fs ++ [b]) :: L.map (·.2)) (a.toks.drop (i + 1)) a) (hL : L.length ≤ i) (hf : ∀ x ∈ (q, (o, fs)) :: L, x.2.2.length ≤ i) : TfW H0 u pf pt a (i + 1) [some u, some (.ref pf), some (.bl false), x3, x4, x5] (upd H q (.lst (kv o ++ vs ++ [v]))) :=
  ⟨false, (q, (o, fs ++ [b])) :: L, _, _, _, rfl, h.app e f g, ld, by rw [List.length_cons]; omega, fun x hx => by
    rcases List.mem_cons.mp hx with rfl | hx
    · have := hf _ (List.mem_cons_self ..)
      show (fs ++ [b]).length ≤ i + 1
      rw [List.length_append, List.length_singleton]
      have h2 : fs.length ≤ i := this
      omega
    · exact Nat.le_succ_of_le (hf x (List.mem_cons_of_mem _ hx))⟩
theorem kv_len (o : Option Str) : (kv o).length ≤ 1 := by cases o <;> simp [kv]
theorem map_cons2 {L : List (Addr × Fr)} {x : Fr} {r : List Fr} (h : L.map (·.2) = x :: r) : ∃ q L', L = (q, x) :: L' ∧ L'.map (·.2) = r := by
  cases L with
  | nil => cases h
  | cons y L' =>
    rw [List.map_cons] at h
    injection h with h1 h2
    exact ⟨y.1, L', by rw [← h1], h2⟩
theorem FsAt.one {H : Hp} {vs : List V} {b : Fm} (h : FsAt H vs [b]) : ∃ v, vs = [v] ∧ FmAt H v b := by
  cases h with
  | cons f r => cases r; exact ⟨_, rfl, f⟩
theorem FsAt.two {H : Hp} {vs : List V} {b c : Fm} (h : FsAt H vs [b, c]) : ∃ v u, vs = [v, u] ∧ FmAt H v b ∧ FmAt H u c := by
  cases h with
  | cons f r =>
    obtain ⟨u, rfl, g⟩ := FsAt.one r
    exact ⟨_, u, rfl, f, g⟩
section
variable {P : Program} {w : World} {K : PySem.W.Frag} {mg : Str → Option Value} {base : Heap}
theorem ca_text_form (T : Bl K mg) (HD : Hd K w mg) (D : Df K mg "text_form" s_text_form p_text_form) (c_tokens : Ca P w K mg base 1 "tokens" spTokens) (c_atom_form : Ca P w K mg base 3 "atom_form" spAtomForm) (c_first_fault : Ca P w K mg base 5 "first_fault" spFault) : Ca P w K mg base 6 "text_form" spTextForm := by
  obtain ⟨aH, es, nH, hH, HK, hk⟩ := HD.ex
  have c_HEADS : ∃ u, mg "HEADS" = some u ∧ RelV (.ref aH) u := ⟨_, hH, rfl⟩
  refine ca_n D sc_text_form (fun vs H Q E h => ?_) (fun f cdv A outer s H vs Q E hr h => ?_)
  · obtain ⟨a, rfl, _⟩ := h
    rfl
  · obtain ⟨a, rfl, ok, hz, q⟩ := h
    refine ⟨_, (pss_cons (ps_if (pt_cmpR oq_insg pe_str (pv 0) rfl)
  (pss_one (ps_ret pe_non))
  pss_nil)
  (pss_cons (ps_set (i := 1) sc_text_form.nd rfl (Or.inl rfl) (pe_lst (pa_cons (pe_lst pa_nil) pa_nil)))
  (pss_cons (ps_set (i := 2) sc_text_form.nd rfl (Or.inl rfl) pe_bl)
  (pss_cons (ps_for PassesOwn.never rfl (pi_list (pe_ca c_tokens hr (by decide) (by rfl) (pa_cons (pv 0) pa_nil))) (pg_name (i := 3) sc_text_form.nd rfl (Or.inl rfl))
  (pss_cons (ps_set (i := 4) sc_text_form.nd rfl (Or.inl rfl) (pe_ca c_atom_form hr (by decide) (by rfl) (pa_cons (pv 3) pa_nil)))
  (pss_one (ps_if (PW.pt (pw_and (pt_val (pv 2)) (pw_and1 (pt_cmpR oq_notN (pv 4) pe_non (nomark _)))))
  (pss_cons (ps_expr (pe_bm PySem.F.plainAttrs_list PySem.F.slot_list_append PySem.F.type_list_append mt_append (pe_ix ix_list (pv 1) (pe_un un_neg pe_int) (fun _ _ => rfl)) (pa_cons (pv 4) pa_nil)))
  (pss_one (ps_set (i := 2) sc_text_form.nd rfl (Or.inl rfl) pe_bl)))
  (pss_one (ps_if (PW.pt (pw_and (pt_val (pv 2)) (pw_and1 (pt_cmpR (op_in_kd HK) (pv 3) (C8.pe_gc (by rfl) c_HEADS) rfl))))
  (pss_one (ps_expr (pe_bm PySem.F.plainAttrs_list PySem.F.slot_list_append PySem.F.type_list_append mt_append (pv 1) (pa_cons (pe_lst (pa_cons (pe_ix ix_kdict (C8.pe_gc (by rfl) c_HEADS) (pv 3) (fun _ _ => rfl)) pa_nil)) pa_nil))))
  (pss_one (ps_if (PW.pt (pw_and (pt_not (pt_val (pv 2))) (pw_and1 (pt_cmpR op_eq (pv 3) pe_str (nomark _)))))
  (pss_one (ps_set (i := 2) sc_text_form.nd rfl (Or.inl rfl) pe_bl))
  (pss_one (ps_if (PW.pt (pw_and (pt_not (pt_val (pv 2))) (pw_and (pt_cmpR op_eq (pv 3) pe_str (nomark _)) (pw_and1 (pt_cmpR op_gt (pe_callB cq_len (by rfl) T.b_len (by decide +kernel) (pa_cons (pv 1) pa_nil)) pe_int (nomark _))))))
  (pss_cons (ps_set (i := 5) sc_text_form.nd rfl (Or.inl rfl) (pe_callTy call_tuple_of (by rfl) T.b_tuple (by decide +kernel) (pa_cons (pe_bm0 PySem.F.plainAttrs_list PySem.F.slot_list_pop PySem.F.type_list_pop mt_pop (pv 1)) pa_nil)))
  (pss_one (ps_expr (pe_bm PySem.F.plainAttrs_list PySem.F.slot_list_append PySem.F.type_list_append mt_append (pe_ix ix_list (pv 1) (pe_un un_neg pe_int) (fun _ _ => rfl)) (pa_cons (pv 5) pa_nil)))))
  (pss_one (ps_ret pe_non))))))))))))
  (pss_cons (ps_if (PW.pt (pw_or (pt_val (pv 2)) (pw_or (pt_cmpR op_ne (pe_callB cq_len (by rfl) T.b_len (by decide +kernel) (pa_cons (pv 1) pa_nil)) pe_int (nomark _)) (pw_or1 (pt_cmpR op_ne (pe_callB cq_len (by rfl) T.b_len (by decide +kernel) (pa_cons (pe_ix ix_list (pv 1) pe_int (fun _ _ => rfl)) pa_nil)) pe_int (nomark _))))))
  (pss_one (ps_ret pe_non))
  pss_nil)
  (pss_one (ps_ret (pe_ifExp (pt_cmpR oq_isN (pe_ca c_first_fault hr (by decide) (by rfl) (pa_cons (pe_ix ix_list (pe_ix ix_list (pv 1) pe_int (fun _ _ => rfl)) pe_int (fun _ _ => rfl)) pa_nil)) pe_non (nomark _)) (pe_ix ix_list (pe_ix ix_list (pv 1) pe_int (fun _ _ => rfl)) pe_int (fun _ _ => rfl)) pe_non)))))))), ?_⟩
    walk_at "go3"
    refine ⟨10, _, congrArg V.str (by decide +kernel : Str.ofString "\n" = ⟨#[10]⟩), rfl, ?_⟩
    rw [decide_eq_false (fun z => txt_10 ok 10 z rfl)]
    walk_at "go3"
    refine ⟨by show 0 ≤ sizeLine; decide, fun q0 hq0 => ?_⟩
    walk_at "go3"
    refine ⟨by show 1 ≤ sizeLine; decide, fun pf hpf => ?_⟩
    have s1 : Same H (upd H q0 (.lst [])) := Same.upd hq0
    have e1 : upd H q0 (.lst []) q0 = some (.lst []) := upd_same
    generalize upd H q0 (.lst []) = H1 at s1 e1 hpf ⊢
    have npf : H pf = none := Same.non s1 hpf
    have nq0 : q0 ≠ pf := fun z => by rw [← z, e1] at hpf; cases hpf
    have s2 : Same H1 (upd H1 pf (.lst [.ref q0])) := Same.upd hpf
    have e2 : upd H1 pf (.lst [.ref q0]) pf = some (.lst [.ref q0]) := upd_same
    generalize upd H1 pf (.lst [.ref q0]) = H2 at s2 e2 ⊢
    have s02 := s1.trans s2
    have e12 := s2 _ _ e1
    clear s1 s2 e1 hpf
    walk_at "go3"
    refine g_forL0 ?_
    walk_at "go3"
    refine ⟨a, rfl, ok, hz, fun pt H3 s3 hpt0 hpt => ?_⟩
    have fr0 : Frs H H3 pf pt (a.toks.map fun t => .str (S t)) [(q0, (none, []))] := ⟨s02.trans s3, s3 _ _ e2, hpt, fun x hx => by
      rw [List.mem_singleton.mp hx]
      exact ⟨[], s3 _ _ e12, .nil⟩, by simp, fun x hx => by
      rw [List.mem_singleton.mp hx]
      exact ⟨hq0, nq0, fun z => by rw [← z, e12] at hpt0; cases hpt0⟩, npf, fun z => by rw [z, e2] at hpt0; cases hpt0⟩
    clear e2 e12 s02 s3 hpt hpt0
    have htl := toks_len a
    refine r_forL (xs := a.toks.map fun t => .str (S t)) (TfW H (.str (S a.txt)) pf pt a) ⟨true, [(q0, (none, []))], none, none, none, rfl, fr0, leads_all ok, Nat.le_refl _, fun x hx => by rw [List.mem_singleton.mp hx]; exact Nat.le_refl _⟩ (fun i σ' H' p => ?_) (fun i x σ' H4 hx p => ?_) (fun σ' H4 p => ?_)
    · obtain ⟨w1, L, x3, x4, x5, rfl, fr, _⟩ := p
      exact SqL.of fr.et
    · obtain ⟨w1, L, x3, x4, x5, rfl, fr, ld, hL, hfs⟩ := p
      rw [List.getElem?_map] at hx
      obtain ⟨tk, htk, rfl⟩ := Option.map_eq_some_iff.mp hx
      have hil : i < a.toks.length := (List.getElem?_eq_some_iff.mp htk).1
      have hdr : a.toks.drop i = tk :: a.toks.drop (i + 1) := by
        rw [List.drop_eq_getElem_cons hil]
        rw [(List.getElem?_eq_some_iff.mp htk).2]
      rw [hdr] at ld
      generalize hLL : L.map (·.2) = LL at ld
      have hi6 : i < 6000 := by omega
      cases ld with
      | @atom o fs r k t _ _ _ hkd hlen ld' =>
        obtain ⟨q, L', rfl, hr'⟩ := map_cons2 hLL
        walk_at "go3"
        refine ⟨tk, rfl, hlen, fun H5 v s5 hv => ?_⟩
        rw [hkd] at hv
        obtain ⟨p, rfl, ep⟩ := hv
        have fr5 := fr.same s5
        have ef5 := fr5.ef
        rw [frL_cons] at ef5
        obtain ⟨vs, eq', fvs'⟩ := fr5.fr _ (List.mem_cons_self ..)
        have eq : H5 q = some (.lst (kv o ++ vs)) := eq'
        have fvs : FsAt H5 vs fs := fvs'
        have hvl : vs.length = fs.length := fvs.len
        have hk1 := kv_len o
        have hf0 : fs.length ≤ i := hfs _ (List.mem_cons_self ..)
        walk_at "go3"
        refine iteND (fun _ => ?_) (fun h => nomatch h)
        walk_at "go3"
        refine g_ixL (v := .ref q) (SqL.of ef5) at_last ?_
        walk_at "go3"
        refine g_app eq (by rw [List.length_append, sizeLine_eq]; omega) ?_
        walk_at "go3"
        exact TfW.app fr5 eq fvs (.atm ep) (by rw [hr']; exact ld') (by rw [List.length_cons] at hL; omega) hfs
      | @head r k _ _ hk0 ld' =>
        walk_at "go3"
        obtain ⟨tH, eH⟩ := hk k hk0
        have hkl : (k.cps.toList ++ [40]).length < 1000000 := by
          simp only [unK, biK, Bool.or_eq_true, beq_iff_eq] at hk0
          rcases hk0 with ((rfl | rfl) | rfl) | ((rfl | rfl) | rfl) <;> decide +kernel
        refine ⟨_, rfl, hkl, fun H5 v s5 hv => ?_⟩
        rw [kind_head hk0] at hv
        obtain rfl : v = .non := hv
        have fr5 := fr.same s5
        have ef5 := fr5.ef
        walk_at "go3"
        refine iteND (fun h => absurd rfl h) (fun _ => ?_)
        walk_at "go3"
        refine ⟨_, _, rfl, rfl, eH, ?_⟩
        refine ⟨_, rfl, ?_⟩
        refine iteT ?_
        walk_at "go3"
        refine ⟨aH, _, .str k, rfl, rfl, ⟨es, nH, _, HK.at_, HK.lit, eH, ⟨tH, rfl⟩⟩, ?_⟩
        walk_at "go3"
        refine ⟨by show 1 ≤ sizeLine; decide, fun q hq => ?_⟩
        walk_at "go3"
        refine g_app (fr5.same (Same.upd hq)).ef (by rw [frL_len, sizeLine_eq]; omega) ?_
        exact ⟨true, (q, (some k, [])) :: L, _, _, _, rfl, fr5.push hq, by rw [List.map_cons, hLL]; exact ld', by rw [List.length_cons]; omega, fun x hx => by
          rcases List.mem_cons.mp hx with rfl | hx
          · exact Nat.zero_le _
          · exact Nat.le_succ_of_le (hfs x hx)⟩
      | @comma r _ _ ld' =>
        walk_at "go3"
        refine ⟨_, rfl, by decide, fun H5 v s5 hv => ?_⟩
        rw [kind_comma] at hv
        obtain rfl : v = .non := hv
        have fr5 := fr.same s5
        walk_at "go4"
        exact ⟨true, L, _, _, _, rfl, fr5, by rw [hLL]; exact ld', by omega, fun x hx => Nat.le_succ_of_le (hfs x hx)⟩
      | @un o k b fs r _ _ ld' =>
        obtain ⟨q, L1, rfl, hr1⟩ := map_cons2 hLL
        obtain ⟨q2, L', rfl, hr'⟩ := map_cons2 hr1
        walk_at "go3"
        refine ⟨_, rfl, by decide, fun H5 v s5 hv => ?_⟩
        rw [kind_close] at hv
        obtain rfl : v = .non := hv
        have fr5 := fr.same s5
        have ef5 := fr5.ef
        walk_at "go3"
        refine iteDF (by decide +kernel) ?_
        walk_at "go3"
        refine iteDT (by decide +kernel) ?_
        walk_at "go3"
        refine iteDT (by rw [frL_len, List.length_cons, List.length_cons]; omega) ?_
        walk_at "go3"
        rw [frL_cons] at ef5
        have fr6' := fr5.pop
        refine g_pop ef5 ?_
        obtain ⟨fr6, f6⟩ := fr6'
        generalize upd H5 pf (.lst (frL ((q2, (o, fs)) :: L'))) = H6 at fr6 f6 ⊢
        obtain ⟨vs1, e1, fv1⟩ := f6
        obtain ⟨vb, rfl, fb⟩ := FsAt.one fv1
        walk_at "go3"
        refine ⟨q, _, rfl, .inl ⟨SqL.of e1, fun p hp => ?_⟩⟩
        have s7 : Same H6 (upd H6 p (.tup (V.str k :: [vb]))) := Same.upd hp
        have e7 : FmAt (upd H6 p (.tup (V.str k :: [vb]))) (.ref p) (.un k b) := .un upd_same (fb.same s7)
        show gName 5 (V.ref p) _ (upd H6 p (.tup (V.str k :: [vb]))) _
        generalize upd H6 p (.tup (V.str k :: [vb])) = H7 at s7 e7 ⊢
        have fr7 := fr6.same s7
        have ef7 := fr7.ef
        rw [frL_cons] at ef7
        obtain ⟨vs, eq', fvs'⟩ := fr7.fr _ (List.mem_cons_self ..)
        have eq : H7 q2 = some (.lst (kv o ++ vs)) := eq'
        have fvs : FsAt H7 vs fs := fvs'
        have hvl : vs.length = fs.length := fvs.len
        have hk1 := kv_len o
        have hf0 : fs.length ≤ i := hfs _ (List.mem_cons_of_mem _ (List.mem_cons_self ..))
        walk_at "go3"
        refine g_ixL (v := .ref q2) (SqL.of ef7) at_last ?_
        walk_at "go3"
        refine g_app eq (by rw [List.length_append, sizeLine_eq]; omega) ?_
        exact TfW.app fr7 eq fvs e7 (by rw [hr']; exact ld') (by rw [List.length_cons, List.length_cons] at hL; omega) fun x hx => hfs x (List.mem_cons_of_mem _ hx)
      | @bi o k b c fs r _ _ ld' =>
        obtain ⟨q, L1, rfl, hr1⟩ := map_cons2 hLL
        obtain ⟨q2, L', rfl, hr'⟩ := map_cons2 hr1
        walk_at "go3"
        refine ⟨_, rfl, by decide, fun H5 v s5 hv => ?_⟩
        rw [kind_close] at hv
        obtain rfl : v = .non := hv
        have fr5 := fr.same s5
        have ef5 := fr5.ef
        walk_at "go3"
        refine iteDF (by decide +kernel) ?_
        walk_at "go3"
        refine iteDT (by decide +kernel) ?_
        walk_at "go3"
        refine iteDT (by rw [frL_len, List.length_cons, List.length_cons]; omega) ?_
        walk_at "go3"
        rw [frL_cons] at ef5
        have fr6' := fr5.pop
        refine g_pop ef5 ?_
        obtain ⟨fr6, f6⟩ := fr6'
        generalize upd H5 pf (.lst (frL ((q2, (o, fs)) :: L'))) = H6 at fr6 f6 ⊢
        obtain ⟨vs1, e1, fv1⟩ := f6
        obtain ⟨vb, vc, rfl, fb, fc⟩ := FsAt.two fv1
        walk_at "go3"
        refine ⟨q, _, rfl, .inl ⟨SqL.of e1, fun p hp => ?_⟩⟩
        have s7 : Same H6 (upd H6 p (.tup (V.str k :: [vb, vc]))) := Same.upd hp
        have e7 : FmAt (upd H6 p (.tup (V.str k :: [vb, vc]))) (.ref p) (.bi k b c) := .bi upd_same (fb.same s7) (fc.same s7)
        show gName 5 (V.ref p) _ (upd H6 p (.tup (V.str k :: [vb, vc]))) _
        generalize upd H6 p (.tup (V.str k :: [vb, vc])) = H7 at s7 e7 ⊢
        have fr7 := fr6.same s7
        have ef7 := fr7.ef
        rw [frL_cons] at ef7
        obtain ⟨vs, eq', fvs'⟩ := fr7.fr _ (List.mem_cons_self ..)
        have eq : H7 q2 = some (.lst (kv o ++ vs)) := eq'
        have fvs : FsAt H7 vs fs := fvs'
        have hvl : vs.length = fs.length := fvs.len
        have hk1 := kv_len o
        have hf0 : fs.length ≤ i := hfs _ (List.mem_cons_of_mem _ (List.mem_cons_self ..))
        walk_at "go3"
        refine g_ixL (v := .ref q2) (SqL.of ef7) at_last ?_
        walk_at "go3"
        refine g_app eq (by rw [List.length_append, sizeLine_eq]; omega) ?_
        exact TfW.app fr7 eq fvs e7 (by rw [hr']; exact ld') (by rw [List.length_cons, List.length_cons] at hL; omega) fun x hx => hfs x (List.mem_cons_of_mem _ hx)
    · obtain ⟨w1, L, x3, x4, x5, rfl, fr, ld, hL, hfs⟩ := p
      rw [List.length_map, List.drop_length] at ld
      generalize hLL : L.map (·.2) = LL at ld
      cases ld with
      | done =>
        obtain ⟨q1, L', rfl, hr'⟩ := map_cons2 hLL
        obtain rfl := List.map_eq_nil_iff.mp hr'
        have ef : H4 pf = some (.lst [.ref q1]) := fr.ef
        obtain ⟨vs, eq', fvs'⟩ := fr.fr _ (List.mem_cons_self ..)
        obtain ⟨va, rfl, fva⟩ := FsAt.one fvs'
        have eq : H4 q1 = some (.lst [va]) := eq'
        walk_at "go3"
        refine iteND (fun h => absurd rfl h) (fun _ => ?_)
        walk_at "go3"
        refine iteND (fun h => absurd rfl h) (fun _ => ?_)
        walk_at "go3"
        refine ⟨va, a, rfl, fva, ok, by omega, fun H5 s5 => ?_⟩
        have ef5 := s5 _ _ ef
        have eq5 := s5 _ _ eq
        walk_at "go3"
        refine iteD (fun _ => ?_) (fun h => absurd rfl h)
        walk_at "go3"
        exact q _ _ (fr.sm.trans s5) (fva.same s5)
end
end Op

namespace Op
open PySem PySem.Spec PyProof.Rows L2 SX OpC
local macro_rules | `(tactic| walk_at "go1") => `(tactic| first
  | ((with_reducible refine' g_var ?h ?_); (case h => rfl)) | with_reducible refine' g_c ?_ | with_reducible refine' g_op ?_ | with_reducible refine' g_un ?_ | with_reducible refine' g_if ?_ | with_reducible refine' g_test ?_ | with_reducible refine' g_B ?_ | with_reducible refine' g_bl ?_
  | with_reducible refine' g_not ?_ | with_reducible refine' g_and ?_ | with_reducible refine' g_or ?_ | with_reducible refine' g_andV ?_ | with_reducible refine' g_orV ?_ | with_reducible refine' g_notV ?_ | with_reducible refine' g_nil ?_ | with_reducible refine' g_cons ?_ | with_reducible refine' g_CB ?_ | with_reducible refine' g_ca ?_
  | with_reducible refine' g_seq ?_ | with_reducible refine' g_next ?_ | with_reducible refine' g_asg ?_ | with_reducible refine' g_name ?_ | with_reducible refine' g_ret ?_ | with_reducible refine' g_retN ?_ | with_reducible refine' g_drop ?_ | with_reducible refine' g_ifS ?_ | with_reducible refine' g_sub ?_
  | with_reducible refine' g_I0 ?_ | with_reducible refine' g_U ?_ | ((with_reducible refine' g_eq ?h ?_); (case h => rfl)) | ((with_reducible refine' g_ne ?h ?_); (case h => rfl))
  | ((with_reducible refine' g_lenL ?h ?_); (case h => first | assumption | exact SqL.of (by assumption) | exact SqL.of upd_same)) | ((with_reducible refine' g_lenT ?h ?_); (case h => first | assumption | exact SqT.of (by assumption) | exact SqT.of upd_same))
  | ((with_reducible refine' g_ixL ?h ?ha ?_); (case h => first | assumption | exact SqL.of (by assumption) | exact SqL.of upd_same); (case ha => rfl)) | ((with_reducible refine' g_ixT ?h ?ha ?_); (case h => first | assumption | exact SqT.of (by assumption) | exact SqT.of upd_same); (case ha => rfl))
  | ((with_reducible refine' g_I ?h ?_); (case h => first | decide | omega | (first | refine' ⟨?_, ?_, ?_⟩ | refine' ⟨?_, ?_⟩ | refine' Or.inl ⟨?_, ?_⟩) <;> omega | (refine' Or.inr ⟨?_, ?_⟩ <;> omega)))
  | ((with_reducible refine' g_setL ?h ?ha ?_); (case h => first | assumption | exact upd_same); (case ha => rfl))
  | with_reducible refine' g_lcR ?_
  | with_reducible refine' g_M1 ?_ | with_reducible refine' g_isS ?_ | with_reducible refine' g_tyS ?_ | ((with_reducible refine' g_tyL ?h ?_); (case h => first | assumption | exact upd_same))
  | ((with_reducible refine' g_cat ?h ?h2 ?hl ?_); (case h => first | assumption | exact upd_same); (case h2 => first | assumption | exact upd_same); (case hl => first | decide | (simp; omega)))
  | with_reducible refine' g_lcS ?_
  | with_reducible refine' g_starts ?_ | with_reducible refine' g_chain ?_
  | ((with_reducible refine' g_lenS ?h ?_); (case h => first | exact len_le (by assumption) | exact len_le (by omega))) | ((with_reducible refine' g_rstrip ?h ?_); (case h => first | exact len_le (by assumption) | exact len_le (by omega))) | ((with_reducible refine' g_slX ?h ?_); (case h => first | exact len_le (by assumption) | exact len_le (by omega)))
  | with_reducible refine' g_sl ?_ | with_reducible refine' g_nopart ?_ | with_reducible refine' g_part ?_ | with_reducible refine' g_isI ?_
  | with_reducible refine' g_tru ?_
  | with_reducible refine' iteT ?_ | with_reducible refine' iteF ?_ | with_reducible refine' iteNT ?_ | with_reducible refine' iteNF ?_
  | with_reducible refine' g_int ?_ | with_reducible refine' g_insg ?_ | with_reducible refine' g_ninsg ?_ | with_reducible refine' g_isN ?_ | with_reducible refine' g_notN ?_ | with_reducible refine' g_lst ?_ | with_reducible refine' g_tup ?_ | with_reducible refine' g_BM ?_ | with_reducible refine' g_BM0 ?_)
local macro_rules | `(tactic| walk_at "go") => `(tactic| repeat' walk_at "go1")
local macro_rules | `(tactic| walk_at "go2") => `(tactic| repeat' (first | walk_at "go1" | with_reducible refine' g_cm ?_ | with_reducible refine' g_mk ?_ | with_reducible refine' g_for ?_ | ((with_reducible refine' g_rcm ?h ?ha ?_); (case h => first | assumption | exact upd_same); (case ha => first | rfl | decide | simp [List.lookup]))))
/- macro2 -/
local macro_rules | `(tactic| walk_at "go3a") => `(tactic| first
  | walk_at "go1" | with_reducible refine' g_cm ?_ | with_reducible refine' g_mk ?_ | with_reducible refine' g_for ?_ | with_reducible refine' g_fld ?_ | with_reducible refine' g_lcT0 ?_
  | ((with_reducible refine' g_rcm ?h ?ha ?_); (case h => first | assumption | exact upd_same); (case ha => first | rfl | decide | simp [List.lookup]))
  | ((with_reducible refine' g_shape ?hc ?hn ?h ?_); (case hc => assumption); (case hn => assumption); (case h => first | assumption | exact upd_same | (rw [upd_ne (by assumption)]; assumption))))
local macro_rules | `(tactic| walk_at "go3") => `(tactic| repeat' walk_at "go3a")
local macro_rules | `(tactic| walk_at "go4") => `(tactic| repeat' (first
  | walk_at "go3a" | ((with_reducible refine' iteDT ?h ?_); (case h => first | rfl | decide +kernel)) | ((with_reducible refine' iteDF ?h ?_); (case h => decide +kernel))))
/-! ## the law's written letter, and reading -/
theorem kids_txt {H : Hp} {v : V} {a : Fm} (h : FmAt H v a) (ok : a.ok = true) : (∃ p k t, v = .ref p ∧ a = .atm k t ∧ H p = some (.tup [.str k, .str (S t)]) ∧ atK k = true) ∨
    ∃ (p : Addr) (k : Str) (ks : List (V × Fm)), v = .ref p ∧ H p = some (.tup (.str k :: ks.map (·.1))) ∧ atK k = false ∧ k.length ≤ 7 ∧ (∀ y ∈ ks, FmAt H y.1 y.2 ∧ y.2.ok = true ∧ y.2.dep < a.dep ∧ y.2.size ≤ a.size) ∧
      a.txt = k.cps.toList ++ [40] ++ TL.joinL [44, 32] (ks.map fun y => y.2.txt) ++ [41] ∧ ks.length ≤ 2 ∧ (((ks.map fun y => S y.2.txt).map (·.length)).sum) + ks.length * 2 ≤ a.txt.length + 2 ∧ (TL.joinL [44, 32] (ks.map fun y => y.2.txt)).length ≤ a.txt.length := by
  cases h with
  | @atm p k t h => exact .inl ⟨p, k, t, rfl, rfl, h, Fm.ok_kin ok⟩
  | @un p k w b h f =>
    simp only [Fm.ok, Bool.and_eq_true] at ok
    have e : (Fm.un k b).txt = k.cps.toList ++ [40] ++ b.txt ++ [41] := rfl
    refine .inr ⟨p, k, [(w, b)], rfl, h, unK_at ok.1, by rw [str_len]; exact unK_len ok.1, fun y hy => ?_, rfl, (by show 1 ≤ 2; decide), ?_, ?_⟩
    · rw [List.mem_singleton.mp hy]
      exact ⟨f, ok.2, Nat.lt_succ_self _, Nat.le_succ _⟩
    · rw [e]
      simp only [List.map_cons, List.map_nil, List.sum_cons, List.sum_nil, List.length_cons, List.length_nil, S_len, List.length_append]
      omega
    · rw [e]
      show b.txt.length ≤ _
      simp only [List.length_append]
      omega
  | @bi p k w z b c h f g =>
    simp only [Fm.ok, Bool.and_eq_true] at ok
    have e : (Fm.bi k b c).txt = k.cps.toList ++ [40] ++ b.txt ++ [44, 32] ++ c.txt ++ [41] := rfl
    refine .inr ⟨p, k, [(w, b), (z, c)], rfl, h, biK_at ok.1, by rw [str_len]; exact biK_len ok.1, fun y hy => ?_, ?_, (by show 2 ≤ 2; decide), ?_, ?_⟩
    · simp only [List.mem_cons, List.not_mem_nil, or_false] at hy
      rcases hy with rfl | rfl
      · exact ⟨f, ok.2.2.1, by show b.dep < max b.dep c.dep + 1; omega, by show b.size ≤ b.size + c.size + 1; omega⟩
      · exact ⟨g, ok.2.2.2, by show c.dep < max b.dep c.dep + 1; omega, by show c.size ≤ b.size + c.size + 1; omega⟩
    · rw [e]
      show _ = k.cps.toList ++ [40] ++ (b.txt ++ ([44, 32] ++ c.txt)) ++ [41]
      simp only [List.append_assoc]
    · rw [e]
      simp only [List.map_cons, List.map_nil, List.sum_cons, List.sum_nil, List.length_cons, List.length_nil, S_len, List.length_append]
      omega
    · rw [e]
      show (b.txt ++ ([44, 32] ++ c.txt)).length ≤ _
      simp only [List.length_append]
      omega
def spText (d : Nat) : Sp := fun vs H Q _ => ∃ (v : V) (a : Fm), vs = [v] ∧ FmAt H v a ∧ a.ok = true ∧ a.dep < d ∧ a.size ≤ 10000 ∧ ∀ H', Same H H' → Q (.str (S a.txt)) H'
section
variable {P : Program} {w : World} {K : PySem.W.Frag} {mg : Str → Option Value} {base : Heap} {CL CE CX : Addr}
theorem ca_text (T : Bl K mg) (D : Df K mg "_law_text" s_law_text p_law_text) : ∀ d, Ca P w K mg base (1 + d) "_law_text" (spText d)
  | 0 => by
    refine ca_n D sc_law_text (fun vs H Q E h => ?_) (fun f cdv A outer s H vs Q E hr h => ?_)
    · obtain ⟨v, a, rfl, _⟩ := h
      rfl
    · obtain ⟨v, a, rfl, _, _, he, _⟩ := h
      exact absurd he (Nat.not_lt_zero _)
  | d + 1 => by
    have c_law_text := ca_text T D d
    refine ca_n (k := 1 + d) D sc_law_text (fun vs H Q E h => ?_) (fun f cdv A outer s H vs Q E hr h => ?_)
    · obtain ⟨v, a, rfl, _⟩ := h
      rfl
    · obtain ⟨v, a, rfl, fa, ok, hd, hz, q⟩ := h
      refine ⟨_, (pss_cons (ps_if (pt_cmpR op_eq (pe_ix ix_tup (pv 0) pe_int (fun _ _ => rfl)) pe_str (nomark _))
  (pss_one (ps_ret (pe_op oq_adds pe_str (pe_ix ix_tup (pv 0) pe_int (fun _ _ => rfl)))))
  pss_nil)
  (pss_cons (ps_if (pt_cmpR op_in_seq (pe_ix ix_tup (pv 0) pe_int (fun _ _ => rfl)) (pe_tup (pa_cons pe_str (pa_cons pe_str pa_nil))) rfl)
  (pss_one (ps_ret (pe_ix ix_tup (pv 0) pe_int (fun _ _ => rfl))))
  pss_nil)
  (pss_one (ps_ret (pe_op oq_adds (pe_op oq_adds (pe_op oq_adds (pe_ix ix_tup (pv 0) pe_int (fun _ _ => rfl)) pe_str) (pq_join pe_str (pe_lc (own := [("_law_part", 1)]) (g := gName 1) (tt := tYes) rfl sc_law_text.nd (pi_tup (pe_slice sl_tup (pv 0) (po_some pe_int) po_none)) (blkOk_by (own := [("_law_part", 1)]) (N := N_law_text) (sc := defScope s_law_text) (by decide +kernel)) (fun _ _ _ _ _ => pg_name (i := 1) sc_law_text.nd rfl (Or.inl rfl)) (fun _ _ _ _ _ => pts_nil) (fun _ _ _ _ _ => (pe_ca c_law_text hr (by omega) (by rfl) (pa_cons (pv 1) pa_nil)))))) pe_str))))), ?_⟩
      rcases kids_txt fa ok with ⟨p, k, t, rfl, rfl, ep, hk⟩ | ⟨p, k, ks, rfl, ep, hk, hkl, hks, htx, hk2, hsum, hjl⟩
      · walk_at "go3"
        refine iteD (fun h => ?_) (fun h => ?_)
        · have e : k = kUnk := V.str.inj h
          subst e
          have hsm : t.length ≤ 8 := Fm.ok_small ok
          walk_at "go3"
          refine g_catS (by have e1 : (Str.ofString "?").length = 1 := by decide +kernel
                            have e2 := S_len t
                            rw [sizeLine_eq]
                            omega) ?_
          have e2 : Str.ofString "?" ++ S t = S (atTxt kUnk t) := by
            unfold atTxt
            rw [if_pos rfl, show Str.ofString "?" = S [63] by decide +kernel, S_cat]
            rfl
          rw [e2]
          exact q _ (Same.refl _)
        · have hne : k ≠ kUnk := fun z => h (congrArg V.str z)
          walk_at "go3"
          refine ⟨by show 2 ≤ sizeLine; decide, fun p2 hp2 => ?_⟩
          have ep2 : upd H p2 (.tup [.str kWord, .str kName]) p = some (.tup [.str k, .str (S t)]) := Tps.new hp2 _ _ ep
          walk_at "go3"
          refine g_inT (SqT.of upd_same) rfl rfl ?_
          have hin : inV (.str k) [V.str kWord, V.str kName] = true := by
            simp only [atK, Bool.or_eq_true, beq_iff_eq] at hk
            rcases hk with (rfl | rfl) | rfl
            · decide +kernel
            · decide +kernel
            · exact absurd rfl hne
          rw [hin]
          walk_at "go3"
          have e2 : S t = S (atTxt k t) := by unfold atTxt; rw [if_neg hne]
          rw [e2]
          exact q _ (Same.upd hp2)
      · walk_at "go3"
        refine g_ixT (v := .str k) (SqT.of ep) at0 ?_
        walk_at "go3"
        refine iteD (fun h => absurd hk (by rw [V.str.inj h]; decide +kernel)) (fun hne => ?_)
        have hne' : k ≠ kUnk := fun z => hne (congrArg V.str z)
        walk_at "go3"
        refine g_ixT (v := .str k) (SqT.of ep) at0 ?_
        walk_at "go3"
        refine ⟨by show 2 ≤ sizeLine; decide, fun p2 hp2 => ?_⟩
        have sA : Same H (upd H p2 (.tup [.str kWord, .str kName])) := Same.upd hp2
        have ep2 := sA _ _ ep
        walk_at "go3"
        refine g_inT (SqT.of upd_same) rfl rfl ?_
        have hin : inV (.str k) [V.str kWord, V.str kName] = false := by
          cases hv : inV (.str k) [V.str kWord, V.str kName] with
          | false => rfl
          | true =>
            refine absurd ?_ (Bool.eq_false_iff.mp hk)
            have z : ((kWord == k) || ((kName == k) || false)) = true := hv
            simp only [Bool.or_false, Bool.or_eq_true, beq_iff_eq] at z
            rcases z with rfl | rfl <;> decide +kernel
        rw [hin]
        generalize upd H p2 (.tup [.str kWord, .str kName]) = H1 at sA ep2 ⊢
        walk_at "go3"
        refine g_ixT (v := .str k) (SqT.of ep2) at0 ?_
        walk_at "go3"
        refine g_catS (by have e1 := len_lp; rw [sizeLine_eq]; omega) ?_
        rw [paren]
        walk_at "go3"
        refine g_slT (SqT.of ep2) (nowhole _ _) fun p3 hp3 => ?_
        rw [cut_tail]
        have sB : Same H1 (upd H1 p3 (.tup (ks.map (·.1)))) := Same.upd hp3
        have eB : upd H1 p3 (.tup (ks.map (·.1))) p3 = some (.tup (ks.map (·.1))) := upd_same
        generalize upd H1 p3 (.tup (ks.map (·.1))) = H2 at sB eB ⊢
        refine r_lcT (xs := ks.map (·.1)) (fun D i acc H3 => Same H2 H3 ∧ acc = (ks.take i).map fun y => .str (S y.2.txt)) (SqT.of eB) (by rw [List.length_map]; omega) (fun _ => rfl) (fun D i acc H3 J => SqT.of (J.1 _ _ eB)) (fun D hD => ⟨Same.upd hD, by rw [List.take_zero]; rfl⟩) (fun D i x acc H3 hD hx hacc hlen J => ?_) (fun D acc H3 hD hacc hlen J => ?_)
        · obtain ⟨sJ, hJ⟩ := J
          rw [List.getElem?_map] at hx
          obtain ⟨y, hy, rfl⟩ := Option.map_eq_some_iff.mp hx
          have hm : y ∈ ks := List.mem_of_getElem? hy
          have hi2 : i < 2 := by have := (List.getElem?_eq_some_iff.mp hy).1; omega
          obtain ⟨fy, oky, hdy, hzy⟩ := hks y hm
          walk_at "go3"
          refine ⟨y.1, y.2, rfl, ((fy.same sA).same sB).same sJ, oky, by omega, by omega, fun H4 s4 => ?_⟩
          refine lcPost.of (s4 _ _ hacc) hlen (by omega) ⟨Same.mut (sJ.trans s4) hD, ?_⟩
          rw [hJ, List.take_succ, hy, List.map_append]
          rfl
        · obtain ⟨sJ, hJ⟩ := J
          rw [List.length_map, List.take_length] at hJ
          have hl : a.txt.length ≤ 20 * a.size := Fm.txt_len (Fm.ok_kin ok) (Fm.ok_small ok)
          refine g_join (ys := ks.map fun y => S y.2.txt) (by rw [List.map_map]; rw [hJ] at hacc; exact SqL.of hacc) ?_ ?_
          · rw [List.length_map, show (Str.ofString ", ").length = 2 by decide +kernel]
            omega
          · have e1 : Txt.join (Str.ofString ", ") (ks.map fun y => S y.2.txt) = S (TL.joinL [44, 32] (ks.map fun y => y.2.txt)) := by
              rw [show Str.ofString ", " = S [44, 32] by decide +kernel, ← join_S, List.map_map]
              rfl
            rw [e1]
            have e2 := S_len (k.cps.toList ++ [40])
            have e3 := S_len (TL.joinL [44, 32] (ks.map fun y => y.2.txt))
            have e4 := str_len k
            rw [List.length_append, List.length_singleton] at e2
            walk_at "go3"
            refine g_catS (by rw [sizeLine_eq]; omega) ?_
            rw [S_cat]
            walk_at "go3"
            refine g_catS (by rw [S_len, List.length_append, List.length_append, List.length_singleton, show (Str.ofString ")").length = 1 by decide +kernel, sizeLine_eq]; omega) ?_
            rw [show Str.ofString ")" = S [41] by decide +kernel, S_cat, ← htx]
            exact q _ ((sA.trans sB).trans sJ)
/-- letter.written() -/
theorem let_written {σ : L2.St} {H : Hp} {Q : VK} {x : V} {a : Fm} (l : LetAt CL H x a) (ok : a.ok = true) (hz : a.size ≤ 10000) (q : ∀ H', Same H H' → Q (.str (S a.txt)) H') : rCm CL "written" (spWritten CL) tNil σ x H Q := by
  have l' := l
  obtain ⟨p, dx, u, rfl, e, f⟩ := l
  exact ⟨p, dx, _, rfl, e, rfl, _, a, rfl, l', Fm.ok_kin ok, Fm.ok_small ok, hz, q⟩
end
theorem eqD_K {X : Cx} {K : PySem.W.Frag} (hK : X.K = K) (hu : X.A.units + 64 < cLine) : OpR X (compareOp .Eq) (rEqD K) := by
  subst hK
  exact op_eqD hu
end Op

namespace Op
open PySem PySem.Spec PyProof.Rows L2 SX OpC
/-! ## written letters, read from the left -/
def sepB (c : Nat) : Bool := c == 40 || (c == 41 || (c == 44 || c == 32))
def wd (s : List Nat) : List Nat := s.takeWhile fun c => !sepB c
def af (s : List Nat) : List Nat := s.dropWhile fun c => !sepB c
def szW (w : List Nat) : Nat := if biK (S w) = true then 2 else if unK (S w) = true then 1 else 0
def rdF : Nat → List Nat → Option (Fm × List Nat)
  | 0, _ => none
  | n + 1, s =>
    if (af s).head? = some 40 ∧ szW (wd s) ≠ 0 then
      (match rdF n (af s).tail with
      | none => none
      | some x => if szW (wd s) = 1 then (if x.2.head? = some 41 then some (.un (S (wd s)) x.1, x.2.tail) else none)
        else if x.2.take 2 = [44, 32] then (match rdF n (x.2.drop 2) with
          | none => none
          | some y => if y.2.head? = some 41 then (if (S (wd s) == kLock && !y.1.isKey) = true then none else some (.bi (S (wd s)) x.1 y.1, y.2.tail)) else none)
        else none)
    else (kindOf (wd s)).map fun kt => (.atm kt.1 kt.2, af s)
theorem wd_af (s : List Nat) : wd s ++ af s = s := List.takeWhile_append_dropWhile
theorem head_tail {s : List Nat} {c : Nat} (h : s.head? = some c) : s = c :: s.tail := by
  cases s with
  | nil => cases h
  | cons x r =>
    have e : x = c := Option.some.inj h
    rw [e]
    rfl
theorem take_two {s : List Nat} {a b : Nat} (h : s.take 2 = [a, b]) : s = a :: b :: s.drop 2 := by
  have e := List.take_append_drop 2 s
  rw [h] at e
  exact e.symm
theorem rdF_sound : ∀ (n : Nat) (s : List Nat) (a : Fm) (r : List Nat), rdF n s = some (a, r) → a.ok = true ∧ s = a.txt ++ r
  | 0, s, a, r, h => by cases h
  | n + 1, s, a, r, h => by
    have hs := wd_af s
    unfold rdF at h
    split at h
    · rename_i hc
      obtain ⟨h40, hz⟩ := hc
      have ea := head_tail h40
      have hk : (S (wd s)).cps.toList = wd s := rfl
      cases h1 : rdF n (af s).tail with
      | none => rw [h1] at h; cases h
      | some x =>
        obtain ⟨a1, r1⟩ := x
        obtain ⟨ok1, e1⟩ := rdF_sound n _ _ _ h1
        rw [h1] at h
        dsimp only at h
        split at h
        · rename_i hz1
          split at h
          · rename_i h41
            have er := head_tail h41
            injection h with h
            injection h with ha hr
            subst ha
            subst hr
            have hu : unK (S (wd s)) = true := by
              unfold szW at hz1
              split at hz1
              · cases hz1
              · split at hz1
                · assumption
                · cases hz1
            refine ⟨un_okk hu ok1, ?_⟩
            show s = ((S (wd s)).cps.toList ++ [40] ++ a1.txt ++ [41]) ++ r1.tail
            rw [hk]
            conv => lhs; rw [← hs, ea, e1, er]
            simp
          · cases h
        · rename_i hz1
          have hb : biK (S (wd s)) = true := by
            unfold szW at hz hz1
            split at hz
            · assumption
            · exfalso
              rename_i hnb
              rw [if_neg hnb] at hz1
              split at hz
              · rename_i hu
                rw [if_pos hu] at hz1
                exact hz1 rfl
              · exact hz rfl
          split at h
          · rename_i h44
            have er := take_two h44
            cases h2 : rdF n (r1.drop 2) with
            | none => rw [h2] at h; cases h
            | some y =>
              obtain ⟨b1, r2⟩ := y
              obtain ⟨ok2, e2⟩ := rdF_sound n _ _ _ h2
              rw [h2] at h
              dsimp only at h
              split at h
              · rename_i h41
                have er2 := head_tail h41
                split at h
                · cases h
                · rename_i hl
                  injection h with h
                  injection h with ha hr
                  subst ha
                  subst hr
                  refine ⟨bi_okk hb ?_ ok1 ok2, ?_⟩
                  · cases hlk : (S (wd s) == kLock) with
                    | false => exact .inl rfl
                    | true =>
                      rw [hlk] at hl
                      cases hkk : b1.isKey with
                      | true => exact .inr rfl
                      | false => rw [hkk] at hl; exact absurd rfl hl
                  · show s = ((S (wd s)).cps.toList ++ [40] ++ a1.txt ++ [44, 32] ++ b1.txt ++ [41]) ++ r2.tail
                    rw [hk]
                    conv => lhs; rw [← hs, ea, e1, er, e2, er2]
                    simp
              · cases h
          · cases h
    · cases hkd : kindOf (wd s) with
      | none => rw [hkd] at h; cases h
      | some kt =>
        obtain ⟨k, t⟩ := kt
        rw [hkd] at h
        injection h with h
        injection h with ha hr
        subst ha
        subst hr
        refine ⟨kind_ok hkd, ?_⟩
        show s = atTxt k t ++ af s
        rw [(atTxt_kind hkd).1, hs]
theorem small_sep : ∀ c ∈ smallL, sepB c = false := by decide +kernel
theorem cap_sep : ∀ c ∈ capL, sepB c = false := by decide +kernel
theorem dig_sep : ∀ c ∈ digL, sepB c = false := by decide +kernel
theorem atm_sep {k : Str} {t : List Nat} (h : (Fm.atm k t).ok = true) : ∀ c ∈ atTxt k t, sepB c = false := by
  have ht : ∀ c ∈ t, sepB c = false := by
    simp only [Fm.ok, Bool.or_eq_true, Bool.and_eq_true] at h
    rcases h with ⟨_, h⟩ | ⟨_, h⟩ | ⟨_, h⟩
    · simp only [isWordB, Bool.and_eq_true] at h
      exact fun c hc => small_sep c (allIn_mem h.2.2 c hc)
    · simp only [isNameB, Bool.and_eq_true] at h
      obtain ⟨ds, e, hd2⟩ := noDig_split t
      intro c hm
      rw [e] at hm
      rcases List.mem_append.mp hm with hm | hm
      · exact cap_sep c (allIn_mem h.2.2 c hm)
      · exact dig_sep c (hd2 c hm)
    · simp only [isUnkB, Bool.and_eq_true] at h
      exact fun c hc => small_sep c (allIn_mem h.2.2 c hc)
  unfold atTxt
  split
  · intro c hc
    rcases List.mem_cons.mp hc with rfl | hc
    · decide
    · exact ht c hc
  · exact ht
theorem kw_sep {k : Str} (h : unK k = true ∨ biK k = true) : ∀ c ∈ k.cps.toList, sepB c = false := by
  simp only [unK, biK, Bool.or_eq_true, beq_iff_eq] at h
  rcases h with ((rfl | rfl) | rfl) | ((rfl | rfl) | rfl) <;> decide +kernel
theorem wd_of {w r : List Nat} (h : ∀ c ∈ w, sepB c = false) (hr : r = [] ∨ ∃ c r', r = c :: r' ∧ sepB c = true) : wd (w ++ r) = w ∧ af (w ++ r) = r := by
  induction w with
  | nil =>
    rcases hr with rfl | ⟨c, r', rfl, hc⟩
    · exact ⟨rfl, rfl⟩
    · unfold wd af
      rw [List.nil_append, List.takeWhile_cons, List.dropWhile_cons, hc]
      exact ⟨rfl, rfl⟩
  | cons c w ih =>
    obtain ⟨h1, h2⟩ := ih fun x hx => h x (List.mem_cons_of_mem _ hx)
    have hc := h c (List.mem_cons_self ..)
    refine ⟨?_, ?_⟩
    · show (c :: (w ++ r)).takeWhile _ = c :: w
      rw [List.takeWhile_cons, hc]
      exact congrArg (c :: ·) h1
    · show (c :: (w ++ r)).dropWhile _ = r
      rw [List.dropWhile_cons, hc]
      exact h2
theorem szW_un {k : Str} (h : unK k = true) : szW k.cps.toList = 1 := by
  unfold szW
  rw [S_tl]
  have hb : biK k = false := by
    cases hb : biK k with
    | false => rfl
    | true => rw [bi_un hb] at h; cases h
  rw [hb, if_neg Bool.false_ne_true, if_pos h]
theorem szW_bi {k : Str} (h : biK k = true) : szW k.cps.toList = 2 := by
  unfold szW
  rw [S_tl, if_pos h]
def endsB (r : List Nat) : Prop := r = [] ∨ ∃ c r', r = c :: r' ∧ (c = 41 ∨ c = 44)
theorem rdF_full : ∀ {a : Fm}, a.ok = true → ∀ (n : Nat) (r : List Nat), a.dep < n → endsB r → rdF n (a.txt ++ r) = some (a, r)
  | _, _, 0, _, h, _ => absurd h (Nat.not_lt_zero _)
  | .atm k t, ok, n + 1, r, _, he => by
    have hr : r = [] ∨ ∃ c r', r = c :: r' ∧ sepB c = true := by
      rcases he with rfl | ⟨c, r', rfl, hc⟩
      · exact .inl rfl
      · exact .inr ⟨c, r', rfl, by rcases hc with rfl | rfl <;> decide⟩
    obtain ⟨h1, h2⟩ := wd_of (atm_sep ok) hr
    have h0 : (Fm.atm k t).txt = atTxt k t := rfl
    unfold rdF
    rw [h0, h1, h2, if_neg, kind_txt ok]
    · rfl
    · rintro ⟨h, _⟩
      rcases he with rfl | ⟨c, r', rfl, hc⟩
      · cases h
      · have : c = 40 := Option.some.inj h
        rcases hc with rfl | rfl <;> cases this
  | .un k a, ok, n + 1, r, hd, he => by
    simp only [Fm.ok, Bool.and_eq_true] at ok
    have hda : a.dep < n := by have : a.dep + 1 < n + 1 := hd; omega
    have e0 : (Fm.un k a).txt ++ r = k.cps.toList ++ (40 :: (a.txt ++ (41 :: r))) := by simp [Fm.txt]
    obtain ⟨h1, h2⟩ := wd_of (w := k.cps.toList) (r := 40 :: (a.txt ++ (41 :: r))) (kw_sep (.inl ok.1)) (.inr ⟨40, _, rfl, by decide⟩)
    have ih := rdF_full ok.2 n (41 :: r) hda (.inr ⟨41, r, rfl, .inl rfl⟩)
    unfold rdF
    rw [e0, h1, h2, if_pos ⟨rfl, by rw [szW_un ok.1]; decide⟩]
    show (match rdF n (a.txt ++ (41 :: r)) with | none => none | some x => _) = _
    rw [ih]
    dsimp only
    rw [szW_un ok.1, if_pos rfl, if_pos (show (41 :: r).head? = some 41 from rfl), S_tl]
    rfl
  | .bi k a b, ok, n + 1, r, hd, he => by
    have ok' := ok
    simp only [Fm.ok, Bool.and_eq_true] at ok
    have hda : a.dep < n ∧ b.dep < n := by have : max a.dep b.dep + 1 < n + 1 := hd; omega
    have e0 : (Fm.bi k a b).txt ++ r = k.cps.toList ++ (40 :: (a.txt ++ (44 :: 32 :: (b.txt ++ (41 :: r))))) := by simp [Fm.txt]
    obtain ⟨h1, h2⟩ := wd_of (w := k.cps.toList) (r := 40 :: (a.txt ++ (44 :: 32 :: (b.txt ++ (41 :: r))))) (kw_sep (.inr ok.1)) (.inr ⟨40, _, rfl, by decide⟩)
    have ih1 := rdF_full ok.2.2.1 n (44 :: 32 :: (b.txt ++ (41 :: r))) hda.1 (.inr ⟨44, _, rfl, .inr rfl⟩)
    have ih2 := rdF_full ok.2.2.2 n (41 :: r) hda.2 (.inr ⟨41, r, rfl, .inl rfl⟩)
    unfold rdF
    rw [e0, h1, h2, if_pos ⟨rfl, by rw [szW_bi ok.1]; decide⟩]
    show (match rdF n (a.txt ++ (44 :: 32 :: (b.txt ++ (41 :: r)))) with | none => none | some x => _) = _
    rw [ih1]
    dsimp only
    rw [szW_bi ok.1, if_neg (by decide), if_pos (show (44 :: 32 :: (b.txt ++ (41 :: r))).take 2 = [44, 32] from rfl)]
    show (match rdF n (b.txt ++ (41 :: r)) with | none => none | some y => _) = _
    rw [ih2]
    dsimp only
    rw [if_pos (show (41 :: r).head? = some 41 from rfl), S_tl, if_neg]
    · rfl
    · intro z
      rw [Bool.and_eq_true] at z
      have h3 := ok.2.1
      rw [z.1] at h3
      simp only [Bool.not_true, Bool.false_or] at h3
      rw [h3] at z
      cases z.2
/-- how often a bracket is opened -/
def cnt (s : List Nat) : Nat := s.count 40
theorem cnt_app (a b : List Nat) : cnt (a ++ b) = cnt a + cnt b := List.count_append
theorem dep_cnt : ∀ a : Fm, a.dep ≤ cnt a.txt
  | .atm _ _ => Nat.zero_le _
  | .un k a => by
    have ih := dep_cnt a
    have e : cnt (Fm.un k a).txt = cnt k.cps.toList + 1 + cnt a.txt + 0 := by
      show cnt (k.cps.toList ++ [40] ++ a.txt ++ [41]) = _
      rw [cnt_app, cnt_app, cnt_app]
      rfl
    show a.dep + 1 ≤ _
    omega
  | .bi k a b => by
    have ih1 := dep_cnt a
    have ih2 := dep_cnt b
    have e : cnt (Fm.bi k a b).txt = cnt k.cps.toList + 1 + cnt a.txt + 0 + cnt b.txt + 0 := by
      show cnt (k.cps.toList ++ [40] ++ a.txt ++ [44, 32] ++ b.txt ++ [41]) = _
      rw [cnt_app, cnt_app, cnt_app, cnt_app, cnt_app]
      rfl
    show max a.dep b.dep + 1 ≤ _
    omega
theorem Fm.size_txt : ∀ {a : Fm}, a.ok = true → a.size ≤ a.txt.length
  | .atm k t, h => by
    have : 1 ≤ t.length := by
      simp only [Fm.ok, Bool.or_eq_true, Bool.and_eq_true, isWordB, isNameB, isUnkB, decide_eq_true_eq] at h
      have := noDig_len t
      omega
    show 1 ≤ (atTxt k t).length
    unfold atTxt
    split
    · rw [List.length_cons]
      omega
    · exact this
  | .un k a, h => by
    simp only [Fm.ok, Bool.and_eq_true] at h
    have := Fm.size_txt h.2
    show a.size + 1 ≤ (k.cps.toList ++ [40] ++ a.txt ++ [41]).length
    simp only [List.length_append, List.length_cons, List.length_nil]
    omega
  | .bi k a b, h => by
    simp only [Fm.ok, Bool.and_eq_true] at h
    have := Fm.size_txt h.2.2.1
    have := Fm.size_txt h.2.2.2
    show a.size + b.size + 1 ≤ (k.cps.toList ++ [40] ++ a.txt ++ [44, 32] ++ b.txt ++ [41]).length
    simp only [List.length_append, List.length_cons, List.length_nil]
    omega
end Op

namespace Op
open PySem PySem.Spec PyProof.Rows L2 SX OpC
local macro_rules | `(tactic| walk_at "go1") => `(tactic| first
  | ((with_reducible refine' g_var ?h ?_); (case h => rfl)) | with_reducible refine' g_c ?_ | with_reducible refine' g_op ?_ | with_reducible refine' g_un ?_ | with_reducible refine' g_if ?_ | with_reducible refine' g_test ?_ | with_reducible refine' g_B ?_ | with_reducible refine' g_bl ?_
  | with_reducible refine' g_not ?_ | with_reducible refine' g_and ?_ | with_reducible refine' g_or ?_ | with_reducible refine' g_andV ?_ | with_reducible refine' g_orV ?_ | with_reducible refine' g_notV ?_ | with_reducible refine' g_nil ?_ | with_reducible refine' g_cons ?_ | with_reducible refine' g_CB ?_ | with_reducible refine' g_ca ?_
  | with_reducible refine' g_seq ?_ | with_reducible refine' g_next ?_ | with_reducible refine' g_asg ?_ | with_reducible refine' g_name ?_ | with_reducible refine' g_ret ?_ | with_reducible refine' g_retN ?_ | with_reducible refine' g_drop ?_ | with_reducible refine' g_ifS ?_ | with_reducible refine' g_sub ?_
  | with_reducible refine' g_I0 ?_ | with_reducible refine' g_U ?_ | ((with_reducible refine' g_eq ?h ?_); (case h => rfl)) | ((with_reducible refine' g_ne ?h ?_); (case h => rfl))
  | ((with_reducible refine' g_lenL ?h ?_); (case h => first | assumption | exact SqL.of (by assumption) | exact SqL.of upd_same)) | ((with_reducible refine' g_lenT ?h ?_); (case h => first | assumption | exact SqT.of (by assumption) | exact SqT.of upd_same))
  | ((with_reducible refine' g_ixL ?h ?ha ?_); (case h => first | assumption | exact SqL.of (by assumption) | exact SqL.of upd_same); (case ha => rfl)) | ((with_reducible refine' g_ixT ?h ?ha ?_); (case h => first | assumption | exact SqT.of (by assumption) | exact SqT.of upd_same); (case ha => rfl))
  | ((with_reducible refine' g_I ?h ?_); (case h => first | decide | omega | (first | refine' ⟨?_, ?_, ?_⟩ | refine' ⟨?_, ?_⟩ | refine' Or.inl ⟨?_, ?_⟩) <;> omega | (refine' Or.inr ⟨?_, ?_⟩ <;> omega)))
  | ((with_reducible refine' g_setL ?h ?ha ?_); (case h => first | assumption | exact upd_same); (case ha => rfl))
  | with_reducible refine' g_lcR ?_
  | with_reducible refine' g_M1 ?_ | with_reducible refine' g_isS ?_ | with_reducible refine' g_tyS ?_ | ((with_reducible refine' g_tyL ?h ?_); (case h => first | assumption | exact upd_same))
  | ((with_reducible refine' g_cat ?h ?h2 ?hl ?_); (case h => first | assumption | exact upd_same); (case h2 => first | assumption | exact upd_same); (case hl => first | decide | (simp; omega)))
  | with_reducible refine' g_lcS ?_
  | with_reducible refine' g_starts ?_ | with_reducible refine' g_chain ?_
  | ((with_reducible refine' g_lenS ?h ?_); (case h => first | exact len_le (by assumption) | exact len_le (by omega))) | ((with_reducible refine' g_rstrip ?h ?_); (case h => first | exact len_le (by assumption) | exact len_le (by omega))) | ((with_reducible refine' g_slX ?h ?_); (case h => first | exact len_le (by assumption) | exact len_le (by omega)))
  | with_reducible refine' g_sl ?_ | with_reducible refine' g_nopart ?_ | with_reducible refine' g_part ?_ | with_reducible refine' g_isI ?_
  | with_reducible refine' g_tru ?_
  | with_reducible refine' iteT ?_ | with_reducible refine' iteF ?_ | with_reducible refine' iteNT ?_ | with_reducible refine' iteNF ?_
  | with_reducible refine' g_int ?_ | with_reducible refine' g_insg ?_ | with_reducible refine' g_ninsg ?_ | with_reducible refine' g_isN ?_ | with_reducible refine' g_notN ?_ | with_reducible refine' g_lst ?_ | with_reducible refine' g_tup ?_ | with_reducible refine' g_BM ?_ | with_reducible refine' g_BM0 ?_)
local macro_rules | `(tactic| walk_at "go") => `(tactic| repeat' walk_at "go1")
local macro_rules | `(tactic| walk_at "go2") => `(tactic| repeat' (first | walk_at "go1" | with_reducible refine' g_cm ?_ | with_reducible refine' g_mk ?_ | with_reducible refine' g_for ?_ | ((with_reducible refine' g_rcm ?h ?ha ?_); (case h => first | assumption | exact upd_same); (case ha => first | rfl | decide | simp [List.lookup]))))
/- macro2 -/
local macro_rules | `(tactic| walk_at "go3a") => `(tactic| first
  | walk_at "go1" | with_reducible refine' g_cm ?_ | with_reducible refine' g_mk ?_ | with_reducible refine' g_for ?_ | with_reducible refine' g_fld ?_ | with_reducible refine' g_lcT0 ?_
  | ((with_reducible refine' g_rcm ?h ?ha ?_); (case h => first | assumption | exact upd_same); (case ha => first | rfl | decide | simp [List.lookup]))
  | ((with_reducible refine' g_shape ?hc ?hn ?h ?_); (case hc => assumption); (case hn => assumption); (case h => first | assumption | exact upd_same | (rw [upd_ne (by assumption)]; assumption))))
local macro_rules | `(tactic| walk_at "go3") => `(tactic| repeat' walk_at "go3a")
local macro_rules | `(tactic| walk_at "go4") => `(tactic| repeat' (first
  | walk_at "go3a" | ((with_reducible refine' iteDT ?h ?_); (case h => first | rfl | decide +kernel)) | ((with_reducible refine' iteDF ?h ?_); (case h => decide +kernel))))
/-! ## what brackets and commas make of any text -/
inductive Tr where
  | atm (k : Str) (t : List Nat)
  | nd (k : Str) (fs : List Tr)
mutual
def Tr.txt : Tr → List Nat
  | .atm k t => atTxt k t
  | .nd k fs => k.cps.toList ++ (40 :: (Tr.txts fs ++ [41]))
def Tr.txts : List Tr → List Nat
  | [] => []
  | a :: r => a.txt ++ (if r.isEmpty = true then [] else 44 :: 32 :: Tr.txts r)
end
mutual
def Tr.data : Tr → PyData
  | .atm k t => .tuple [.str k, .str (S t)]
  | .nd k fs => .tuple (.str k :: Tr.datas fs)
def Tr.datas : List Tr → List PyData
  | [] => []
  | a :: r => a.data :: Tr.datas r
end
mutual
def Tr.wf : Tr → Bool
  | .atm k t => (Fm.atm k t).ok
  | .nd k fs => (unK k || biK k) && Tr.wfs fs
def Tr.wfs : List Tr → Bool
  | [] => true
  | a :: r => a.wf && Tr.wfs r
end
def comT : List Tr → List Nat
  | [] => []
  | a :: r => a.txt ++ (44 :: 32 :: comT r)
theorem txts_one (a : Tr) : Tr.txts [a] = a.txt := by
  show a.txt ++ [] = a.txt
  rw [List.append_nil]
theorem txts_two (a b : Tr) (r : List Tr) : Tr.txts (a :: b :: r) = a.txt ++ (44 :: 32 :: Tr.txts (b :: r)) := rfl
theorem txts_app : ∀ (fs : List Tr) (a : Tr), Tr.txts (fs ++ [a]) = comT fs ++ a.txt
  | [], a => txts_one a
  | [b], a => by
    show b.txt ++ (44 :: 32 :: Tr.txts [a]) = (b.txt ++ (44 :: 32 :: [])) ++ a.txt
    rw [txts_one]
    simp
  | b :: c :: r, a => by
    have ih := txts_app (c :: r) a
    show b.txt ++ (44 :: 32 :: Tr.txts (c :: r ++ [a])) = (b.txt ++ (44 :: 32 :: comT (c :: r))) ++ a.txt
    rw [ih]
    simp
theorem txts_com : ∀ fs : List Tr, fs ≠ [] → Tr.txts fs ++ [44, 32] = comT fs
  | [], h => absurd rfl h
  | [a], _ => by
    rw [txts_one]
    rfl
  | a :: b :: r, _ => by
    have ih := txts_com (b :: r) (by simp)
    show (a.txt ++ (44 :: 32 :: Tr.txts (b :: r))) ++ [44, 32] = a.txt ++ (44 :: 32 :: comT (b :: r))
    rw [← ih]
    simp
theorem datas_app : ∀ (fs : List Tr) (a : Tr), Tr.datas (fs ++ [a]) = Tr.datas fs ++ [a.data]
  | [], a => rfl
  | b :: r, a => congrArg (b.data :: ·) (datas_app r a)
theorem wfs_app : ∀ (fs : List Tr) (a : Tr), Tr.wfs (fs ++ [a]) = (Tr.wfs fs && a.wf)
  | [], a => by
    show (a.wf && true) = (true && a.wf)
    simp
  | b :: r, a => by
    show (b.wf && Tr.wfs (r ++ [a])) = ((b.wf && Tr.wfs r) && a.wf)
    rw [wfs_app r a, Bool.and_assoc]
abbrev FrT := Option Str × List Tr
def hdT : Option Str → List Nat
  | none => []
  | some k => k.cps.toList ++ [40]
def renB : List FrT → List Nat
  | [] => []
  | (o, fs) :: r => renB r ++ (hdT o ++ comT fs)
/-- the text that stands behind these frames -/
def ren : Bool → List FrT → List Nat
  | true, L => renB L
  | false, [] => []
  | false, (o, fs) :: r => renB r ++ (hdT o ++ Tr.txts fs)
theorem ren_add (o : Option Str) (fs : List Tr) (r : List FrT) (a : Tr) : ren false ((o, fs ++ [a]) :: r) = ren true ((o, fs) :: r) ++ a.txt := by
  show renB r ++ (hdT o ++ Tr.txts (fs ++ [a])) = (renB r ++ (hdT o ++ comT fs)) ++ a.txt
  rw [txts_app]
  simp
theorem ren_head (k : Str) (L : List FrT) : ren true ((some k, []) :: L) = ren true L ++ (k.cps.toList ++ [40]) := by
  show renB L ++ ((k.cps.toList ++ [40]) ++ []) = renB L ++ (k.cps.toList ++ [40])
  rw [List.append_nil]
theorem ren_comma (o : Option Str) (fs : List Tr) (r : List FrT) (h : fs ≠ []) : ren true ((o, fs) :: r) = ren false ((o, fs) :: r) ++ [44, 32] := by
  show renB r ++ (hdT o ++ comT fs) = (renB r ++ (hdT o ++ Tr.txts fs)) ++ [44, 32]
  rw [← txts_com fs h]
  simp
theorem ren_close (k : Str) (fs : List Tr) (o : Option Str) (gs : List Tr) (r : List FrT) : ren false ((o, gs ++ [.nd k fs]) :: r) = ren false ((some k, fs) :: (o, gs) :: r) ++ [41] := by
  rw [ren_add]
  show (renB r ++ (hdT o ++ comT gs)) ++ (k.cps.toList ++ (40 :: (Tr.txts fs ++ [41]))) = ((renB r ++ (hdT o ++ comT gs)) ++ ((k.cps.toList ++ [40]) ++ Tr.txts fs)) ++ [41]
  simp
def Bot : List FrT → Prop
  | [] => False
  | [(o, _)] => o = none
  | (o, _) :: x :: r => (∃ k, o = some k ∧ (unK k || biK k) = true) ∧ Bot (x :: r)
theorem Bot.set {o : Option Str} {fs gs : List Tr} {r : List FrT} (h : Bot ((o, fs) :: r)) : Bot ((o, gs) :: r) := by
  cases r with
  | nil => exact h
  | cons x r => exact h
theorem Bot.push {k : Str} {fs : List Tr} {L : List FrT} (h : Bot L) (hk : (unK k || biK k) = true) : Bot ((some k, fs) :: L) := by
  cases L with
  | nil => exact h.elim
  | cons x r => exact ⟨⟨k, rfl, hk⟩, h⟩
/-! such a tree that has no fault is a form -/
mutual
theorem tr_good : ∀ t : Tr, t.wf = true → flt t.data = none → ∃ a : Fm, a.ok = true ∧ a.txt = t.txt ∧ a.data = t.data
  | .atm k t, h, _ => ⟨.atm k t, h, rfl, rfl⟩
  | .nd k fs, h, hf => by
    have h' : ((unK k || biK k) && Tr.wfs fs) = true := h
    rw [Bool.and_eq_true] at h'
    obtain ⟨hk, hw⟩ := h'
    have hf' : flt (.tuple (.str k :: Tr.datas fs)) = none := hf
    rw [flt_tup] at hf'
    have hst : stKs k (Tr.datas fs) = true := by
      cases hs : stKs k (Tr.datas fs) with
      | true => rfl
      | false => rw [hs, if_neg Bool.false_ne_true] at hf'; cases hf'
    have hak : atK k = false := by
      rw [Bool.or_eq_true] at hk
      rcases hk with h | h
      · exact unK_at h
      · exact biK_at h
    rw [if_pos hst, if_neg (by rw [hak]; decide)] at hf'
    have hl : fltL (Tr.datas fs) 1 = none := by
      cases hl : fltL (Tr.datas fs) 1 with
      | none => rfl
      | some p => rw [hl] at hf'; cases hf'
    rw [hl] at hf'
    have hlk : (k == kLock && !keyB (Tr.datas fs)) = false := by
      cases hh : (k == kLock && !keyB (Tr.datas fs)) with
      | false => rfl
      | true => rw [hh] at hf'; cases hf'
    obtain ⟨as, h1, h2, h3⟩ := trs_good fs 1 hw hl
    unfold stKs at hst
    rw [if_neg (by rw [hak]; decide)] at hst
    by_cases hu : unK k = true
    · rw [if_pos hu, beq_iff_eq] at hst
      match fs, as, h2, h3, hst with
      | [f], [a], h2, h3, _ =>
        have e2 : a.txt = f.txt := (List.cons.inj h2).1
        have e3 : a.data = f.data := (List.cons.inj h3).1
        refine ⟨.un k a, un_okk hu (h1 a (List.mem_cons_self ..)), ?_, ?_⟩
        · show k.cps.toList ++ [40] ++ a.txt ++ [41] = k.cps.toList ++ (40 :: (Tr.txts [f] ++ [41]))
          rw [txts_one, e2]
          simp
        · show PyData.tuple [.str k, a.data] = .tuple (.str k :: [f.data])
          rw [e3]
      | [f], [], h2, _, _ => simp at h2
      | [f], _ :: _ :: _, h2, _, _ => simp at h2
      | [], _, _, _, hst => simp [Tr.datas] at hst
      | _ :: _ :: _, _, _, _, hst => simp [Tr.datas] at hst
    · rw [if_neg hu] at hst
      have hb : biK k = true := by
        rw [Bool.or_eq_true] at hk
        rcases hk with h | h
        · exact absurd h hu
        · exact h
      rw [if_pos hb, beq_iff_eq] at hst
      match fs, as, h2, h3, hst, hlk with
      | [f, g], [a, b], h2, h3, _, hlk =>
        obtain ⟨e2, h2⟩ := List.cons.inj h2
        obtain ⟨e22, _⟩ := List.cons.inj h2
        obtain ⟨e3, h3⟩ := List.cons.inj h3
        obtain ⟨e33, _⟩ := List.cons.inj h3
        have e2' : a.txt = f.txt := e2
        have e22' : b.txt = g.txt := e22
        have e3' : a.data = f.data := e3
        have e33' : b.data = g.data := e33
        have okb := h1 b (List.mem_cons_of_mem _ (List.mem_cons_self ..))
        refine ⟨.bi k a b, bi_okk hb ?_ (h1 a (List.mem_cons_self ..)) okb, ?_, ?_⟩
        · cases hkl : (k == kLock) with
          | false => exact .inl rfl
          | true =>
            rw [hkl] at hlk
            have hkb : keyB [f.data, g.data] = true := by
              cases hh : keyB [f.data, g.data] with
              | true => rfl
              | false =>
                have hlk' : (true && !keyB [f.data, g.data]) = false := hlk
                rw [hh] at hlk'
                cases hlk'
            rw [← e33'] at hkb
            have e : keyB [f.data, b.data] = (b.head == kOpen || b.head == kOwn) := by cases b <;> rfl
            rw [e, key_head (Fm.ok_kin okb)] at hkb
            exact .inr hkb
        · show k.cps.toList ++ [40] ++ a.txt ++ [44, 32] ++ b.txt ++ [41] = k.cps.toList ++ (40 :: (Tr.txts [f, g] ++ [41]))
          rw [txts_two, txts_one, e2', e22']
          simp
        · show PyData.tuple [.str k, a.data, b.data] = .tuple (.str k :: [f.data, g.data])
          rw [e3', e33']
      | [], _, _, _, hst, _ => simp [Tr.datas] at hst
      | [_], _, _, _, hst, _ => simp [Tr.datas] at hst
      | _ :: _ :: _ :: _, _, _, _, hst, _ => simp [Tr.datas] at hst
      | [_, _], [], h2, _, _, _ => simp at h2
      | [_, _], [_], h2, _, _, _ => simp at h2
      | [_, _], _ :: _ :: _ :: _, h2, _, _, _ => simp at h2
theorem trs_good : ∀ (fs : List Tr) (i : Nat), Tr.wfs fs = true → fltL (Tr.datas fs) i = none → ∃ as : List Fm, (∀ a ∈ as, a.ok = true) ∧ as.map Fm.txt = fs.map Tr.txt ∧ as.map Fm.data = fs.map Tr.data
  | [], _, _, _ => ⟨[], (fun a h => nomatch h), rfl, rfl⟩
  | f :: fs, i, hw, hl => by
    have hw' : (f.wf && Tr.wfs fs) = true := hw
    rw [Bool.and_eq_true] at hw'
    have hl' : fltL (f.data :: Tr.datas fs) i = none := hl
    rw [fltL_cons] at hl'
    cases hf : flt f.data with
    | some p => rw [hf] at hl'; cases hl'
    | none =>
      rw [hf] at hl'
      obtain ⟨a, h1, h2, h3⟩ := tr_good f hw'.1 hf
      obtain ⟨as, g1, g2, g3⟩ := trs_good fs (i + 1) hw'.2 hl'
      refine ⟨a :: as, fun x hx => ?_, ?_, ?_⟩
      · rcases List.mem_cons.mp hx with rfl | hx
        · exact h1
        · exact g1 x hx
      · rw [List.map_cons, List.map_cons, h2, g2]
      · rw [List.map_cons, List.map_cons, h3, g3]
end
mutual
theorem Tr.sz : ∀ t : Tr, t.wf = true → szD t.data ≤ 3 * t.txt.length ∧ t.data.depth ≤ t.txt.length ∧ Op.pkD t.data = true
  | .atm k t, h => by
    have h' : (Fm.atm k t).ok = true := h
    have h1 := Fm.size_txt h'
    have h2 : 1 ≤ (atTxt k t).length := h1
    refine ⟨?_, ?_, Fm.pkD h'⟩
    · show 1 + (1 + 0) + 1 ≤ 3 * (atTxt k t).length
      omega
    · show max 0 (max 0 0) + 1 ≤ (atTxt k t).length
      omega
  | .nd k fs, h => by
    have h' : ((unK k || biK k) && Tr.wfs fs) = true := h
    rw [Bool.and_eq_true] at h'
    obtain ⟨h1, h2, h3⟩ := Tr.szs fs h'.2
    have hl : (Tr.nd k fs).txt.length = k.cps.toList.length + (Tr.txts fs).length + 2 := by
      show (k.cps.toList ++ (40 :: (Tr.txts fs ++ [41]))).length = _
      simp only [List.length_append, List.length_cons, List.length_nil]
      omega
    have hh : hdK k = true := by
      unfold hdK
      have := h'.1
      rw [Bool.or_eq_true] at this
      rcases this with h | h
      · rw [h]; simp
      · rw [h]; simp
    refine ⟨?_, ?_, pk_any (h := .str k) hh h3⟩
    · show szDs (.str k :: Tr.datas fs) + 1 ≤ _
      rw [szDs_cons, hl]
      show 1 + szDs (Tr.datas fs) + 1 ≤ _
      omega
    · have e : (Tr.nd k fs).data.depth = max 0 (PyData.depthAll (Tr.datas fs)) + 1 := rfl
      rw [e, hl]
      omega
theorem Tr.szs : ∀ fs : List Tr, Tr.wfs fs = true → szDs (Tr.datas fs) ≤ 3 * (Tr.txts fs).length ∧ PyData.depthAll (Tr.datas fs) ≤ (Tr.txts fs).length ∧ Op.pkDs (Tr.datas fs) = true
  | [], _ => ⟨Nat.zero_le _, Nat.zero_le _, rfl⟩
  | f :: fs, h => by
    have h' : (f.wf && Tr.wfs fs) = true := h
    rw [Bool.and_eq_true] at h'
    obtain ⟨h1, h2, h3⟩ := Tr.sz f h'.1
    obtain ⟨g1, g2, g3⟩ := Tr.szs fs h'.2
    have hl : f.txt.length + (Tr.txts fs).length ≤ (Tr.txts (f :: fs)).length := by
      show _ ≤ (f.txt ++ (if fs.isEmpty = true then [] else 44 :: 32 :: Tr.txts fs)).length
      rw [List.length_append]
      cases fs with
      | nil => exact Nat.le_refl _
      | cons g r =>
        show _ ≤ f.txt.length + (44 :: 32 :: Tr.txts (g :: r)).length
        rw [List.length_cons, List.length_cons]
        omega
    refine ⟨?_, ?_, ?_⟩
    · show szDs (f.data :: Tr.datas fs) ≤ _
      rw [szDs_cons]
      omega
    · have e : PyData.depthAll (f.data :: Tr.datas fs) = max f.data.depth (PyData.depthAll (Tr.datas fs)) := rfl
      show PyData.depthAll (f.data :: Tr.datas fs) ≤ _
      rw [e]
      omega
    · show (Op.pkD f.data && Op.pkDs (Tr.datas fs)) = true
      rw [h3, g3]
      rfl
end
/-! ### the pieces of any text -/
def tokG (T : List Nat) : List (List Nat) := TL.spl [10] 0 [] (StrLaws.replL [41] [10, 41] (StrLaws.replL [44, 32] [10, 44, 32, 10] (StrLaws.replL [40] [40, 10] T)))
def no10 (l : List Nat) : List Nat := l.filter fun c => decide (c ≠ 10)
theorem no10_app (a b : List Nat) : no10 (a ++ b) = no10 a ++ no10 b := List.filter_append ..
theorem no10_id {l : List Nat} (h : ∀ c ∈ l, c ≠ 10) : no10 l = l := List.filter_eq_self.mpr fun c hc => decide_eq_true (h c hc)
theorem spl_flat : ∀ (l acc : List Nat), (TL.spl [10] 0 acc l).flatten = acc ++ no10 l
  | [], acc => by
    rw [TL.spl_nil]
    show acc ++ [] = acc ++ []
    rfl
  | c :: l, acc => by
    by_cases hc : c = 10
    · subst hc
      rw [show TL.spl [10] 0 acc (10 :: l) = acc :: TL.spl [10] 0 [] l from TL.spl_hit (TL.pre_self [10] l), List.flatten_cons, spl_flat l []]
      rfl
    · rw [TL.spl_miss (TL.pre_of_head [] _ hc), spl_flat l _]
      have e : no10 (c :: l) = c :: no10 l := List.filter_cons_of_pos (by simpa using hc)
      rw [e]
      simp
theorem spl_len : ∀ (l acc : List Nat), (TL.spl [10] 0 acc l).length ≤ l.length + 1
  | [], acc => by rw [TL.spl_nil]; exact Nat.le_refl _
  | c :: l, acc => by
    by_cases hc : c = 10
    · subst hc
      rw [show TL.spl [10] 0 acc (10 :: l) = acc :: TL.spl [10] 0 [] l from TL.spl_hit (TL.pre_self [10] l), List.length_cons, List.length_cons]
      have := spl_len l []
      omega
    · rw [TL.spl_miss (TL.pre_of_head [] _ hc), List.length_cons]
      have := spl_len l (acc ++ [c])
      omega
theorem repl_no10 {d : Nat} {y z : List Nat} (h : no10 z = no10 (d :: y)) : ∀ (n : Nat) (l : List Nat), l.length ≤ n → no10 (StrLaws.replL (d :: y) z l) = no10 l
  | 0, l, hl => by
    rw [List.length_eq_zero_iff.mp (Nat.le_zero.mp hl), StrLaws.replL_nil]
  | n + 1, [], _ => by rw [StrLaws.replL_nil]
  | n + 1, c :: l, hl => by
    by_cases hp : (c :: l).take (d :: y).length = d :: y
    · rw [StrLaws.replL_hit (by simp) hp, no10_app, h, repl_no10 h n _ (by rw [List.length_drop, List.length_cons, List.length_cons]; rw [List.length_cons] at hl; omega), ← no10_app]
      conv => rhs; rw [← List.take_append_drop (d :: y).length (c :: l), hp]
    · rw [StrLaws.replL_miss hp]
      have ih := repl_no10 h n l (by rw [List.length_cons] at hl; omega)
      have e : ∀ m : List Nat, no10 (c :: m) = no10 [c] ++ no10 m := fun m => no10_app [c] m
      rw [e, ih, ← e]
theorem tokG_flat {T : List Nat} (h : ∀ c ∈ T, c ≠ 10) : (tokG T).flatten = T := by
  unfold tokG
  rw [spl_flat, List.nil_append, repl_no10 (by decide) _ _ (Nat.le_refl _), repl_no10 (by decide) _ _ (Nat.le_refl _), repl_no10 (by decide) _ _ (Nat.le_refl _), no10_id h]
theorem mem_flat {L : List (List Nat)} {t : List Nat} (h : t ∈ L) : t.length ≤ L.flatten.length := by
  induction L with
  | nil => cases h
  | cons x r ih =>
    rw [List.flatten_cons, List.length_append]
    rcases List.mem_cons.mp h with rfl | h
    · omega
    · have := ih h
      omega
theorem split_tokG (T : List Nat) : Txt.split (Txt.replace (Txt.replace (Txt.replace (S T) (Str.ofString "(") (Str.ofString "(\n")) (Str.ofString ", ") (Str.ofString "\n, \n")) (Str.ofString ")") (Str.ofString "\n)")) (Str.ofString "\n") = (tokG T).map S := by
  rw [repl_S (u := T) (y' := [40]) (z' := [40, 10]) (by decide +kernel) (by decide +kernel) (by decide +kernel), repl_S (u := StrLaws.replL [40] [40, 10] T) (y' := [44, 32]) (z' := [10, 44, 32, 10]) (by decide +kernel) (by decide +kernel) (by decide +kernel),
    repl_S (u := StrLaws.replL [44, 32] [10, 44, 32, 10] (StrLaws.replL [40] [40, 10] T)) (y' := [41]) (z' := [10, 41]) (by decide +kernel) (by decide +kernel) (by decide +kernel)]
  refine TL.map_tl_inj ?_
  rw [TL.split_spl _ _ (by decide +kernel) (TL.kind_ok (by decide +kernel)), show TL.tl (Str.ofString "\n") = [10] by decide +kernel]
  show tokG T = _
  rw [List.map_map]
  exact (List.map_id' _).symm
theorem tokG_len {T : List Nat} (h : T.length ≤ 2000) : (tokG T).length ≤ 100000 := by
  have h1 := repl_lenS T [40] [40, 10] (Str.ofString "(") (Str.ofString "(\n") (by decide +kernel) (by decide +kernel) (by decide +kernel)
  have h2 := repl_lenS (StrLaws.replL [40] [40, 10] T) [44, 32] [10, 44, 32, 10] (Str.ofString ", ") (Str.ofString "\n, \n") (by decide +kernel) (by decide +kernel) (by decide +kernel)
  have h3 := repl_lenS (StrLaws.replL [44, 32] [10, 44, 32, 10] (StrLaws.replL [40] [40, 10] T)) [41] [10, 41] (Str.ofString ")") (Str.ofString "\n)") (by decide +kernel) (by decide +kernel) (by decide +kernel)
  have h4 := spl_len (StrLaws.replL [41] [10, 41] (StrLaws.replL [44, 32] [10, 44, 32, 10] (StrLaws.replL [40] [40, 10] T))) []
  rw [show (Str.ofString "(\n").length = 2 by decide +kernel] at h1
  rw [show (Str.ofString "\n, \n").length = 4 by decide +kernel] at h2
  rw [show (Str.ofString "\n)").length = 2 by decide +kernel] at h3
  unfold tokG
  omega
def spTokensG : Sp := fun vs H Q _ => ∃ T : List Nat, vs = [.str (S T)] ∧ T.length ≤ 2000 ∧ ∀ p H', Same H H' → H p = none → H' p = some (.lst ((tokG T).map fun t => .str (S t))) → Q (.ref p) H'
theorem ca_tokensG {P : Program} {w : World} {K : PySem.W.Frag} {mg : Str → Option Value} {base : Heap} (D : Df K mg "tokens" s_tokens p_tokens) : Ca P w K mg base 1 "tokens" spTokensG := by
  obtain ⟨f, fd, F, hm, b⟩ := D.ex
  refine ⟨f, fd, _, fnT F sc_tokens (by decide +kernel) (by decide) (fun vs H Q E h => ?_) (fun f cdv A outer s H vs Q E hr h => ?_), hm, F.kp, b⟩
  · obtain ⟨a, rfl, _⟩ := h
    rfl
  · obtain ⟨T, rfl, hl, q⟩ := h
    have e0 : (Str.ofString "(\n").length = 2 := by decide +kernel
    have e1 : (Str.ofString "\n, \n").length = 4 := by decide +kernel
    have e2 : (Str.ofString "\n)").length = 2 := by decide +kernel
    have l1 := TK.replace_len (S T) (Str.ofString "(") (Str.ofString "(\n")
    have l2 := TK.replace_len (Txt.replace (S T) (Str.ofString "(") (Str.ofString "(\n")) (Str.ofString ", ") (Str.ofString "\n, \n")
    have l3 := TK.replace_len (Txt.replace (Txt.replace (S T) (Str.ofString "(") (Str.ofString "(\n")) (Str.ofString ", ") (Str.ofString "\n, \n")) (Str.ofString ")") (Str.ofString "\n)")
    have e3 : (S T).length = T.length := S_len _
    rw [e0] at l1
    rw [e1] at l2
    rw [e2] at l3
    refine ⟨_, psst_cons (pst_set (i := 1) sc_tokens.nd rfl (Or.inl rfl) (CwR.pet_replT (CwR.pet_replT (CwR.pet_replC (pv 0))))) (PSsT.of (pss_one (ps_ret (pe_split (pv 1) pe_str)))), ?_⟩
    refine ⟨_, rfl, _, rfl, ?_, _, rfl, ?_, _, rfl, ?_, ?_⟩
    · rw [e0]
      omega
    · rw [e1]
      omega
    · rw [e2]
      omega
    refine ⟨_, rfl, ⟨_, rfl⟩, _, _, rfl, rfl, by decide +kernel, ?_, fun p hp => ?_⟩
    · rw [sizeLine_eq]
      omega
    · rw [split_tokG, List.map_map]
      exact q p _ (Same.upd hp) hp upd_same
end Op

namespace Op
open PySem PySem.Spec PyProof.Rows L2 SX OpC
local macro_rules | `(tactic| walk_at "go1") => `(tactic| first
  | ((with_reducible refine' g_var ?h ?_); (case h => rfl)) | with_reducible refine' g_c ?_ | with_reducible refine' g_op ?_ | with_reducible refine' g_un ?_ | with_reducible refine' g_if ?_ | with_reducible refine' g_test ?_ | with_reducible refine' g_B ?_ | with_reducible refine' g_bl ?_
  | with_reducible refine' g_not ?_ | with_reducible refine' g_and ?_ | with_reducible refine' g_or ?_ | with_reducible refine' g_andV ?_ | with_reducible refine' g_orV ?_ | with_reducible refine' g_notV ?_ | with_reducible refine' g_nil ?_ | with_reducible refine' g_cons ?_ | with_reducible refine' g_CB ?_ | with_reducible refine' g_ca ?_
  | with_reducible refine' g_seq ?_ | with_reducible refine' g_next ?_ | with_reducible refine' g_asg ?_ | with_reducible refine' g_name ?_ | with_reducible refine' g_ret ?_ | with_reducible refine' g_retN ?_ | with_reducible refine' g_drop ?_ | with_reducible refine' g_ifS ?_ | with_reducible refine' g_sub ?_
  | with_reducible refine' g_I0 ?_ | with_reducible refine' g_U ?_ | ((with_reducible refine' g_eq ?h ?_); (case h => rfl)) | ((with_reducible refine' g_ne ?h ?_); (case h => rfl))
  | ((with_reducible refine' g_lenL ?h ?_); (case h => first | assumption | exact SqL.of (by assumption) | exact SqL.of upd_same)) | ((with_reducible refine' g_lenT ?h ?_); (case h => first | assumption | exact SqT.of (by assumption) | exact SqT.of upd_same))
  | ((with_reducible refine' g_ixL ?h ?ha ?_); (case h => first | assumption | exact SqL.of (by assumption) | exact SqL.of upd_same); (case ha => rfl)) | ((with_reducible refine' g_ixT ?h ?ha ?_); (case h => first | assumption | exact SqT.of (by assumption) | exact SqT.of upd_same); (case ha => rfl))
  | ((with_reducible refine' g_I ?h ?_); (case h => first | decide | omega | (first | refine' ⟨?_, ?_, ?_⟩ | refine' ⟨?_, ?_⟩ | refine' Or.inl ⟨?_, ?_⟩) <;> omega | (refine' Or.inr ⟨?_, ?_⟩ <;> omega)))
  | ((with_reducible refine' g_setL ?h ?ha ?_); (case h => first | assumption | exact upd_same); (case ha => rfl))
  | with_reducible refine' g_lcR ?_
  | with_reducible refine' g_M1 ?_ | with_reducible refine' g_isS ?_ | with_reducible refine' g_tyS ?_ | ((with_reducible refine' g_tyL ?h ?_); (case h => first | assumption | exact upd_same))
  | ((with_reducible refine' g_cat ?h ?h2 ?hl ?_); (case h => first | assumption | exact upd_same); (case h2 => first | assumption | exact upd_same); (case hl => first | decide | (simp; omega)))
  | with_reducible refine' g_lcS ?_
  | with_reducible refine' g_starts ?_ | with_reducible refine' g_chain ?_
  | ((with_reducible refine' g_lenS ?h ?_); (case h => first | exact len_le (by assumption) | exact len_le (by omega))) | ((with_reducible refine' g_rstrip ?h ?_); (case h => first | exact len_le (by assumption) | exact len_le (by omega))) | ((with_reducible refine' g_slX ?h ?_); (case h => first | exact len_le (by assumption) | exact len_le (by omega)))
  | with_reducible refine' g_sl ?_ | with_reducible refine' g_nopart ?_ | with_reducible refine' g_part ?_ | with_reducible refine' g_isI ?_
  | with_reducible refine' g_tru ?_
  | with_reducible refine' iteT ?_ | with_reducible refine' iteF ?_ | with_reducible refine' iteNT ?_ | with_reducible refine' iteNF ?_
  | with_reducible refine' g_int ?_ | with_reducible refine' g_insg ?_ | with_reducible refine' g_ninsg ?_ | with_reducible refine' g_isN ?_ | with_reducible refine' g_notN ?_ | with_reducible refine' g_lst ?_ | with_reducible refine' g_tup ?_ | with_reducible refine' g_BM ?_ | with_reducible refine' g_BM0 ?_)
local macro_rules | `(tactic| walk_at "go") => `(tactic| repeat' walk_at "go1")
local macro_rules | `(tactic| walk_at "go2") => `(tactic| repeat' (first | walk_at "go1" | with_reducible refine' g_cm ?_ | with_reducible refine' g_mk ?_ | with_reducible refine' g_for ?_ | ((with_reducible refine' g_rcm ?h ?ha ?_); (case h => first | assumption | exact upd_same); (case ha => first | rfl | decide | simp [List.lookup]))))
/- macro2 -/
local macro_rules | `(tactic| walk_at "go3a") => `(tactic| first
  | walk_at "go1" | with_reducible refine' g_cm ?_ | with_reducible refine' g_mk ?_ | with_reducible refine' g_for ?_ | with_reducible refine' g_fld ?_ | with_reducible refine' g_lcT0 ?_
  | ((with_reducible refine' g_rcm ?h ?ha ?_); (case h => first | assumption | exact upd_same); (case ha => first | rfl | decide | simp [List.lookup]))
  | ((with_reducible refine' g_shape ?hc ?hn ?h ?_); (case hc => assumption); (case hn => assumption); (case h => first | assumption | exact upd_same | (rw [upd_ne (by assumption)]; assumption))))
local macro_rules | `(tactic| walk_at "go3") => `(tactic| repeat' walk_at "go3a")
local macro_rules | `(tactic| walk_at "go4") => `(tactic| repeat' (first
  | walk_at "go3a" | ((with_reducible refine' iteDT ?h ?_); (case h => first | rfl | decide +kernel)) | ((with_reducible refine' iteDF ?h ?_); (case h => decide +kernel))))
/-! ## a text that no letter has -/
inductive TrAt (H : Hp) : V → Tr → Prop where
  | atm {p : Addr} {k : Str} {t : List Nat} : H p = some (.tup [.str k, .str (S t)]) → TrAt H (.ref p) (.atm k t)
  | nd {p : Addr} {k : Str} {vs : List V} {fs : List Tr} : H p = some (.tup (.str k :: vs)) → vs.length = fs.length → (∀ (i : Nat) (v : V) (t : Tr), vs[i]? = some v → fs[i]? = some t → TrAt H v t) → TrAt H (.ref p) (.nd k fs)
def TsAt (H : Hp) (vs : List V) (fs : List Tr) : Prop := vs.length = fs.length ∧ ∀ (i : Nat) (v : V) (t : Tr), vs[i]? = some v → fs[i]? = some t → TrAt H v t
theorem TrAt.tps {H H' : Hp} (s : Tps H H') : ∀ {v : V} {t : Tr}, TrAt H v t → TrAt H' v t := by
  intro v t h
  induction h with
  | atm h => exact .atm (s _ _ h)
  | nd h h1 _ ih => exact .nd (s _ _ h) h1 ih
theorem TsAt.tps {H H' : Hp} {vs : List V} {fs : List Tr} (h : TsAt H vs fs) (s : Tps H H') : TsAt H' vs fs := ⟨h.1, fun i v t h1 h2 => (h.2 i v t h1 h2).tps s⟩
theorem TsAt.nil {H : Hp} : TsAt H [] [] := ⟨rfl, fun i v t h => by simp at h⟩
theorem TsAt.app {H : Hp} {vs : List V} {fs : List Tr} {v : V} {t : Tr} (h : TsAt H vs fs) (g : TrAt H v t) : TsAt H (vs ++ [v]) (fs ++ [t]) := by
  refine ⟨by rw [List.length_append, List.length_append, h.1]; rfl, fun i x y h1 h2 => ?_⟩
  by_cases hi : i < vs.length
  · rw [List.getElem?_append_left hi] at h1
    rw [List.getElem?_append_left (by rw [← h.1]; exact hi)] at h2
    exact h.2 i x y h1 h2
  · have he : i = vs.length := by
      have := (List.getElem?_eq_some_iff.mp h1).1
      rw [List.length_append, List.length_singleton] at this
      omega
    subst he
    rw [List.getElem?_append_right (Nat.le_refl _), Nat.sub_self] at h1
    rw [h.1, List.getElem?_append_right (Nat.le_refl _), Nat.sub_self] at h2
    rw [← Option.some.inj h1, ← Option.some.inj h2]
    exact g
theorem datas_len : ∀ fs : List Tr, (Tr.datas fs).length = fs.length
  | [] => rfl
  | _ :: r => congrArg (· + 1) (datas_len r)
theorem datas_get : ∀ (fs : List Tr) (i : Nat), (Tr.datas fs)[i]? = fs[i]?.map Tr.data
  | [], i => by simp [Tr.datas]
  | f :: r, 0 => rfl
  | f :: r, i + 1 => by
    show (Tr.datas r)[i]? = r[i]?.map Tr.data
    exact datas_get r i
theorem wfs_mem : ∀ {fs : List Tr} {t : Tr}, Tr.wfs fs = true → t ∈ fs → t.wf = true
  | [], _, _, h => nomatch h
  | f :: r, t, hw, h => by
    have hw' : (f.wf && Tr.wfs r) = true := hw
    rw [Bool.and_eq_true] at hw'
    rcases List.mem_cons.mp h with rfl | h
    · exact hw'.1
    · exact wfs_mem hw'.2 h
theorem TrAt.th {H : Hp} : ∀ {v : V} {t : Tr}, TrAt H v t → t.wf = true → ThAt H v t.data := by
  intro v t h
  induction h with
  | @atm p k t h =>
    intro w
    exact ThAt.of_fm (.atm h) w
  | @nd p k vs fs h h1 _ ih =>
    intro w
    have w' : ((unK k || biK k) && Tr.wfs fs) = true := w
    rw [Bool.and_eq_true, Bool.or_eq_true] at w'
    have hkl : k.length < 100000 := by
      rw [str_len]
      rcases w'.1 with h | h
      · have := unK_len h; omega
      · have := biK_len h; omega
    refine .mkT h (.cons (.str hkl) ⟨by rw [datas_len, h1], fun i x d hx hd => ?_⟩)
    rw [datas_get] at hd
    obtain ⟨t, ht, rfl⟩ := Option.map_eq_some_iff.mp hd
    exact ih i x t hx ht (wfs_mem w'.2 (List.mem_of_getElem? ht))
def FrAtT (H : Hp) (x : Addr × FrT) : Prop := ∃ vs, H x.1 = some (.lst (kv x.2.1 ++ vs)) ∧ TsAt H vs x.2.2
def frLT (L : List (Addr × FrT)) : List V := (L.map fun x => V.ref x.1).reverse
theorem frLT_cons (x : Addr × FrT) (L : List (Addr × FrT)) : frLT (x :: L) = frLT L ++ [.ref x.1] := by
  unfold frLT
  rw [List.map_cons, List.reverse_cons]
theorem frLT_len (L : List (Addr × FrT)) : (frLT L).length = L.length := by
  unfold frLT
  rw [List.length_reverse, List.length_map]
structure FrsT (H0 H : Hp) (pf pt : Addr) (T : List V) (L : List (Addr × FrT)) : Prop where
  sm : Same H0 H
  ef : H pf = some (.lst (frLT L))
  et : H pt = some (.lst T)
  fr : ∀ x ∈ L, FrAtT H x
  nd : (L.map (·.1)).Nodup
  nw : ∀ x ∈ L, H0 x.1 = none ∧ x.1 ≠ pf ∧ x.1 ≠ pt
  nf : H0 pf = none
  ne : pt ≠ pf
theorem FrAtT.same {H H' : Hp} {x : Addr × FrT} (h : FrAtT H x) (s : Same H H') : FrAtT H' x := by
  obtain ⟨vs, e, f⟩ := h
  exact ⟨vs, s _ _ e, f.tps (Tps.same s)⟩
theorem FrAtT.but {H : Hp} {x : Addr × FrT} {p : Addr} {xs ys : List V} (h : FrAtT H x) (e : H p = some (.lst xs)) (n : x.1 ≠ p) : FrAtT (upd H p (.lst ys)) x := by
  obtain ⟨vs, e1, f⟩ := h
  exact ⟨vs, by rw [upd_ne n]; exact e1, f.tps (Tps.lst e)⟩
section
variable {H0 H : Hp} {pf pt q : Addr} {T : List V} {L : List (Addr × FrT)} {o : Option Str} {fs : List Tr} {x : FrT} {vs : List V} {v : V} {b : Tr}
theorem FrsT.same {H' : Hp} (h : FrsT H0 H pf pt T L) (s : Same H H') : FrsT H0 H' pf pt T L := ⟨h.sm.trans s, s _ _ h.ef, s _ _ h.et, fun x hx => (h.fr x hx).same s, h.nd, h.nw, h.nf, h.ne⟩
theorem FrsT.app (h : FrsT H0 H pf pt T ((q, (o, fs)) :: L)) (e : H q = some (.lst (kv o ++ vs))) (f : TsAt H vs fs) (g : TrAt H v b) : FrsT H0 (upd H q (.lst (kv o ++ vs ++ [v]))) pf pt T ((q, (o, fs ++ [b])) :: L) := by
  have nq := h.nw _ (List.mem_cons_self ..)
  have nd := h.nd
  rw [List.map_cons, List.nodup_cons] at nd
  refine ⟨Same.mut h.sm nq.1, ?_, ?_, fun y hy => ?_, h.nd, fun y hy => ?_, h.nf, h.ne⟩
  · rw [upd_ne nq.2.1.symm, h.ef, frLT_cons, frLT_cons]
  · rw [upd_ne nq.2.2.symm]
    exact h.et
  · rcases List.mem_cons.mp hy with rfl | hy
    · exact ⟨vs ++ [v], by rw [← List.append_assoc]; exact upd_same, (TsAt.app f g).tps (Tps.lst e)⟩
    · exact (h.fr y (List.mem_cons_of_mem _ hy)).but e fun z => nd.1 (List.mem_map.mpr ⟨y, hy, z⟩)
  · rcases List.mem_cons.mp hy with rfl | hy
    · exact nq
    · exact h.nw y (List.mem_cons_of_mem _ hy)
theorem FrsT.push {k : Str} (h : FrsT H0 H pf pt T L) (n : H q = none) : FrsT H0 (upd (upd H q (.lst [.str k])) pf (.lst (frLT L ++ [.ref q]))) pf pt T ((q, (some k, [])) :: L) := by
  have s1 : Same H (upd H q (.lst [.str k])) := Same.upd n
  have h1 := h.same s1
  have nqf : q ≠ pf := fun z => by rw [z, h.ef] at n; cases n
  have nqt : q ≠ pt := fun z => by rw [z, h.et] at n; cases n
  have nqL : ∀ x ∈ L, x.1 ≠ q := fun x hx z => by
    obtain ⟨vs, e, _⟩ := h.fr x hx
    rw [z, n] at e
    cases e
  refine ⟨Same.mut h1.sm h.nf, ?_, ?_, fun y hy => ?_, ?_, fun y hy => ?_, h.nf, h.ne⟩
  · rw [upd_same, frLT_cons]
  · rw [upd_ne h.ne]
    exact h1.et
  · rcases List.mem_cons.mp hy with rfl | hy
    · exact FrAtT.but ⟨[], upd_same, .nil⟩ h1.ef nqf
    · exact (h1.fr y hy).but h1.ef (h.nw y hy).2.1
  · rw [List.map_cons, List.nodup_cons]
    refine ⟨fun z => ?_, h.nd⟩
    obtain ⟨y, hy, e⟩ := List.mem_map.mp z
    exact nqL y hy e
  · rcases List.mem_cons.mp hy with rfl | hy
    · exact ⟨Same.non h.sm n, nqf, nqt⟩
    · exact h.nw y hy
theorem FrsT.pop (h : FrsT H0 H pf pt T ((q, x) :: L)) : FrsT H0 (upd H pf (.lst (frLT L))) pf pt T L ∧ FrAtT (upd H pf (.lst (frLT L))) (q, x) := by
  have nd := h.nd
  rw [List.map_cons, List.nodup_cons] at nd
  refine ⟨⟨Same.mut h.sm h.nf, upd_same, ?_, fun y hy => ?_, nd.2, fun y hy => h.nw y (List.mem_cons_of_mem _ hy), h.nf, h.ne⟩, ?_⟩
  · rw [upd_ne h.ne]
    exact h.et
  · exact (h.fr y (List.mem_cons_of_mem _ hy)).but h.ef (h.nw y (List.mem_cons_of_mem _ hy)).2.1
  · exact (h.fr _ (List.mem_cons_self ..)).but h.ef (h.nw _ (List.mem_cons_self ..)).2.1
end
/-- the dict of the heads, and what it has not -/
structure HdX (K : PySem.W.Frag) (w : World) (mg : Str → Option Value) : Prop where
  ex : ∃ (a : Addr) (es : Array DictEntry) (n : Nat), mg "HEADS" = some (.ref a) ∧ KDict K w a es n ∧ (∀ k, (unK k || biK k) = true → ∃ t, PySem.W.nsIn K a (S (k.cps.toList ++ [40])) = some (some (.str k t))) ∧
    ∀ z : Str, (∀ k, (unK k || biK k) = true → z ≠ S (k.cps.toList ++ [40])) → PySem.W.nsIn K a z = some none
theorem HdX.hd {K : PySem.W.Frag} {w : World} {mg : Str → Option Value} (h : HdX K w mg) : Hd K w mg := by
  obtain ⟨a, es, n, h1, h2, h3, _⟩ := h.ex
  exact ⟨a, es, n, h1, h2, h3⟩
/-- no letter has this text -/
def NoL (T : List Nat) : Prop := ∀ a : Fm, a.ok = true → a.txt ≠ T
def TbW (H0 : Hp) (u : V) (pf pt : Addr) (T : List Nat) (i : Nat) : L2.St → Hp → Prop := fun σ H => ∃ (w : Bool) (L : List (Addr × FrT)) (x3 x4 x5 : Option V), σ = [some u, some (.ref pf), some (.bl w), x3, x4, x5] ∧
  FrsT H0 H pf pt ((tokG T).map fun t => .str (S t)) L ∧ Bot (L.map (·.2)) ∧ ren w (L.map (·.2)) = ((tokG T).take i).flatten ∧ (∀ x ∈ L, Tr.wfs x.2.2 = true) ∧ (w = false → ∃ q o fs r, L = (q, (o, fs)) :: r ∧ fs ≠ []) ∧ L.length ≤ i + 1 ∧ ∀ x ∈ L, x.2.2.length ≤ i
def spTextBad : Sp := fun vs H Q _ => ∃ T : List Nat, vs = [.str (S T)] ∧ T.length ≤ 2000 ∧ NoL T ∧ ∀ H', Same H H' → Q .non H'
theorem TbW.app {H0 H : Hp} {u v : V} {pf pt q : Addr} {T : List Nat} {b : Tr} {i : Nat} {L : List (Addr × FrT)} {o : Option Str} {fs : List Tr} {vs : List V} {x3 x4 x5 : Option V} (h : FrsT H0 H pf pt ((tokG T).map fun t => .str (S t)) ((q, (o, fs)) :: L)) (e : H q = some (.lst (kv o ++ vs))) (f : TsAt H vs fs) (g : TrAt H v b)
    (hb : Bot ((o, fs) :: L.map (·.2))) (hr : ren false ((o, fs ++ [b]) :: L.map (·.2)) = ((tokG T).take (i + 1)).flatten) (wb : b.wf = true) (hw : ∀ x ∈ (q, (o, fs)) :: L, Tr.wfs x.2.2 = true) (hL : L.length ≤ i) (hf : ∀ x ∈ (q, (o, fs)) :: L, x.2.2.length ≤ i) : TbW H0 u pf pt T (i + 1) [some u, some (.ref pf), some (.bl false), x3, x4, x5] (upd H q (.lst (kv o ++ vs ++ [v]))) :=
  ⟨false, (q, (o, fs ++ [b])) :: L, _, _, _, rfl, h.app e f g, hb.set, hr, fun x hx => by
    rcases List.mem_cons.mp hx with rfl | hx
    · show Tr.wfs (fs ++ [b]) = true
      have h1 : Tr.wfs fs = true := hw _ (List.mem_cons_self ..)
      rw [wfs_app, h1, wb]
      rfl
    · exact hw x (List.mem_cons_of_mem _ hx), fun _ => ⟨q, o, _, _, rfl, by simp⟩, by rw [List.length_cons]; omega, fun x hx => by
    rcases List.mem_cons.mp hx with rfl | hx
    · have := hf _ (List.mem_cons_self ..)
      show (fs ++ [b]).length ≤ i + 1
      rw [List.length_append, List.length_singleton]
      have h2 : fs.length ≤ i := this
      omega
    · exact Nat.le_succ_of_le (hf x (List.mem_cons_of_mem _ hx))⟩
section
variable {P : Program} {w : World} {K : PySem.W.Frag} {mg : Str → Option Value} {base : Heap}
theorem ca_text_bad (T : Bl K mg) (HD : HdX K w mg) (D : Df K mg "text_form" s_text_form p_text_form) (c_tokens : Ca P w K mg base 1 "tokens" spTokensG) (c_atom_form : Ca P w K mg base 3 "atom_form" spAtomForm) (c_first_fault : Ca P w K mg base 5 "first_fault" spFaultD) : Ca P w K mg base 6 "text_form" spTextBad := by
  obtain ⟨aH, es, nH, hH, HK, hk, hmiss⟩ := HD.ex
  have c_HEADS : ∃ u, mg "HEADS" = some u ∧ RelV (.ref aH) u := ⟨_, hH, rfl⟩
  refine ca_n D sc_text_form (fun vs H Q E h => ?_) (fun f cdv A outer s H vs Q E hr h => ?_)
  · obtain ⟨a, rfl, _⟩ := h
    rfl
  · obtain ⟨X, rfl, hl, hno, q⟩ := h
    refine ⟨_, (pss_cons (ps_if (pt_cmpR oq_insg pe_str (pv 0) rfl)
  (pss_one (ps_ret pe_non))
  pss_nil)
  (pss_cons (ps_set (i := 1) sc_text_form.nd rfl (Or.inl rfl) (pe_lst (pa_cons (pe_lst pa_nil) pa_nil)))
  (pss_cons (ps_set (i := 2) sc_text_form.nd rfl (Or.inl rfl) pe_bl)
  (pss_cons (ps_for PassesOwn.never rfl (pi_list (pe_ca c_tokens hr (by decide) (by rfl) (pa_cons (pv 0) pa_nil))) (pg_name (i := 3) sc_text_form.nd rfl (Or.inl rfl))
  (pss_cons (ps_set (i := 4) sc_text_form.nd rfl (Or.inl rfl) (pe_ca c_atom_form hr (by decide) (by rfl) (pa_cons (pv 3) pa_nil)))
  (pss_one (ps_if (PW.pt (pw_and (pt_val (pv 2)) (pw_and1 (pt_cmpR oq_notN (pv 4) pe_non (nomark _)))))
  (pss_cons (ps_expr (pe_bm PySem.F.plainAttrs_list PySem.F.slot_list_append PySem.F.type_list_append mt_append (pe_ix ix_list (pv 1) (pe_un un_neg pe_int) (fun _ _ => rfl)) (pa_cons (pv 4) pa_nil)))
  (pss_one (ps_set (i := 2) sc_text_form.nd rfl (Or.inl rfl) pe_bl)))
  (pss_one (ps_if (PW.pt (pw_and (pt_val (pv 2)) (pw_and1 (pt_cmpR (op_in_kd HK) (pv 3) (C8.pe_gc (by rfl) c_HEADS) rfl))))
  (pss_one (ps_expr (pe_bm PySem.F.plainAttrs_list PySem.F.slot_list_append PySem.F.type_list_append mt_append (pv 1) (pa_cons (pe_lst (pa_cons (pe_ix ix_kdict (C8.pe_gc (by rfl) c_HEADS) (pv 3) (fun _ _ => rfl)) pa_nil)) pa_nil))))
  (pss_one (ps_if (PW.pt (pw_and (pt_not (pt_val (pv 2))) (pw_and1 (pt_cmpR op_eq (pv 3) pe_str (nomark _)))))
  (pss_one (ps_set (i := 2) sc_text_form.nd rfl (Or.inl rfl) pe_bl))
  (pss_one (ps_if (PW.pt (pw_and (pt_not (pt_val (pv 2))) (pw_and (pt_cmpR op_eq (pv 3) pe_str (nomark _)) (pw_and1 (pt_cmpR op_gt (pe_callB cq_len (by rfl) T.b_len (by decide +kernel) (pa_cons (pv 1) pa_nil)) pe_int (nomark _))))))
  (pss_cons (ps_set (i := 5) sc_text_form.nd rfl (Or.inl rfl) (pe_callTy call_tuple_of (by rfl) T.b_tuple (by decide +kernel) (pa_cons (pe_bm0 PySem.F.plainAttrs_list PySem.F.slot_list_pop PySem.F.type_list_pop mt_pop (pv 1)) pa_nil)))
  (pss_one (ps_expr (pe_bm PySem.F.plainAttrs_list PySem.F.slot_list_append PySem.F.type_list_append mt_append (pe_ix ix_list (pv 1) (pe_un un_neg pe_int) (fun _ _ => rfl)) (pa_cons (pv 5) pa_nil)))))
  (pss_one (ps_ret pe_non))))))))))))
  (pss_cons (ps_if (PW.pt (pw_or (pt_val (pv 2)) (pw_or (pt_cmpR op_ne (pe_callB cq_len (by rfl) T.b_len (by decide +kernel) (pa_cons (pv 1) pa_nil)) pe_int (nomark _)) (pw_or1 (pt_cmpR op_ne (pe_callB cq_len (by rfl) T.b_len (by decide +kernel) (pa_cons (pe_ix ix_list (pv 1) pe_int (fun _ _ => rfl)) pa_nil)) pe_int (nomark _))))))
  (pss_one (ps_ret pe_non))
  pss_nil)
  (pss_one (ps_ret (pe_ifExp (pt_cmpR oq_isN (pe_ca c_first_fault hr (by decide) (by rfl) (pa_cons (pe_ix ix_list (pe_ix ix_list (pv 1) pe_int (fun _ _ => rfl)) pe_int (fun _ _ => rfl)) pa_nil)) pe_non (nomark _)) (pe_ix ix_list (pe_ix ix_list (pv 1) pe_int (fun _ _ => rfl)) pe_int (fun _ _ => rfl)) pe_non)))))))), ?_⟩
    walk_at "go3"
    refine ⟨10, _, congrArg V.str (by decide +kernel : Str.ofString "\n" = ⟨#[10]⟩), rfl, ?_⟩
    walk_at "go3"
    refine iteD (fun _ => ?_) (fun h10 => ?_)
    · walk_at "go3"
      exact q H (Same.refl _)
    have hX : ∀ c ∈ X, c ≠ 10 := fun c hc z => h10 (by rw [← z]; exact hc)
    walk_at "go3"
    refine ⟨by show 0 ≤ sizeLine; decide, fun q0 hq0 => ?_⟩
    walk_at "go3"
    refine ⟨by show 1 ≤ sizeLine; decide, fun pf hpf => ?_⟩
    have s1 : Same H (upd H q0 (.lst [])) := Same.upd hq0
    have e1 : upd H q0 (.lst []) q0 = some (.lst []) := upd_same
    generalize upd H q0 (.lst []) = H1 at s1 e1 hpf ⊢
    have npf : H pf = none := Same.non s1 hpf
    have nq0 : q0 ≠ pf := fun z => by rw [← z, e1] at hpf; cases hpf
    have s2 : Same H1 (upd H1 pf (.lst [.ref q0])) := Same.upd hpf
    have e2 : upd H1 pf (.lst [.ref q0]) pf = some (.lst [.ref q0]) := upd_same
    generalize upd H1 pf (.lst [.ref q0]) = H2 at s2 e2 ⊢
    have s02 := s1.trans s2
    have e12 := s2 _ _ e1
    clear s1 s2 e1 hpf
    walk_at "go3"
    refine g_forL0 ?_
    walk_at "go3"
    refine ⟨X, rfl, hl, fun pt H3 s3 hpt0 hpt => ?_⟩
    have fr0 : FrsT H H3 pf pt ((tokG X).map fun t => .str (S t)) [(q0, (none, []))] := ⟨s02.trans s3, s3 _ _ e2, hpt, fun x hx => by
      rw [List.mem_singleton.mp hx]
      exact ⟨[], s3 _ _ e12, .nil⟩, by simp, fun x hx => by
      rw [List.mem_singleton.mp hx]
      exact ⟨hq0, nq0, fun z => by rw [← z, e12] at hpt0; cases hpt0⟩, npf, fun z => by rw [z, e2] at hpt0; cases hpt0⟩
    clear e2 e12 s02 s3 hpt hpt0
    have htl := tokG_len hl
    have htf := tokG_flat hX
    refine r_forL (xs := (tokG X).map fun t => .str (S t)) (TbW H (.str (S X)) pf pt X) ⟨true, [(q0, (none, []))], none, none, none, rfl, fr0, rfl, rfl, fun x hx => by rw [List.mem_singleton.mp hx]; rfl, (fun z => nomatch z), Nat.le_refl _, fun x hx => by rw [List.mem_singleton.mp hx]; exact Nat.le_refl _⟩ (fun i σ' H' p => ?_) (fun i x σ' H4 hx p => ?_) (fun σ' H4 p => ?_)
    · obtain ⟨w1, L, x3, x4, x5, rfl, fr, _⟩ := p
      exact SqL.of fr.et
    · obtain ⟨w1, L, x3, x4, x5, rfl, fr, hB, hR, hW, hne, hL, hfs⟩ := p
      rw [List.getElem?_map] at hx
      obtain ⟨tk, htk, rfl⟩ := Option.map_eq_some_iff.mp hx
      have hil : i < (tokG X).length := (List.getElem?_eq_some_iff.mp htk).1
      have hR1 : ((tokG X).take (i + 1)).flatten = ren w1 (L.map (·.2)) ++ tk := by
        rw [List.take_succ, htk, List.flatten_append, hR]
        simp
      have htkl : tk.length ≤ 2000 := by
        have := mem_flat (List.mem_of_getElem? htk)
        rw [htf] at this
        omega
      clear hR
      walk_at "go3"
      refine ⟨tk, rfl, by omega, fun H5 v s5 hv => ?_⟩
      have fr5 := fr.same s5
      have ef5 := fr5.ef
      clear fr
      cases w1 with
      | true =>
        cases hkd : kindOf tk with
        | some kt =>
          obtain ⟨k, t⟩ := kt
          rw [hkd] at hv
          obtain ⟨p, rfl, ep⟩ := hv
          have okk := kind_ok hkd
          have etx := (atTxt_kind hkd).1
          cases L with
          | nil => exact hB.elim
          | cons y L' =>
            obtain ⟨q1, o, fs⟩ := y
            rw [frLT_cons] at ef5
            obtain ⟨vs, eq', fvs'⟩ := fr5.fr _ (List.mem_cons_self ..)
            have eq : H5 q1 = some (.lst (kv o ++ vs)) := eq'
            have fvs : TsAt H5 vs fs := fvs'
            have hvl : vs.length = fs.length := fvs.1
            have hk1 := kv_len o
            have hf0 : fs.length ≤ i := hfs _ (List.mem_cons_self ..)
            walk_at "go3"
            refine iteND (fun _ => ?_) (fun h => nomatch h)
            walk_at "go3"
            refine g_ixL (v := .ref q1) (SqL.of ef5) at_last ?_
            walk_at "go3"
            refine g_app eq (by rw [List.length_append, sizeLine_eq]; omega) ?_
            walk_at "go3"
            exact TbW.app fr5 eq fvs (.atm ep) hB (by rw [hR1, ren_add]; show _ = _ ++ tk; rw [← etx]; rfl) okk hW (by rw [List.length_cons] at hL; omega) hfs
        | none =>
          rw [hkd] at hv
          obtain rfl : v = .non := hv
          walk_at "go3"
          refine iteND (fun h => absurd rfl h) (fun _ => ?_)
          walk_at "go3"
          by_cases hh : ∃ k, (unK k || biK k) = true ∧ tk = k.cps.toList ++ [40]
          · obtain ⟨k, hk0, rfl⟩ := hh
            obtain ⟨tH, eH⟩ := hk k hk0
            refine ⟨_, _, rfl, rfl, eH, ?_⟩
            refine ⟨_, rfl, ?_⟩
            refine iteT ?_
            walk_at "go3"
            refine ⟨aH, _, .str k, rfl, rfl, ⟨es, nH, _, HK.at_, HK.lit, eH, ⟨tH, rfl⟩⟩, ?_⟩
            walk_at "go3"
            refine ⟨by show 1 ≤ sizeLine; decide, fun q1 hq1 => ?_⟩
            walk_at "go3"
            refine g_app (fr5.same (Same.upd hq1)).ef (by rw [frLT_len, sizeLine_eq]; omega) ?_
            exact ⟨true, (q1, (some k, [])) :: L, _, _, _, rfl, fr5.push hq1, hB.push hk0, by rw [hR1]; exact ren_head k _, fun x hx => by
              rcases List.mem_cons.mp hx with rfl | hx
              · rfl
              · exact hW x hx, (fun z => nomatch z), by rw [List.length_cons]; omega, fun x hx => by
              rcases List.mem_cons.mp hx with rfl | hx
              · exact Nat.zero_le _
              · exact Nat.le_succ_of_le (hfs x hx)⟩
          · refine ⟨_, none, rfl, rfl, hmiss _ (fun k hk0 z => hh ⟨k, hk0, congrArg TL.tl z⟩), ?_⟩
            refine ⟨_, rfl, ?_⟩
            refine iteF ?_
            walk_at "go3"
            exact q _ fr5.sm
      | false =>
        obtain ⟨q1, o, fs, L', rfl, hne'⟩ := hne rfl
        walk_at "go3"
        refine iteD (fun hc => ?_) (fun hnc => ?_)
        · have e44 : tk = [44, 32] := by
            have h1 := V.str.inj hc
            have h2 := congrArg TL.tl h1
            exact h2.trans (by decide +kernel)
          subst e44
          walk_at "go3"
          exact ⟨true, (q1, (o, fs)) :: L', _, _, _, rfl, fr5, hB, by rw [hR1]; exact ren_comma o fs _ hne', hW, (fun z => nomatch z), by omega, fun x hx => Nat.le_succ_of_le (hfs x hx)⟩
        · walk_at "go3"
          refine iteD (fun hc => ?_) (fun _ => ?_)
          · have e41 : tk = [41] := by
              have h1 := V.str.inj hc
              have h2 := congrArg TL.tl h1
              exact h2.trans (by decide +kernel)
            subst e41
            walk_at "go3"
            cases L' with
            | nil =>
              refine iteDF (by show ¬ (1 < ((1 : Nat) : Int)); decide) ?_
              walk_at "go3"
              exact q _ fr5.sm
            | cons y L' =>
              obtain ⟨q2, o2, gs⟩ := y
              obtain ⟨⟨k, hok, hk0⟩, hB2⟩ : (∃ k, o = some k ∧ (unK k || biK k) = true) ∧ Bot ((o2, gs) :: L'.map fun (x : Addr × FrT) => x.2) := hB
              subst hok
              refine iteDT (by rw [frLT_len, List.length_cons, List.length_cons]; omega) ?_
              walk_at "go3"
              rw [frLT_cons] at ef5
              have fr6' := fr5.pop
              refine g_pop ef5 ?_
              obtain ⟨fr6, f6⟩ := fr6'
              generalize upd H5 pf (.lst (frLT ((q2, (o2, gs)) :: L'))) = H6 at fr6 f6 ⊢
              obtain ⟨vs1, e1, fv1⟩ := f6
              walk_at "go3"
              refine ⟨q1, _, rfl, .inl ⟨SqL.of e1, fun p hp => ?_⟩⟩
              have s7 : Same H6 (upd H6 p (.tup (V.str k :: vs1))) := Same.upd hp
              have fv1' : TsAt H6 vs1 fs := fv1
              have e7 : TrAt (upd H6 p (.tup (V.str k :: vs1))) (.ref p) (.nd k fs) := .nd upd_same fv1'.1 ((fv1'.tps (Tps.same s7)).2)
              show gName 5 (V.ref p) _ (upd H6 p (.tup (V.str k :: vs1))) _
              generalize upd H6 p (.tup (V.str k :: vs1)) = H7 at s7 e7 ⊢
              have fr7 := fr6.same s7
              have ef7 := fr7.ef
              rw [frLT_cons] at ef7
              obtain ⟨vs, eq', fvs'⟩ := fr7.fr _ (List.mem_cons_self ..)
              have eq : H7 q2 = some (.lst (kv o2 ++ vs)) := eq'
              have fvs : TsAt H7 vs gs := fvs'
              have hvl : vs.length = gs.length := fvs.1
              have hk1 := kv_len o2
              have hf0 : gs.length ≤ i := hfs _ (List.mem_cons_of_mem _ (List.mem_cons_self ..))
              walk_at "go3"
              refine g_ixL (v := .ref q2) (SqL.of ef7) at_last ?_
              walk_at "go3"
              refine g_app eq (by rw [List.length_append, sizeLine_eq]; omega) ?_
              exact TbW.app fr7 eq fvs e7 hB2 (by rw [hR1]; exact ren_close k fs o2 gs _) (by
                show ((unK k || biK k) && Tr.wfs fs) = true
                have h1 : Tr.wfs fs = true := hW _ (List.mem_cons_self ..)
                rw [hk0, h1]
                rfl) (fun x hx => hW x (List.mem_cons_of_mem _ hx)) (by rw [List.length_cons, List.length_cons] at hL; omega) fun x hx => hfs x (List.mem_cons_of_mem _ hx)
          · walk_at "go3"
            exact q _ fr5.sm
    · obtain ⟨w1, L, x3, x4, x5, rfl, fr, hB, hR, hW, hne, hL, hfs⟩ := p
      rw [List.length_map, List.take_length, htf] at hR
      have ef := fr.ef
      cases w1 with
      | true =>
        walk_at "go3"
        exact q _ fr.sm
      | false =>
        obtain ⟨q1, o, fs, L', rfl, hne'⟩ := hne rfl
        walk_at "go3"
        refine iteND (fun _ => ?_) (fun h1 => ?_)
        · walk_at "go3"
          exact q _ fr.sm
        · have hl0 : L' = [] := by
            have := V.int.inj h1
            rw [frLT_len, List.length_cons] at this
            exact List.length_eq_zero_iff.mp (by omega)
          subst hl0
          have ho : o = none := hB
          subst ho
          have ef' : H4 pf = some (.lst [.ref q1]) := ef
          obtain ⟨vs, eq', fvs'⟩ := fr.fr _ (List.mem_cons_self ..)
          have eq : H4 q1 = some (.lst vs) := eq'
          have fvs : TsAt H4 vs fs := fvs'
          walk_at "go3"
          refine iteND (fun _ => ?_) (fun h2 => ?_)
          · walk_at "go3"
            exact q _ fr.sm
          · obtain ⟨va, rfl⟩ : ∃ v, vs = [v] := by
              have := V.int.inj h2
              match vs, this with
              | [v], _ => exact ⟨v, rfl⟩
              | [], h => exact absurd h (by decide)
              | _ :: _ :: _, h => rw [List.length_cons, List.length_cons] at h; omega
            obtain ⟨ta, rfl⟩ : ∃ t, fs = [t] := by
              have := fvs.1
              match fs, this with
              | [t], _ => exact ⟨t, rfl⟩
              | [], h => simp at h
              | _ :: _ :: _, h => simp at h
            have tva := fvs.2 0 va ta rfl rfl
            have wta : ta.wf = true := by
              have h : (ta.wf && true) = true := hW _ (List.mem_cons_self ..)
              rw [Bool.and_true] at h
              exact h
            have hRt : ta.txt = X := by
              have h : [] ++ ([] ++ Tr.txts [ta]) = X := hR
              rw [txts_one] at h
              exact h
            obtain ⟨z1, z2, z3⟩ := Tr.sz ta wta
            rw [hRt] at z1 z2
            walk_at "go3"
            refine ⟨va, ta.data, rfl, tva.th wta, z3, by omega, by omega, fun H5 x s5 fx => ?_⟩
            cases hf : flt ta.data with
            | none =>
              obtain ⟨a, oka, ea, _⟩ := tr_good ta wta hf
              exact absurd (ea.trans hRt) (hno a oka)
            | some p =>
              rw [hf] at fx
              obtain ⟨ap, rfl, _⟩ := fx
              walk_at "go3"
              refine iteD (fun h => nomatch h) (fun _ => ?_)
              walk_at "go3"
              exact q _ (fr.sm.trans s5)
end
end Op

namespace Op
open PySem PySem.Spec PyProof.Rows L2 SX OpC
local macro_rules | `(tactic| walk_at "go1") => `(tactic| first
  | ((with_reducible refine' g_var ?h ?_); (case h => rfl)) | with_reducible refine' g_c ?_ | with_reducible refine' g_op ?_ | with_reducible refine' g_un ?_ | with_reducible refine' g_if ?_ | with_reducible refine' g_test ?_ | with_reducible refine' g_B ?_ | with_reducible refine' g_bl ?_
  | with_reducible refine' g_not ?_ | with_reducible refine' g_and ?_ | with_reducible refine' g_or ?_ | with_reducible refine' g_andV ?_ | with_reducible refine' g_orV ?_ | with_reducible refine' g_notV ?_ | with_reducible refine' g_nil ?_ | with_reducible refine' g_cons ?_ | with_reducible refine' g_CB ?_ | with_reducible refine' g_ca ?_
  | with_reducible refine' g_seq ?_ | with_reducible refine' g_next ?_ | with_reducible refine' g_asg ?_ | with_reducible refine' g_name ?_ | with_reducible refine' g_ret ?_ | with_reducible refine' g_retN ?_ | with_reducible refine' g_drop ?_ | with_reducible refine' g_ifS ?_ | with_reducible refine' g_sub ?_
  | with_reducible refine' g_I0 ?_ | with_reducible refine' g_U ?_ | ((with_reducible refine' g_eq ?h ?_); (case h => rfl)) | ((with_reducible refine' g_ne ?h ?_); (case h => rfl))
  | ((with_reducible refine' g_lenL ?h ?_); (case h => first | assumption | exact SqL.of (by assumption) | exact SqL.of upd_same)) | ((with_reducible refine' g_lenT ?h ?_); (case h => first | assumption | exact SqT.of (by assumption) | exact SqT.of upd_same))
  | ((with_reducible refine' g_ixL ?h ?ha ?_); (case h => first | assumption | exact SqL.of (by assumption) | exact SqL.of upd_same); (case ha => rfl)) | ((with_reducible refine' g_ixT ?h ?ha ?_); (case h => first | assumption | exact SqT.of (by assumption) | exact SqT.of upd_same); (case ha => rfl))
  | ((with_reducible refine' g_I ?h ?_); (case h => first | decide | omega | (first | refine' ⟨?_, ?_, ?_⟩ | refine' ⟨?_, ?_⟩ | refine' Or.inl ⟨?_, ?_⟩) <;> omega | (refine' Or.inr ⟨?_, ?_⟩ <;> omega)))
  | ((with_reducible refine' g_setL ?h ?ha ?_); (case h => first | assumption | exact upd_same); (case ha => rfl))
  | with_reducible refine' g_lcR ?_
  | with_reducible refine' g_M1 ?_ | with_reducible refine' g_isS ?_ | with_reducible refine' g_tyS ?_ | ((with_reducible refine' g_tyL ?h ?_); (case h => first | assumption | exact upd_same))
  | ((with_reducible refine' g_cat ?h ?h2 ?hl ?_); (case h => first | assumption | exact upd_same); (case h2 => first | assumption | exact upd_same); (case hl => first | decide | (simp; omega)))
  | with_reducible refine' g_lcS ?_
  | with_reducible refine' g_starts ?_ | with_reducible refine' g_chain ?_
  | ((with_reducible refine' g_lenS ?h ?_); (case h => first | exact len_le (by assumption) | exact len_le (by omega))) | ((with_reducible refine' g_rstrip ?h ?_); (case h => first | exact len_le (by assumption) | exact len_le (by omega))) | ((with_reducible refine' g_slX ?h ?_); (case h => first | exact len_le (by assumption) | exact len_le (by omega)))
  | with_reducible refine' g_sl ?_ | with_reducible refine' g_nopart ?_ | with_reducible refine' g_part ?_ | with_reducible refine' g_isI ?_
  | with_reducible refine' g_tru ?_
  | with_reducible refine' iteT ?_ | with_reducible refine' iteF ?_ | with_reducible refine' iteNT ?_ | with_reducible refine' iteNF ?_
  | with_reducible refine' g_int ?_ | with_reducible refine' g_insg ?_ | with_reducible refine' g_ninsg ?_ | with_reducible refine' g_isN ?_ | with_reducible refine' g_notN ?_ | with_reducible refine' g_lst ?_ | with_reducible refine' g_tup ?_ | with_reducible refine' g_BM ?_ | with_reducible refine' g_BM0 ?_)
local macro_rules | `(tactic| walk_at "go") => `(tactic| repeat' walk_at "go1")
local macro_rules | `(tactic| walk_at "go2") => `(tactic| repeat' (first | walk_at "go1" | with_reducible refine' g_cm ?_ | with_reducible refine' g_mk ?_ | with_reducible refine' g_for ?_ | ((with_reducible refine' g_rcm ?h ?ha ?_); (case h => first | assumption | exact upd_same); (case ha => first | rfl | decide | simp [List.lookup]))))
/- macro2 -/
local macro_rules | `(tactic| walk_at "go3a") => `(tactic| first
  | walk_at "go1" | with_reducible refine' g_cm ?_ | with_reducible refine' g_mk ?_ | with_reducible refine' g_for ?_ | with_reducible refine' g_fld ?_ | with_reducible refine' g_lcT0 ?_
  | ((with_reducible refine' g_rcm ?h ?ha ?_); (case h => first | assumption | exact upd_same); (case ha => first | rfl | decide | simp [List.lookup]))
  | ((with_reducible refine' g_shape ?hc ?hn ?h ?_); (case hc => assumption); (case hn => assumption); (case h => first | assumption | exact upd_same | (rw [upd_ne (by assumption)]; assumption))))
local macro_rules | `(tactic| walk_at "go3") => `(tactic| repeat' walk_at "go3a")
local macro_rules | `(tactic| walk_at "go4") => `(tactic| repeat' (first
  | walk_at "go3a" | ((with_reducible refine' iteDT ?h ?_); (case h => first | rfl | decide +kernel)) | ((with_reducible refine' iteDF ?h ?_); (case h => decide +kernel))))
/-! ## the law's own reading -/
theorem slice_mid {X : List Nat} {i j : Nat} (hij : i ≤ j) (hi : i ≤ X.length) : Txt.slice (S X) (some (i : Int)) (some (j : Int)) = S ((X.drop i).take (j - i)) := by
  have fin : ∀ k : Nat, i ≤ k → k ≤ X.length → Txt.slice (S X) (some (i : Int)) (some (k : Int)) = S ((X.drop i).take (k - i)) := fun k h1 h2 => by
    have e := beq_iff_eq.mp (PyProof.Rows.slice_closes (x := S X) (i := (i : Int)) (j := (k : Int)) ⟨by omega, by omega, by show (k : Int) ≤ (X.length : Int); omega⟩)
    refine e.trans (TL.ext_tl ?_)
    show (X.drop (i : Int).toNat).take ((k : Int) - (i : Int)).toNat = (X.drop i).take (k - i)
    rw [Int.toNat_natCast, show ((k : Int) - (i : Int)).toNat = k - i by omega]
  by_cases hj : j ≤ X.length
  · exact fin j hij hj
  · have e2 : Txt.slice (S X) (some (i : Int)) (some (j : Int)) = Txt.slice (S X) (some (i : Int)) (some (X.length : Int)) := by
      unfold Txt.slice
      rw [S_len, idx_hi (by omega)]
    rw [e2, fin X.length hi (Nat.le_refl _), List.take_of_length_le (by rw [List.length_drop]; exact Nat.le_refl _), List.take_of_length_le (by rw [List.length_drop]; omega)]
abbrev sixD : List (Key × V) := [(.inr (Str.ofString "pair"), V.int 2), (.inr (Str.ofString "seal"), .int 2), (.inr (Str.ofString "lock"), .int 2), (.inr (Str.ofString "mark"), .int 1), (.inr (Str.ofString "open"), .int 1), (.inr (Str.ofString "own"), .int 1)]
theorem six_dict (w : Str) : ((valV (mergeK [] sixD) (.inr w)).getD (.int 0)) = .int (if biK w = true then 2 else if unK w = true then 1 else 0 : Int) := by
  have hm : mergeK [] sixD = sixD := by rfl
  rw [hm]
  have key : ∀ k : Str, ((Sum.inr k : Key) = .inr w) ↔ k = w := fun k => ⟨fun h => Sum.inr.inj h, fun h => by rw [h]⟩
  by_cases h1 : kPair = w
  · subst h1; decide +kernel
  by_cases h2 : kSeal = w
  · subst h2; decide +kernel
  by_cases h3 : kLock = w
  · subst h3; decide +kernel
  by_cases h4 : kMark = w
  · subst h4; decide +kernel
  by_cases h5 : kOpen = w
  · subst h5; decide +kernel
  by_cases h6 : kOwn = w
  · subst h6; decide +kernel
  have hb : biK w = false := by
    simp only [biK, Bool.or_eq_false_iff, beq_eq_false_iff_ne]
    exact ⟨⟨fun z => h1 z.symm, fun z => h2 z.symm⟩, fun z => h3 z.symm⟩
  have hu : unK w = false := by
    simp only [unK, Bool.or_eq_false_iff, beq_eq_false_iff_ne]
    exact ⟨⟨fun z => h4 z.symm, fun z => h5 z.symm⟩, fun z => h6 z.symm⟩
  rw [hb, hu, valV_neg fun z => h1 ((key _).mp z), valV_neg fun z => h2 ((key _).mp z), valV_neg fun z => h3 ((key _).mp z), valV_neg fun z => h4 ((key _).mp z), valV_neg fun z => h5 ((key _).mp z), valV_neg fun z => h6 ((key _).mp z), valV_nil]
  rfl
theorem szW_int (w : List Nat) : (if biK (S w) = true then 2 else if unK (S w) = true then 1 else 0 : Int) = ((szW w : Nat) : Int) := by
  unfold szW
  split
  · rfl
  · split <;> rfl
/-- what is read at a place -/
def RdV (H : Hp) (X : List Nat) (x : V) (e : Int) : Option (Fm × List Nat) → Prop
  | none => x = .non
  | some (a, r) => FmAt H x a ∧ ∃ j : Nat, e = (j : Int) ∧ j ≤ X.length ∧ X.drop j = r
def spReadAt (n : Nat) : Sp := fun vs H Q _ => ∃ (X : List Nat) (i : Nat), vs = [.str (S X), .int (i : Int)] ∧ X.length ≤ 2000 ∧ i ≤ X.length ∧ cnt (X.drop i) < n ∧ ∀ H' p x e, Same H H' → H' p = some (.tup [x, .int e]) → RdV H' X x e (rdF n (X.drop i)) → Q (.ref p) H'
theorem sep_mem (c : Nat) : decide (c ∈ (Str.ofString "(), ").cps.toList) = sepB c := by
  have e : (Str.ofString "(), ").cps.toList = [40, 41, 44, 32] := by decide +kernel
  rw [e, Bool.eq_iff_iff]
  simp [sepB]
theorem RdV.same {H H' : Hp} {X : List Nat} {x : V} {e : Int} {o : Option (Fm × List Nat)} (h : RdV H X x e o) (s : Same H H') : RdV H' X x e o := by
  cases o with
  | none => exact h
  | some y => exact ⟨h.1.same s, h.2⟩
/-- the parts so far, at the turn t -/
def PJ (n : Nat) (X s0 : List Nat) (sz : Nat) (pl : Addr) (H : Hp) (en : Nat) : Nat → Prop
  | 0 => H pl = some (.lst []) ∧ X.drop en = s0
  | 1 => ∃ a v r, rdF n s0 = some (a, r) ∧ FmAt H v a ∧ H pl = some (.lst [v]) ∧ ((sz = 1 ∧ r.head? = some 41 ∧ X.drop en = r.tail) ∨ (sz = 2 ∧ r.take 2 = [44, 32] ∧ X.drop en = r.drop 2))
  | _ => sz = 2 ∧ ∃ a v r b u r2, rdF n s0 = some (a, r) ∧ r.take 2 = [44, 32] ∧ rdF n (r.drop 2) = some (b, r2) ∧ FmAt H v a ∧ FmAt H u b ∧ H pl = some (.lst [v, u]) ∧ r2.head? = some 41 ∧ X.drop en = r2.tail
theorem rd_in {n : Nat} {s : List Nat} (h : (af s).head? = some 40 ∧ szW (wd s) ≠ 0) : rdF (n + 1) s = (match rdF n (af s).tail with
      | none => none
      | some x => if szW (wd s) = 1 then (if x.2.head? = some 41 then some (.un (S (wd s)) x.1, x.2.tail) else none)
        else if x.2.take 2 = [44, 32] then (match rdF n (x.2.drop 2) with
          | none => none
          | some y => if y.2.head? = some 41 then (if (S (wd s) == kLock && !y.1.isKey) = true then none else some (.bi (S (wd s)) x.1 y.1, y.2.tail)) else none)
        else none) := by
  conv => lhs; unfold rdF
  rw [if_pos h]
  all_goals rfl
theorem rd_out {n : Nat} {s : List Nat} (h : ¬ ((af s).head? = some 40 ∧ szW (wd s) ≠ 0)) : rdF (n + 1) s = (kindOf (wd s)).map fun kt => (.atm kt.1 kt.2, af s) := by
  conv => lhs; unfold rdF
  rw [if_neg h]
theorem szW_le (w : List Nat) : szW w = 0 ∨ (szW w = 1 ∧ unK (S w) = true ∧ biK (S w) = false) ∨ (szW w = 2 ∧ biK (S w) = true) := by
  unfold szW
  split
  · rename_i h
    exact .inr (.inr ⟨rfl, h⟩)
  · rename_i h
    split
    · rename_i h2
      exact .inr (.inl ⟨rfl, h2, by cases hh : biK (S w) with | false => rfl | true => exact absurd hh h⟩)
    · exact .inl rfl
theorem head_take {s : List Nat} {c : Nat} : s.take 1 = [c] ↔ s.head? = some c := by
  cases s with
  | nil => simp
  | cons x r => simp
theorem S_inj {a b : List Nat} (h : S a = S b) : a = b := congrArg TL.tl h
theorem cnt_drop (l : List Nat) (k : Nat) : cnt (l.drop k) ≤ cnt l := by
  have h := cnt_app (l.take k) (l.drop k)
  rw [List.take_append_drop] at h
  omega
theorem wh_tst {X : List Nat} {j : Nat} {σ : L2.St} {H : Hp} {R : Bool → Hp → Prop} (h0 : σ[0]? = some (some (.str (S X)))) (h2 : σ[2]? = some (some (.int (j : Int)))) (hX : (S X).length ≤ sizeLine) (hj : j ≤ X.length) (r1 : ∀ c, X[j]? = some c → sepB c = false → R true H)
    (r0 : ((∃ c, X[j]? = some c ∧ sepB c = true) ∨ j = X.length) → R false H) : if decide ((j : Int) < ((S X).length : Int)) = true then tTest (tOp rNinSg (tOp rIxS (tVar 0) (tVar 2)) (tC (V.str (Str.ofString "(), ")))) σ H R else R false H := by
  rw [S_len]
  by_cases hl : j < X.length
  · rw [if_pos (decide_eq_true (by omega))]
    have hc : X[j]? = some X[j] := List.getElem?_eq_getElem hl
    refine g_test (g_op (g_op (g_var h0 (g_var h2 (g_ixS (K := []) hX (c := X[j]) (atI_nat hc) (g_c ?_))))))
    refine ⟨X[j], _, rfl, rfl, ?_⟩
    rw [sep_mem]
    refine ⟨_, rfl, ?_⟩
    cases hs : sepB X[j] with
    | true => exact r0 (.inl ⟨_, hc, hs⟩)
    | false => exact r1 _ hc hs
  · rw [if_neg (by rw [decide_eq_false (by omega)]; decide)]
    exact r0 (.inr (by omega))
section
variable {P : Program} {w : World} {K : PySem.W.Frag} {mg : Str → Option Value} {base : Heap}
theorem ca_read_at (T : Bl K mg) (D : Df K mg "_law_read_at" s_law_read_at p_law_read_at) (c_law_kind : Ca P w K mg base 1 "_law_kind" spKind) : ∀ n, Ca P w K mg base (2 + n) "_law_read_at" (spReadAt n)
  | 0 => by
    refine ca_n D sc_law_read_at (fun vs H Q E h => ?_) (fun f cdv A outer s H vs Q E hr h => ?_)
    · obtain ⟨X, i, rfl, _⟩ := h
      rfl
    · obtain ⟨X, i, rfl, _, _, he, _⟩ := h
      exact absurd he (Nat.not_lt_zero _)
  | n + 1 => by
    have c_law_read_at := ca_read_at T D c_law_kind n
    refine ca_n (k := 2 + n) D sc_law_read_at (fun vs H Q E h => ?_) (fun f cdv A outer s H vs Q E hr h => ?_)
    · obtain ⟨X, i, rfl, _⟩ := h
      rfl
    · obtain ⟨X, i, rfl, hX, hi, hc, q⟩ := h
      have hXs : (S X).length ≤ sizeLine := by rw [S_len, sizeLine_eq]; omega
      refine ⟨_, (pss_cons (ps_set (i := 2) sc_law_read_at.nd rfl (Or.inl rfl) (pv 1))
  (pss_cons (ps_while PassesOwn.never (PW.pt (pw_and (pt_cmpR op_lt (pv 2) (pe_callB cq_lens (by rfl) T.b_len (by decide +kernel) (pa_cons (pv 0) pa_nil)) (nomark _)) (pw_and1 (pt_cmpR oq_ninsg (pe_ix ix_str (pv 0) (pv 2) (fun _ _ => rfl)) pe_str rfl))))
  (pss_one (ps_set (i := 2) sc_law_read_at.nd rfl (Or.inl rfl) (pe_op op_add (pv 2) pe_int))))
  (pss_cons (ps_set (i := 3) sc_law_read_at.nd rfl (Or.inl rfl) (pe_slice C8.sl_txt (pv 0) (po_some (pv 1)) (po_some (pv 2))))
  (pss_cons (ps_set (i := 4) sc_law_read_at.nd rfl (Or.inl rfl) (pe_dget2 (hu_of hr) (pe_disp (pps_cons pe_str pe_int (pps_cons pe_str pe_int (pps_cons pe_str pe_int (pps_cons pe_str pe_int (pps_cons pe_str pe_int (pps_cons pe_str pe_int pps_nil)))))) (by rfl) (by rfl) (fun z => by cases z) (by decide)) (pv 3) pe_int ⟨by rfl, by rfl, by rfl, by rfl⟩))
  (C8.pss_cut (ps_if (PW.pt (pw_or (pt_cmpR op_ne (pe_slice C8.sl_txt (pv 0) (po_some (pv 2)) (po_some (pe_op op_add (pv 2) pe_int))) pe_str (nomark _)) (pw_or1 (pt_cmpR op_eq (pv 4) pe_int (nomark _)))))
  (pss_one (ps_ret (pe_tup (pa_cons (pe_ca c_law_kind hr (by omega) (by rfl) (pa_cons (pv 3) pa_nil)) (pa_cons (pv 2) pa_nil)))))
  pss_nil)
  (pss_cons (ps_par (i := 5) (j := 2) rfl sc_law_read_at.nd rfl rfl (by decide) rfl rfl (pa_cons (pe_lst pa_nil) (pa_cons (pe_op op_add (pv 2) pe_int) pa_nil)) (by rfl))
  (pss_cons (ps_for PassesOwn.never rfl (pi_range1 rfl T.b_range (pa_cons (pv 4) pa_nil)) (pg_name (i := 6) sc_law_read_at.nd rfl (Or.inl rfl))
  (pss_cons (ps_asg (pe_ca c_law_read_at hr (by omega) (by rfl) (pa_cons (pv 0) (pa_cons (pv 2) pa_nil))) (pg_tup rfl (pgs_cons (pg_name (i := 7) sc_law_read_at.nd rfl (Or.inl rfl)) (pgs_cons (pg_name (i := 2) sc_law_read_at.nd rfl (Or.inl rfl)) pgs_nil))))
  (pss_cons (ps_set (i := 8) sc_law_read_at.nd rfl (Or.inl rfl) (pe_ifExp (pt_cmpR op_lt (pv 6) (pe_op op_sub (pv 4) pe_int) (nomark _)) pe_str pe_str))
  (pss_cons (ps_if (PW.pt (pw_or (pt_cmpR oq_isN (pv 7) pe_non (nomark _)) (pw_or1 (pt_cmpR op_ne (pe_slice C8.sl_txt (pv 0) (po_some (pv 2)) (po_some (pe_op op_add (pv 2) (pe_callB cq_lens (by rfl) T.b_len (by decide +kernel) (pa_cons (pv 8) pa_nil))))) (pv 8) (nomark _)))))
  (pss_one (ps_ret (pe_tup (pa_cons pe_non (pa_cons (pv 2) pa_nil)))))
  pss_nil)
  (pss_cons (ps_expr (pe_bm PySem.F.plainAttrs_list PySem.F.slot_list_append PySem.F.type_list_append mt_append (pv 5) (pa_cons (pv 7) pa_nil)))
  (pss_one (ps_set (i := 2) sc_law_read_at.nd rfl (Or.inl rfl) (pe_op op_add (pv 2) (pe_callB cq_lens (by rfl) T.b_len (by decide +kernel) (pa_cons (pv 8) pa_nil))))))))))
  (pss_cons (ps_if (PW.pt (pw_and (pt_cmpR op_eq (pv 3) pe_str (nomark _)) (pw_and1 (pt_cmpR op_notIn_seq (pe_ix ix_tup (pe_ix ix_list (pv 5) pe_int (fun _ _ => rfl)) pe_int (fun _ _ => rfl)) (pe_tup (pa_cons pe_str (pa_cons pe_str pa_nil))) rfl))))
  (pss_one (ps_ret (pe_tup (pa_cons pe_non (pa_cons (pv 2) pa_nil)))))
  pss_nil)
  (pss_one (ps_ret (pe_tup (pa_cons (pe_op op_catA (pe_tup (pa_cons (pv 3) pa_nil)) (pe_callTy call_tuple_of (by rfl) T.b_tuple (by decide +kernel) (pa_cons (pv 5) pa_nil))) (pa_cons (pv 2) pa_nil))))))))))))), ?_⟩
      walk_at "go3"
      refine g_while (fun m σ H' => ∃ j : Nat, σ = [some (.str (S X)), some (.int (i : Int)), some (.int (j : Int)), none, none, none, none, none, none] ∧ Same H H' ∧ i ≤ j ∧ j ≤ X.length ∧ m = X.length - j ∧ ∀ k c, i ≤ k → k < j → X[k]? = some c → sepB c = false) (X.length - i) ⟨i, rfl, Same.refl _, Nat.le_refl _, hi, rfl, fun k c h1 h2 _ => absurd h2 (by omega)⟩ ?_
      rintro m σ' H1 ⟨j, rfl, s1, hij, hjX, rfl, hk⟩
      have go : ∀ (he : (∃ c, X[j]? = some c ∧ sepB c = true) ∨ j = X.length), wd (X.drop i) = (X.drop i).take (j - i) ∧ af (X.drop i) = X.drop j := fun he => by
        have e1 : X.drop i = (X.drop i).take (j - i) ++ X.drop j := by
          have := List.take_append_drop (j - i) (X.drop i)
          rw [List.drop_drop, show i + (j - i) = j by omega] at this
          exact this.symm
        have h1 : ∀ c ∈ (X.drop i).take (j - i), sepB c = false := fun c hc => by
          obtain ⟨k, hk1⟩ := List.mem_iff_getElem?.mp hc
          have hkl : k < j - i := by
            have := (List.getElem?_eq_some_iff.mp hk1).1
            rw [List.length_take] at this
            omega
          rw [List.getElem?_take_of_lt hkl, List.getElem?_drop] at hk1
          exact hk _ c (by omega) (by omega) hk1
        have h2 : X.drop j = [] ∨ ∃ c r', X.drop j = c :: r' ∧ sepB c = true := by
          rcases he with ⟨c, hc, hs⟩ | rfl
          · obtain ⟨hl, rfl⟩ := List.getElem?_eq_some_iff.mp hc
            exact .inr ⟨_, _, List.drop_eq_getElem_cons hl, hs⟩
          · exact .inl (List.drop_length ..)
        have h3 := wd_of h1 h2
        rw [← e1] at h3
        exact h3
      walk_at "go3"
      refine wh_tst rfl rfl hXs hjX (fun c hc hs => ?_) (fun he => ?_)
      · refine iteT ⟨_, fun _ _ n => n, ?_⟩
        walk_at "go3"
        have hl := (List.getElem?_eq_some_iff.mp hc).1
        refine ⟨X.length - (j + 1), by omega, j + 1, rfl, s1, by omega, by omega, rfl, fun k d h1 h2 h3 => ?_⟩
        by_cases hkj : k < j
        · exact hk k d h1 hkj h3
        · have : k = j := by omega
          subst this
          rw [hc] at h3
          rw [← Option.some.inj h3]
          exact hs
      · refine iteF ?_
        obtain ⟨ew, ea⟩ := go he
        clear go hk he
        have rk : ∀ v H3, ¬ ((af (X.drop i)).head? = some 40 ∧ szW (wd (X.drop i)) ≠ 0) → AtomV H3 (lawKind (wd (X.drop i))) v → RdV H3 X v (j : Int) (rdF (n + 1) (X.drop i)) := fun v H3 hno av => by
          rw [lawKind_eq] at av
          rw [rd_out hno]
          cases hkd : kindOf (wd (X.drop i)) with
          | none => rw [hkd] at av; exact av
          | some kt =>
            obtain ⟨k, t⟩ := kt
            rw [hkd] at av
            obtain ⟨p, rfl, ep⟩ := av
            exact ⟨.atm ep, j, rfl, hjX, ea.symm⟩
        have hwl : (wd (X.drop i)).length ≤ 2000 := by rw [ew, List.length_take, List.length_drop]; omega
        walk_at "go3"
        rw [slice_mid hij hi, ← ew]
        intro p3 hp3
        refine ⟨upd_same, sixD, rfl, by show 6 ≤ 15; decide, p3, rfl, .inl ⟨_, .inl upd_same⟩, ?_⟩
        rw [upd_upd]
        have s2 : Same H1 (upd H1 p3 (.dK (mergeK [] sixD))) := Same.upd hp3
        have e2 : upd H1 p3 (.dK (mergeK [] sixD)) p3 = some (.dK (mergeK [] sixD)) := upd_same
        generalize upd H1 p3 (.dK (mergeK [] sixD)) = H2 at s2 e2 ⊢
        walk_at "go3"
        refine ⟨_, DGet.k (k := .inr (S (wd (X.drop i)))) e2, ?_⟩
        rw [six_dict, szW_int]
        have s02 := s1.trans s2
        clear s1 s2 e2 hp3
        walk_at "go3"
        refine ⟨fun σ' H' => σ' = [some (.str (S X)), some (.int (i : Int)), some (.int (j : Int)), some (.str (S (wd (X.drop i)))), some (.int ((szW (wd (X.drop i)) : Nat) : Int)), none, none, none, none] ∧ Same H H' ∧ (af (X.drop i)).head? = some 40 ∧ szW (wd (X.drop i)) ≠ 0, ?_, ?_⟩
        · walk_at "go3"
          rw [show ((j : Int) + 1) = ((j + 1 : Nat) : Int) from rfl, slice_mid (Nat.le_succ j) hjX, show j + 1 - j = 1 by omega]
          walk_at "go3"
          refine iteND (fun hne => ?_) (fun h40 => ?_)
          · walk_at "go3"
            refine ⟨_, rfl, by omega, fun H3 v3 s3 av => ?_⟩
            walk_at "go3"
            refine ⟨by show 2 ≤ sizeLine; decide, fun p4 hp4 => ?_⟩
            refine q _ _ _ _ (s02.trans (s3.trans (Same.upd hp4))) upd_same ((rk v3 H3 (fun z => hne ?_) av).same (Same.upd hp4))
            rw [ea] at z
            rw [head_take.mpr z.1]
            exact congrArg V.str (by decide +kernel)
          · have h40' : (af (X.drop i)).head? = some 40 := by
              rw [ea]
              refine head_take.mp (S_inj ?_)
              rw [show S [40] = Str.ofString "(" by decide +kernel]
              exact V.str.inj h40
            walk_at "go3"
            refine iteD (fun hz => ?_) (fun hnz => ?_)
            · have hz' : szW (wd (X.drop i)) = 0 := by have := V.int.inj hz; omega
              walk_at "go3"
              refine ⟨_, rfl, by omega, fun H3 v3 s3 av => ?_⟩
              walk_at "go3"
              refine ⟨by show 2 ≤ sizeLine; decide, fun p4 hp4 => ?_⟩
              exact q _ _ _ _ (s02.trans (s3.trans (Same.upd hp4))) upd_same ((rk v3 H3 (fun z => z.2 hz') av).same (Same.upd hp4))
            · walk_at "go3"
              exact ⟨rfl, s02, h40', fun z => hnz (by rw [z]; rfl)⟩
        · rintro σ3 H3 ⟨rfl, s3, h40, hnz⟩
          have hcd := And.intro h40 hnz
          have hX40 : X.drop j = 40 :: X.drop (j + 1) := by
            have := head_tail h40
            rw [ea] at this
            rw [this]
            have e := List.drop_drop (i := 1) (j := j) (l := X)
            rw [this] at e
            exact congrArg (40 :: ·) e
          have hjl : j + 1 ≤ X.length := by
            have := congrArg List.length hX40
            rw [List.length_drop, List.length_cons] at this
            omega
          have hs0 : (af (X.drop i)).tail = X.drop (j + 1) := by rw [ea, hX40]; rfl
          have hcn : cnt (X.drop (j + 1)) < n := by
            have h1 := wd_af (X.drop i)
            rw [ea, hX40] at h1
            have h2 : cnt (X.drop i) = cnt (wd (X.drop i)) + cnt (40 :: X.drop (j + 1)) := by
              conv => lhs; rw [← h1]
              exact cnt_app _ _
            have h3 : cnt (40 :: X.drop (j + 1)) = cnt (X.drop (j + 1)) + 1 := by simp [cnt]
            omega
          clear rk
          walk_at "go3"
          refine g_par ?_
          walk_at "go3"
          refine ⟨by show 0 ≤ sizeLine; decide, fun pl hpl => ?_⟩
          have s4 : Same H3 (upd H3 pl (.lst [])) := Same.upd hpl
          have e4 : upd H3 pl (.lst []) pl = some (.lst []) := upd_same
          have npl : H pl = none := Same.non s3 hpl
          generalize upd H3 pl (.lst []) = H4 at s4 e4 ⊢
          walk_at "go3"
          refine ⟨_, _, rfl, ?_⟩
          walk_at "go3"
          have hsz := szW_le (wd (X.drop i))
          refine r_for (fun t σ' H' => ∃ w6 w7 w8, ∃ en : Nat, σ' = [some (.str (S X)), some (.int (i : Int)), some (.int (en : Int)), some (.str (S (wd (X.drop i)))), some (.int ((szW (wd (X.drop i)) : Nat) : Int)), some (.ref pl), w6, w7, w8] ∧ Same H H' ∧ en ≤ X.length ∧ PJ n X (X.drop (j + 1)) (szW (wd (X.drop i))) pl H' en t) (by omega) ⟨_, _, _, j + 1, rfl, s3.trans s4, hjl, e4, rfl⟩ (fun t σ' H5 ht p => ?_) (fun σ' H5 p => ?_)
          · obtain ⟨w6, w7, w8, en, rfl, s5, hen, pj⟩ := p
            have ht2 : t = 0 ∨ t = 1 := by omega
            rcases ht2 with rfl | rfl
            · obtain ⟨epl, hdrop⟩ := pj
              walk_at "go3"
              refine ⟨X, en, rfl, hX, hen, by rw [hdrop]; exact hcn, fun H6 p x e s6 ep rv => ?_⟩
              rw [hdrop] at rv
              refine ⟨_, _, rfl, SqT.of ep, rfl, _, _, rfl, ?_⟩
              refine g_name ?_
              refine ⟨_, _, rfl, ?_⟩
              refine g_name ?_
              refine ⟨rfl, ?_⟩
              walk_at "go3"
              refine iteD (fun h => ?_) (fun h => ?_)
              · have hz2 : szW (wd (X.drop i)) = 2 := by omega
                walk_at "go3"
                cases ho1 : rdF n (X.drop (j + 1)) with
                | none =>
                  rw [ho1] at rv
                  obtain rfl : x = .non := rv
                  walk_at "go3"
                  refine iteD (fun _ => ?_) (fun h => absurd rfl h)
                  walk_at "go3"
                  refine ⟨by show 2 ≤ sizeLine; decide, fun p4 hp4 => ?_⟩
                  refine q _ _ _ _ ((s5.trans s6).trans (Same.upd hp4)) upd_same ?_
                  have hr : rdF (n + 1) (X.drop i) = none := by
                    rw [rd_in hcd, hs0, ho1]
                  rw [hr]
                  rfl
                | some y =>
                  obtain ⟨a1, r1⟩ := y
                  rw [ho1] at rv
                  obtain ⟨fx, j2, rfl, hj2, hd2⟩ := rv
                  obtain ⟨pa, xs, rfl, epa⟩ := head_at fx
                  walk_at "go3"
                  refine iteD (fun h => nomatch h) (fun _ => ?_)
                  walk_at "go3"
                  refine g_lenS (by decide +kernel) ?_
                  walk_at "go3"
                  rw [show ((j2 : Int) + ((Str.ofString ", ").length : Int)) = ((j2 + 2 : Nat) : Int) by rw [show (Str.ofString ", ").length = 2 by decide +kernel]; rfl, slice_mid (by omega) hj2, hd2, show j2 + 2 - j2 = 2 by omega]
                  walk_at "go3"
                  refine iteND (fun hne => ?_) (fun heq => ?_)
                  · walk_at "go3"
                    refine ⟨by show 2 ≤ sizeLine; decide, fun p4 hp4 => ?_⟩
                    refine q _ _ _ _ ((s5.trans s6).trans (Same.upd hp4)) upd_same ?_
                    have hng : ¬ (r1.take 2 = [44, 32]) := fun z => hne (by rw [z, show S [44, 32] = Str.ofString ", " by decide +kernel])
                    have hr : rdF (n + 1) (X.drop i) = none := by
                      rw [rd_in hcd, hs0, ho1]
                      dsimp only
                      rw [if_neg (by omega), if_neg hng]
                    rw [hr]
                    rfl
                  · have hg : r1.take 2 = [44, 32] := S_inj ((V.str.inj heq).trans (by decide +kernel))
                    have hj3 : j2 + 2 ≤ X.length := by
                      have h1 := congrArg List.length hg
                      rw [List.length_take, ← hd2, List.length_drop] at h1
                      have h2 : ([44, 32] : List Nat).length = 2 := rfl
                      omega
                    have epl6 := s6 _ _ epl
                    walk_at "go3"
                    refine g_app epl6 (by rw [sizeLine_eq]; simp) ?_
                    walk_at "go3"
                    refine g_lenS (by decide +kernel) ?_
                    walk_at "go3"
                    rw [show ((j2 : Int) + ((Str.ofString ", ").length : Int)) = ((j2 + 2 : Nat) : Int) by rw [show (Str.ofString ", ").length = 2 by decide +kernel]; rfl]
                    have hd3 : X.drop (j2 + 2) = r1.drop 2 := by rw [← hd2, List.drop_drop]
                    have t6 : Tps H6 (upd H6 pl (.lst ([] ++ [.ref pa]))) := Tps.lst (s6 _ _ epl)
                    refine ⟨_, _, _, j2 + 2, rfl, Same.mut (s5.trans s6) npl, hj3, ?_⟩
                    exact ⟨a1, .ref pa, r1, ho1, fx.tps t6, upd_same, .inr ⟨hz2, hg, hd3⟩⟩
              · have hz1 : szW (wd (X.drop i)) = 1 := by omega
                walk_at "go3"
                cases ho1 : rdF n (X.drop (j + 1)) with
                | none =>
                  rw [ho1] at rv
                  obtain rfl : x = .non := rv
                  walk_at "go3"
                  refine iteD (fun _ => ?_) (fun h => absurd rfl h)
                  walk_at "go3"
                  refine ⟨by show 2 ≤ sizeLine; decide, fun p4 hp4 => ?_⟩
                  refine q _ _ _ _ ((s5.trans s6).trans (Same.upd hp4)) upd_same ?_
                  have hr : rdF (n + 1) (X.drop i) = none := by
                    rw [rd_in hcd, hs0, ho1]
                  rw [hr]
                  rfl
                | some y =>
                  obtain ⟨a1, r1⟩ := y
                  rw [ho1] at rv
                  obtain ⟨fx, j2, rfl, hj2, hd2⟩ := rv
                  obtain ⟨pa, xs, rfl, epa⟩ := head_at fx
                  walk_at "go3"
                  refine iteD (fun h => nomatch h) (fun _ => ?_)
                  walk_at "go3"
                  refine g_lenS (by decide +kernel) ?_
                  walk_at "go3"
                  rw [show ((j2 : Int) + ((Str.ofString ")").length : Int)) = ((j2 + 1 : Nat) : Int) by rw [show (Str.ofString ")").length = 1 by decide +kernel]; rfl, slice_mid (by omega) hj2, hd2, show j2 + 1 - j2 = 1 by omega]
                  walk_at "go3"
                  refine iteND (fun hne => ?_) (fun heq => ?_)
                  · walk_at "go3"
                    refine ⟨by show 2 ≤ sizeLine; decide, fun p4 hp4 => ?_⟩
                    refine q _ _ _ _ ((s5.trans s6).trans (Same.upd hp4)) upd_same ?_
                    have hng : ¬ (r1.take 1 = [41]) := fun z => hne (by rw [z, show S [41] = Str.ofString ")" by decide +kernel])
                    have hr : rdF (n + 1) (X.drop i) = none := by
                      rw [rd_in hcd, hs0, ho1]
                      dsimp only
                      rw [if_pos hz1, if_neg (fun z => hng (head_take.mpr z))]
                    rw [hr]
                    rfl
                  · have hg : r1.take 1 = [41] := S_inj ((V.str.inj heq).trans (by decide +kernel))
                    have hj3 : j2 + 1 ≤ X.length := by
                      have h1 := congrArg List.length hg
                      rw [List.length_take, ← hd2, List.length_drop] at h1
                      have h2 : ([41] : List Nat).length = 1 := rfl
                      omega
                    have epl6 := s6 _ _ epl
                    walk_at "go3"
                    refine g_app epl6 (by rw [sizeLine_eq]; simp) ?_
                    walk_at "go3"
                    refine g_lenS (by decide +kernel) ?_
                    walk_at "go3"
                    rw [show ((j2 : Int) + ((Str.ofString ")").length : Int)) = ((j2 + 1 : Nat) : Int) by rw [show (Str.ofString ")").length = 1 by decide +kernel]; rfl]
                    have hd3 : X.drop (j2 + 1) = r1.drop 1 := by rw [← hd2, List.drop_drop]
                    have t6 : Tps H6 (upd H6 pl (.lst ([] ++ [.ref pa]))) := Tps.lst (s6 _ _ epl)
                    refine ⟨_, _, _, j2 + 1, rfl, Same.mut (s5.trans s6) npl, hj3, ?_⟩
                    exact ⟨a1, .ref pa, r1, ho1, fx.tps t6, upd_same, .inl ⟨hz1, head_take.mp hg, by rw [hd3, List.drop_one]⟩⟩
            · obtain ⟨a, v, r, ho, fa, epl, alt⟩ := pj
              have hz2 : szW (wd (X.drop i)) = 2 := by omega
              obtain ⟨ht44, hdrop⟩ : r.take 2 = [44, 32] ∧ X.drop en = r.drop 2 := by
                rcases alt with ⟨h, _⟩ | ⟨_, h1, h2⟩
                · omega
                · exact ⟨h1, h2⟩
              have hcn2 : cnt (X.drop en) < n := by
                have h1 := (rdF_sound n _ _ _ ho).2
                have h2 := cnt_app a.txt r
                rw [← h1] at h2
                have h3 := cnt_drop r 2
                rw [hdrop]
                omega
              walk_at "go3"
              refine ⟨X, en, rfl, hX, hen, hcn2, fun H6 p x e s6 ep rv => ?_⟩
              rw [hdrop] at rv
              refine ⟨_, _, rfl, SqT.of ep, rfl, _, _, rfl, ?_⟩
              refine g_name ?_
              refine ⟨_, _, rfl, ?_⟩
              refine g_name ?_
              refine ⟨rfl, ?_⟩
              walk_at "go3"
              refine iteDF (by omega) ?_
              walk_at "go3"
              cases ho2 : rdF n (r.drop 2) with
              | none =>
                rw [ho2] at rv
                obtain rfl : x = .non := rv
                walk_at "go3"
                refine iteD (fun _ => ?_) (fun h => absurd rfl h)
                walk_at "go3"
                refine ⟨by show 2 ≤ sizeLine; decide, fun p4 hp4 => ?_⟩
                refine q _ _ _ _ ((s5.trans s6).trans (Same.upd hp4)) upd_same ?_
                have hr : rdF (n + 1) (X.drop i) = none := by
                  rw [rd_in hcd, hs0, ho]
                  dsimp only
                  rw [if_neg (by omega), if_pos ht44, ho2]
                rw [hr]
                rfl
              | some y =>
                obtain ⟨a2, r2⟩ := y
                rw [ho2] at rv
                obtain ⟨fx, j2, rfl, hj2, hd2⟩ := rv
                obtain ⟨pa, xs, rfl, epa⟩ := head_at fx
                walk_at "go3"
                refine iteD (fun h => nomatch h) (fun _ => ?_)
                walk_at "go3"
                refine g_lenS (by decide +kernel) ?_
                walk_at "go3"
                rw [show ((j2 : Int) + ((Str.ofString ")").length : Int)) = ((j2 + 1 : Nat) : Int) by rw [show (Str.ofString ")").length = 1 by decide +kernel]; rfl, slice_mid (by omega) hj2, hd2, show j2 + 1 - j2 = 1 by omega]
                walk_at "go3"
                refine iteND (fun hne => ?_) (fun heq => ?_)
                · walk_at "go3"
                  refine ⟨by show 2 ≤ sizeLine; decide, fun p4 hp4 => ?_⟩
                  refine q _ _ _ _ ((s5.trans s6).trans (Same.upd hp4)) upd_same ?_
                  have hng : ¬ (r2.take 1 = [41]) := fun z => hne (by rw [z, show S [41] = Str.ofString ")" by decide +kernel])
                  have hr : rdF (n + 1) (X.drop i) = none := by
                    rw [rd_in hcd, hs0, ho]
                    dsimp only
                    rw [if_neg (by omega), if_pos ht44, ho2]
                    dsimp only
                    rw [if_neg (fun z => hng (head_take.mpr z))]
                  rw [hr]
                  rfl
                · have hg : r2.take 1 = [41] := S_inj ((V.str.inj heq).trans (by decide +kernel))
                  have hj3 : j2 + 1 ≤ X.length := by
                    have h1 := congrArg List.length hg
                    rw [List.length_take, ← hd2, List.length_drop] at h1
                    have h2 : ([41] : List Nat).length = 1 := rfl
                    omega
                  have epl6 := s6 _ _ epl
                  walk_at "go3"
                  refine g_app epl6 (by rw [sizeLine_eq]; simp) ?_
                  walk_at "go3"
                  refine g_lenS (by decide +kernel) ?_
                  walk_at "go3"
                  rw [show ((j2 : Int) + ((Str.ofString ")").length : Int)) = ((j2 + 1 : Nat) : Int) by rw [show (Str.ofString ")").length = 1 by decide +kernel]; rfl]
                  have hd3 : X.drop (j2 + 1) = r2.drop 1 := by rw [← hd2, List.drop_drop]
                  have t6 : Tps H6 (upd H6 pl (.lst ([v] ++ [.ref pa]))) := Tps.lst (s6 _ _ epl)
                  refine ⟨_, _, _, j2 + 1, rfl, Same.mut (s5.trans s6) npl, hj3, ?_⟩
                  exact ⟨hz2, a, v, r, a2, .ref pa, r2, ho, ht44, ho2, (fa.same s6).tps t6, fx.tps t6, upd_same, head_take.mp hg, by rw [hd3, List.drop_one]⟩
          · obtain ⟨w6, w7, w8, en, rfl, s5, hen, pj⟩ := p
            rcases hsz with h0 | ⟨h1, hu, hb⟩ | ⟨h2, hb⟩
            · exact absurd h0 hnz
            · rw [show (((szW (wd (X.drop i)) : Nat) : Int)).toNat = 1 by omega] at pj
              obtain ⟨a, v, r, ho, fa, epl, alt⟩ := pj
              obtain ⟨h41, hdrop⟩ : r.head? = some 41 ∧ X.drop en = r.tail := by
                rcases alt with ⟨_, h1, h2⟩ | ⟨h, _⟩
                · exact ⟨h1, h2⟩
                · omega
              have hr : rdF (n + 1) (X.drop i) = some (.un (S (wd (X.drop i))) a, r.tail) := by
                rw [rd_in hcd, hs0, ho]
                dsimp only
                rw [if_pos h1, if_pos h41]
              walk_at "go3"
              refine iteD (fun h => ?_) (fun _ => ?_)
              · rw [show S (wd (X.drop i)) = kLock from V.str.inj h] at hb
                exact absurd hb (by decide +kernel)
              · walk_at "go3"
                refine ⟨by show 1 ≤ sizeLine; decide, fun p5 hp5 => ?_⟩
                have s6 : Same H5 (upd H5 p5 (.tup [.str (S (wd (X.drop i)))])) := Same.upd hp5
                have e6 : upd H5 p5 (.tup [.str (S (wd (X.drop i)))]) p5 = some (.tup [.str (S (wd (X.drop i)))]) := upd_same
                generalize upd H5 p5 (.tup [.str (S (wd (X.drop i)))]) = H8 at s6 e6 ⊢
                have epl8 := s6 _ _ epl
                walk_at "go3"
                refine ⟨pl, _, rfl, .inl ⟨SqL.of epl8, fun p6 hp6 => ?_⟩⟩
                have s7 : Same H8 (upd H8 p6 (.tup [v])) := Same.upd hp6
                refine g_catT (s7 _ _ e6) upd_same (by rw [sizeLine_eq]; simp) fun p7 H9 s8 e9 => ?_
                walk_at "go3"
                refine ⟨by show 2 ≤ sizeLine; decide, fun p8 hp8 => ?_⟩
                have s9 : Same H9 (upd H9 p8 (.tup [.ref p7, .int (en : Int)])) := Same.upd hp8
                have sA : Same H5 (upd H9 p8 (.tup [.ref p7, .int (en : Int)])) := s6.trans (s7.trans (s8.trans s9))
                refine q _ _ _ _ (s5.trans sA) upd_same ?_
                rw [hr]
                exact ⟨.un (s9 _ _ e9) (fa.same sA), en, rfl, hen, hdrop⟩
            · rw [show (((szW (wd (X.drop i)) : Nat) : Int)).toNat = 2 by omega] at pj
              obtain ⟨_, a, v, r, b, u, r2, ho, h44, ho2, fa, fb, epl, h41, hdrop⟩ := pj
              have okb := (rdF_sound n _ _ _ ho2).1
              have hr : rdF (n + 1) (X.drop i) = if (S (wd (X.drop i)) == kLock && !b.isKey) = true then none else some (.bi (S (wd (X.drop i))) a b, r2.tail) := by
                rw [rd_in hcd, hs0, ho]
                dsimp only
                rw [if_neg (by omega), if_pos h44, ho2]
                dsimp only
                rw [if_pos h41]
              obtain ⟨pb, xb, rfl, epb⟩ := head_at fb
              walk_at "go3"
              refine iteD (fun h => ?_) (fun hnl => ?_)
              · have hl : (S (wd (X.drop i)) == kLock) = true := by rw [V.str.inj h]; exact beq_self_eq_true _
                rw [hl] at hr
                walk_at "go3"
                refine g_ixT (v := .str b.head) (SqT.of epb) at0 ?_
                walk_at "go3"
                refine ⟨by show 2 ≤ sizeLine; decide, fun p4 hp4 => ?_⟩
                have s4' : Same H5 (upd H5 p4 (.tup [.str kOpen, .str kOwn])) := Same.upd hp4
                have e4' : upd H5 p4 (.tup [.str kOpen, .str kOwn]) p4 = some (.tup [.str kOpen, .str kOwn]) := upd_same
                generalize upd H5 p4 (.tup [.str kOpen, .str kOwn]) = H6 at s4' e4' ⊢
                walk_at "go3"
                refine g_ninT (SqT.of e4') rfl rfl ?_
                rw [inV_keys, key_head (Fm.ok_kin okb)]
                have s56 := s5.trans s4'
                replace epl := s4' _ _ epl
                replace fa := fa.same s4'
                replace fb := fb.same s4'
                walk_at "go3"
                cases hk : b.isKey with
                | false =>
                  rw [hk] at hr
                  walk_at "go3"
                  refine ⟨by show 2 ≤ sizeLine; decide, fun p5 hp5 => ?_⟩
                  refine q _ _ _ _ (s56.trans (Same.upd hp5)) upd_same ?_
                  rw [hr]
                  rfl
                | true =>
                  rw [hk] at hr
                  walk_at "go3"
                  refine ⟨by show 1 ≤ sizeLine; decide, fun p5 hp5 => ?_⟩
                  have s6 : Same H6 (upd H6 p5 (.tup [.str (S (wd (X.drop i)))])) := Same.upd hp5
                  have e6 : upd H6 p5 (.tup [.str (S (wd (X.drop i)))]) p5 = some (.tup [.str (S (wd (X.drop i)))]) := upd_same
                  generalize upd H6 p5 (.tup [.str (S (wd (X.drop i)))]) = H8 at s6 e6 ⊢
                  have epl8 := s6 _ _ epl
                  walk_at "go3"
                  refine ⟨pl, _, rfl, .inl ⟨SqL.of epl8, fun p6 hp6 => ?_⟩⟩
                  have s7 : Same H8 (upd H8 p6 (.tup [v, .ref pb])) := Same.upd hp6
                  refine g_catT (s7 _ _ e6) upd_same (by rw [sizeLine_eq]; simp) fun p7 H9 s8 e9 => ?_
                  walk_at "go3"
                  refine ⟨by show 2 ≤ sizeLine; decide, fun p8 hp8 => ?_⟩
                  have s9 : Same H9 (upd H9 p8 (.tup [.ref p7, .int (en : Int)])) := Same.upd hp8
                  have sA : Same H6 (upd H9 p8 (.tup [.ref p7, .int (en : Int)])) := s6.trans (s7.trans (s8.trans s9))
                  refine q _ _ _ _ (s56.trans sA) upd_same ?_
                  rw [hr]
                  exact ⟨.bi (s9 _ _ e9) (fa.same sA) (fb.same sA), en, rfl, hen, hdrop⟩
              · have hl : (S (wd (X.drop i)) == kLock) = false := by
                  cases hh : (S (wd (X.drop i)) == kLock) with
                  | false => rfl
                  | true => exact absurd (congrArg V.str (beq_iff_eq.mp hh)) hnl
                rw [hl] at hr
                walk_at "go3"
                refine ⟨by show 1 ≤ sizeLine; decide, fun p5 hp5 => ?_⟩
                have s6 : Same H5 (upd H5 p5 (.tup [.str (S (wd (X.drop i)))])) := Same.upd hp5
                have e6 : upd H5 p5 (.tup [.str (S (wd (X.drop i)))]) p5 = some (.tup [.str (S (wd (X.drop i)))]) := upd_same
                generalize upd H5 p5 (.tup [.str (S (wd (X.drop i)))]) = H8 at s6 e6 ⊢
                have epl8 := s6 _ _ epl
                walk_at "go3"
                refine ⟨pl, _, rfl, .inl ⟨SqL.of epl8, fun p6 hp6 => ?_⟩⟩
                have s7 : Same H8 (upd H8 p6 (.tup [v, .ref pb])) := Same.upd hp6
                refine g_catT (s7 _ _ e6) upd_same (by rw [sizeLine_eq]; simp) fun p7 H9 s8 e9 => ?_
                walk_at "go3"
                refine ⟨by show 2 ≤ sizeLine; decide, fun p8 hp8 => ?_⟩
                have s9 : Same H9 (upd H9 p8 (.tup [.ref p7, .int (en : Int)])) := Same.upd hp8
                have sA : Same H5 (upd H9 p8 (.tup [.ref p7, .int (en : Int)])) := s6.trans (s7.trans (s8.trans s9))
                refine q _ _ _ _ (s5.trans sA) upd_same ?_
                rw [hr]
                exact ⟨.bi (s9 _ _ e9) (fa.same sA) (fb.same sA), en, rfl, hen, hdrop⟩
/-- what the law reads -/
def spLRead : Sp := fun vs H Q _ => ∃ X : List Nat, vs = [.str (S X)] ∧ X.length ≤ 2000 ∧ cnt X < 40 ∧ ∀ H' x, Same H H' → ((∃ a : Fm, a.ok = true ∧ a.txt = X ∧ FmAt H' x a) ∨ (x = .non ∧ NoL X)) → Q x H'
theorem ca_lread (T : Bl K mg) (D : Df K mg "_law_read" s_law_read p_law_read) (c_law_read_at : Ca P w K mg base 42 "_law_read_at" (spReadAt 40)) : Ca P w K mg base 43 "_law_read" spLRead := by
  refine ca_n D sc_law_read (fun vs H Q E h => ?_) (fun f cdv A outer s H vs Q E hr h => ?_)
  · obtain ⟨X, rfl, _⟩ := h
    rfl
  · obtain ⟨X, rfl, hX, hc, q⟩ := h
    have hXs : (S X).length ≤ sizeLine := by rw [S_len, sizeLine_eq]; omega
    refine ⟨_, (pss_cons (ps_asg (pe_ca c_law_read_at hr (by decide) (by rfl) (pa_cons (pv 0) (pa_cons pe_int pa_nil))) (pg_tup rfl (pgs_cons (pg_name (i := 1) sc_law_read.nd rfl (Or.inl rfl)) (pgs_cons (pg_name (i := 2) sc_law_read.nd rfl (Or.inl rfl)) pgs_nil))))
  (pss_one (ps_ret (pe_ifExp (pt_cmpR op_eq (pv 2) (pe_callB cq_lens (by rfl) T.b_len (by decide +kernel) (pa_cons (pv 0) pa_nil)) (nomark _)) (pv 1) pe_non)))), ?_⟩
    walk_at "go3"
    refine ⟨X, 0, rfl, hX, Nat.zero_le _, by rw [List.drop_zero]; exact hc, fun H1 p x e s1 ep rv => ?_⟩
    rw [List.drop_zero] at rv
    refine ⟨_, _, rfl, SqT.of ep, rfl, _, _, rfl, ?_⟩
    refine g_name ?_
    refine ⟨_, _, rfl, ?_⟩
    refine g_name ?_
    refine ⟨rfl, ?_⟩
    walk_at "go3"
    rw [S_len]
    cases hr : rdF 40 X with
    | none =>
      rw [hr] at rv
      obtain rfl : x = .non := rv
      have hno : NoL X := fun a ok ea => by
        have h := rdF_full ok 40 [] (by have := dep_cnt a; rw [ea] at this; omega) (.inl rfl)
        rw [List.append_nil, ea, hr] at h
        cases h
      refine iteD (fun _ => ?_) (fun _ => ?_)
      · walk_at "go3"
        exact q _ _ s1 (.inr ⟨rfl, hno⟩)
      · walk_at "go3"
        exact q _ _ s1 (.inr ⟨rfl, hno⟩)
    | some y =>
      obtain ⟨a, r⟩ := y
      rw [hr] at rv
      obtain ⟨fa, j, rfl, hj, hd⟩ := rv
      obtain ⟨ok, ea⟩ := rdF_sound _ _ _ _ hr
      refine iteD (fun h => ?_) (fun h => ?_)
      · have hjl : j = X.length := by have := V.int.inj h; omega
        rw [hjl, List.drop_length] at hd
        rw [← hd, List.append_nil] at ea
        walk_at "go3"
        exact q _ _ s1 (.inl ⟨a, ok, ea.symm, fa⟩)
      · walk_at "go3"
        refine q _ _ s1 (.inr ⟨rfl, fun b okb eb => ?_⟩)
        have hb := rdF_full okb 40 [] (by have := dep_cnt b; rw [eb] at this; omega) (.inl rfl)
        rw [List.append_nil, eb, hr] at hb
        injection hb with hb
        injection hb with _ hb
        rw [hb] at hd
        have := congrArg List.length hd
        rw [List.length_drop, List.length_nil] at this
        exact h (congrArg V.int (by omega))
end
end Op

namespace Op
open PySem PySem.Spec PyProof.Rows L2 SX OpC
local macro_rules | `(tactic| walk_at "go1") => `(tactic| first
  | ((with_reducible refine' g_var ?h ?_); (case h => rfl)) | with_reducible refine' g_c ?_ | with_reducible refine' g_op ?_ | with_reducible refine' g_un ?_ | with_reducible refine' g_if ?_ | with_reducible refine' g_test ?_ | with_reducible refine' g_B ?_ | with_reducible refine' g_bl ?_
  | with_reducible refine' g_not ?_ | with_reducible refine' g_and ?_ | with_reducible refine' g_or ?_ | with_reducible refine' g_andV ?_ | with_reducible refine' g_orV ?_ | with_reducible refine' g_notV ?_ | with_reducible refine' g_nil ?_ | with_reducible refine' g_cons ?_ | with_reducible refine' g_CB ?_ | with_reducible refine' g_ca ?_
  | with_reducible refine' g_seq ?_ | with_reducible refine' g_next ?_ | with_reducible refine' g_asg ?_ | with_reducible refine' g_name ?_ | with_reducible refine' g_ret ?_ | with_reducible refine' g_retN ?_ | with_reducible refine' g_drop ?_ | with_reducible refine' g_ifS ?_ | with_reducible refine' g_sub ?_
  | with_reducible refine' g_I0 ?_ | with_reducible refine' g_U ?_ | ((with_reducible refine' g_eq ?h ?_); (case h => rfl)) | ((with_reducible refine' g_ne ?h ?_); (case h => rfl))
  | ((with_reducible refine' g_lenL ?h ?_); (case h => first | assumption | exact SqL.of (by assumption) | exact SqL.of upd_same)) | ((with_reducible refine' g_lenT ?h ?_); (case h => first | assumption | exact SqT.of (by assumption) | exact SqT.of upd_same))
  | ((with_reducible refine' g_ixL ?h ?ha ?_); (case h => first | assumption | exact SqL.of (by assumption) | exact SqL.of upd_same); (case ha => rfl)) | ((with_reducible refine' g_ixT ?h ?ha ?_); (case h => first | assumption | exact SqT.of (by assumption) | exact SqT.of upd_same); (case ha => rfl))
  | ((with_reducible refine' g_I ?h ?_); (case h => first | decide | omega | (first | refine' ⟨?_, ?_, ?_⟩ | refine' ⟨?_, ?_⟩ | refine' Or.inl ⟨?_, ?_⟩) <;> omega | (refine' Or.inr ⟨?_, ?_⟩ <;> omega)))
  | ((with_reducible refine' g_setL ?h ?ha ?_); (case h => first | assumption | exact upd_same); (case ha => rfl))
  | with_reducible refine' g_lcR ?_
  | with_reducible refine' g_M1 ?_ | with_reducible refine' g_isS ?_ | with_reducible refine' g_tyS ?_ | ((with_reducible refine' g_tyL ?h ?_); (case h => first | assumption | exact upd_same))
  | ((with_reducible refine' g_cat ?h ?h2 ?hl ?_); (case h => first | assumption | exact upd_same); (case h2 => first | assumption | exact upd_same); (case hl => first | decide | (simp; omega)))
  | with_reducible refine' g_lcS ?_
  | with_reducible refine' g_starts ?_ | with_reducible refine' g_chain ?_
  | ((with_reducible refine' g_lenS ?h ?_); (case h => first | exact len_le (by assumption) | exact len_le (by omega))) | ((with_reducible refine' g_rstrip ?h ?_); (case h => first | exact len_le (by assumption) | exact len_le (by omega))) | ((with_reducible refine' g_slX ?h ?_); (case h => first | exact len_le (by assumption) | exact len_le (by omega)))
  | with_reducible refine' g_sl ?_ | with_reducible refine' g_nopart ?_ | with_reducible refine' g_part ?_ | with_reducible refine' g_isI ?_
  | with_reducible refine' g_tru ?_
  | with_reducible refine' iteT ?_ | with_reducible refine' iteF ?_ | with_reducible refine' iteNT ?_ | with_reducible refine' iteNF ?_
  | with_reducible refine' g_int ?_ | with_reducible refine' g_insg ?_ | with_reducible refine' g_ninsg ?_ | with_reducible refine' g_isN ?_ | with_reducible refine' g_notN ?_ | with_reducible refine' g_lst ?_ | with_reducible refine' g_tup ?_ | with_reducible refine' g_BM ?_ | with_reducible refine' g_BM0 ?_)
local macro_rules | `(tactic| walk_at "go") => `(tactic| repeat' walk_at "go1")
local macro_rules | `(tactic| walk_at "go2") => `(tactic| repeat' (first | walk_at "go1" | with_reducible refine' g_cm ?_ | with_reducible refine' g_mk ?_ | with_reducible refine' g_for ?_ | ((with_reducible refine' g_rcm ?h ?ha ?_); (case h => first | assumption | exact upd_same); (case ha => first | rfl | decide | simp [List.lookup]))))
/- macro2 -/
local macro_rules | `(tactic| walk_at "go3a") => `(tactic| first
  | walk_at "go1" | with_reducible refine' g_cm ?_ | with_reducible refine' g_mk ?_ | with_reducible refine' g_for ?_ | with_reducible refine' g_fld ?_ | with_reducible refine' g_lcT0 ?_
  | ((with_reducible refine' g_rcm ?h ?ha ?_); (case h => first | assumption | exact upd_same); (case ha => first | rfl | decide | simp [List.lookup]))
  | ((with_reducible refine' g_shape ?hc ?hn ?h ?_); (case hc => assumption); (case hn => assumption); (case h => first | assumption | exact upd_same | (rw [upd_ne (by assumption)]; assumption))))
local macro_rules | `(tactic| walk_at "go3") => `(tactic| repeat' walk_at "go3a")
local macro_rules | `(tactic| walk_at "go4") => `(tactic| repeat' (first
  | walk_at "go3a" | ((with_reducible refine' iteDT ?h ?_); (case h => first | rfl | decide +kernel)) | ((with_reducible refine' iteDF ?h ?_); (case h => decide +kernel))))
/-! ## Letter.read of any text; texts spoilt -/
/-- Letter.read of any text -/
def spRead8 (CL CT : Addr) : Sp := fun vs H Q E => ∃ X : List Nat, vs = [.str (S X)] ∧ X.length ≤ 2000 ∧ ((∃ a : Fm, a.ok = true ∧ a.txt = X ∧ ∀ H' x, Same H H' → LetAt CL H' x a → Q x H') ∨ (NoL X ∧ ∀ H1 dd, Same H H1 → H1 dd = none → E (.ref CT) (some dd) (upd H1 dd (.xd [("line", .int 1)]))))
def Tc (l c : Nat) (v : V) : Prop := ∃ cs, v = .str (S cs) ∧ cs.length ≤ l ∧ cnt cs ≤ c
theorem Tc.lit {l c : Nat} (z : Str) (h : (decide (z.cps.toList.length ≤ l) && decide (cnt z.cps.toList ≤ c)) = true) : Tc l c (.str z) := by
  simp only [Bool.and_eq_true, decide_eq_true_eq] at h
  exact ⟨z.cps.toList, by rw [S_tl], h.1, h.2⟩
theorem Tc.up {l c l' c' : Nat} {v : V} (h : Tc l c v) (h1 : l ≤ l') (h2 : c ≤ c') : Tc l' c' v := by
  obtain ⟨cs, e, a, b⟩ := h
  exact ⟨cs, e, by omega, by omega⟩
theorem cut_last (X : List Nat) : ∃ Y, Txt.slice (S X) none (some (-1)) = S Y ∧ Y.length ≤ X.length ∧ cnt Y ≤ cnt X := by
  by_cases h : X = []
  · subst h
    exact ⟨[], by decide +kernel, Nat.le_refl _, Nat.le_refl _⟩
  · have h1 : 1 ≤ X.length := by
      cases X with
      | nil => exact absurd rfl h
      | cons c r => simp
    have e := beq_iff_eq.mp (PyProof.Rows.slice_closes_to_neg (x := S X) (j := -1) (k := (X.length : Int) - 1) (by decide) (by rw [S_len]; omega) (by rw [S_len]; omega))
    refine ⟨X.take (X.length - 1), e.trans (TL.ext_tl ?_), by rw [List.length_take]; omega, ?_⟩
    · show (X.drop (0 : Int).toNat).take (((X.length : Int) - 1) - 0).toNat = X.take (X.length - 1)
      rw [show (0 : Int).toNat = 0 from rfl, List.drop_zero, show (((X.length : Int) - 1) - 0).toNat = X.length - 1 by omega]
    · have h2 := cnt_app (X.take (X.length - 1)) (X.drop (X.length - 1))
      rw [List.take_append_drop] at h2
      omega
def spSp8 : Sp := fun vs H Q _ => ∃ (st : Addr) (X : List Nat) (m : Nat), vs = [.ref st, .str (S X)] ∧ StAt H st m ∧ X.length ≤ 1000 ∧ m + 10 < 1000000000000 ∧ ∀ H' Y, But st H H' → StAt H' st (m + 4) → Y.length ≤ X.length + 10 → cnt Y ≤ cnt X + 1 → Q (.str (S Y)) H'
theorem cat8 {a b : List Nat} {H' : Hp} {Q' : VK} (ha : a.length ≤ 3000) (hb : b.length ≤ 3000) (hq : Q' (.str (S (a ++ b))) H') : rCatS (.str (S a)) (.str (S b)) H' Q' := by
  refine g_catS (by rw [S_len, S_len, sizeLine_eq]; omega) ?_
  rw [S_cat]
  exact hq
section
variable {P : Program} {w : World} {K : PySem.W.Frag} {mg : Str → Option Value} {base : Heap} {CL CE CT : Addr}
theorem fn_read8 (T : Bl K mg) (L : Lt K mg CL) {fa : Addr} {fd : FuncData} (F : Fun K "read" "Letter.read" s_Letter_read fa fd) (c_good : Ca P w K mg base 6 "text_form" spTextForm) (c_bad : Ca P w K mg base 6 "text_form" spTextBad) (c_Letter : Ck P w K mg base 4 "Letter" CL (spInit2 CL CE)) (c_BadText : Er P w K mg base 1 "BadText" CT "line") :
    FnOk P w K mg base (L2.CX P w) 7 fa fd p_Letter_read (spRead8 CL CT) := by
  refine fnX F sc_Letter_read (fun vs H Q E h => ?_) (fun f cdv A outer s H vs Q E hr h => ?_)
  · obtain ⟨X, rfl, _⟩ := h
    rfl
  · obtain ⟨X, rfl, hX, h | h⟩ := h
    · obtain ⟨a, ok, rfl, q⟩ := h
      have c_text_form := c_good
      have hz := Fm.size_txt ok
      refine ⟨_, (pss_cons (ps_set (i := 1) sc_Letter_read.nd rfl (Or.inl rfl) (pe_ca c_text_form hr (by decide) (by rfl) (pa_cons (pv 0) pa_nil)))
  (pss_cons (ps_if (pt_cmpR oq_isN (pv 1) pe_non (nomark _))
  (pss_one (ps_rz rfl c_BadText hr (by decide) (takes_of rfl rfl rfl rfl) (by rfl) (pa_cons pe_int pa_nil)))
  pss_nil)
  (pss_one (ps_ret (pe_mk (E := fun _ => E0) c_Letter hr (by decide) passE0 (by rfl) (pa_cons (pv 1) pa_nil)))))), ?_⟩
      walk_at "go3"
      refine ⟨a, rfl, ok, by omega, fun H1 v s1 fa => ?_⟩
      obtain ⟨p, xs, rfl, ep⟩ := head_at fa
      walk_at "go3"
      refine iteD (fun h => nomatch h) (fun _ => ?_)
      walk_at "go3"
      refine mk_tup ep fun H' z dz s2 hz => ?_
      exact q _ _ (s1.trans s2) ⟨z, dz, .ref p, rfl, hz, fa.same s2⟩
    · obtain ⟨hno, q⟩ := h
      have c_text_form := c_bad
      refine ⟨_, (pss_cons (ps_set (i := 1) sc_Letter_read.nd rfl (Or.inl rfl) (pe_ca c_text_form hr (by decide) (by rfl) (pa_cons (pv 0) pa_nil)))
  (pss_cons (ps_if (pt_cmpR oq_isN (pv 1) pe_non (nomark _))
  (pss_one (ps_rz rfl c_BadText hr (by decide) (takes_of rfl rfl rfl rfl) (by rfl) (pa_cons pe_int pa_nil)))
  pss_nil)
  (pss_one (ps_ret (pe_mk (E := fun _ => E0) c_Letter hr (by decide) passE0 (by rfl) (pa_cons (pv 1) pa_nil)))))), ?_⟩
      walk_at "go3"
      refine ⟨X, rfl, hX, hno, fun H1 s1 => ?_⟩
      walk_at "go3"
      refine iteD (fun _ => ?_) (fun h => absurd rfl h)
      walk_at "go3"
      exact ⟨_, rfl, fun d hd => q H1 d s1 hd⟩
theorem ca_sp8 (T : Bl K mg) (D : Df K mg "_law_spoilt" s_law_spoilt p_law_spoilt) (c_law_draw : Ca P w K mg base 1 "_law_draw" spDraw) (c_law_pick : Ca P w K mg base 2 "_law_pick" (spPick K)) : Ca P w K mg base 3 "_law_spoilt" spSp8 := by
  refine ca_n D sc_law_spoilt (fun vs H Q E h => ?_) (fun f cdv A outer s H vs Q E hr h => ?_)
  · obtain ⟨st, X, m, rfl, _⟩ := h
    rfl
  · obtain ⟨st, X, m, rfl, hst, hX, hm, q⟩ := h
    have hXs : (S X).length ≤ sizeLine := by rw [S_len, sizeLine_eq]; omega
    refine ⟨_, (pss_cons (ps_set (i := 2) sc_law_spoilt.nd rfl (Or.inl rfl) (pe_ca c_law_draw hr (by decide) (by rfl) (pa_cons (pv 0) (pa_cons (pe_op op_add (pe_callB cq_lens (by rfl) T.b_len (by decide +kernel) (pa_cons (pv 1) pa_nil)) pe_int) pa_nil))))
  (pss_cons (ps_set (i := 3) sc_law_spoilt.nd rfl (Or.inl rfl) (pe_ca c_law_pick hr (by decide) (by rfl) (pa_cons (pv 0) (pa_cons (pe_op op_cat (pe_callTy (cq_list_str rfl) (by rfl) T.b_list (by decide +kernel) (pa_cons pe_str pa_nil)) (pe_lst (pa_cons pe_str (pa_cons pe_str (pa_cons pe_str (pa_cons pe_str (pa_cons pe_str (pa_cons pe_str pa_nil)))))))) pa_nil))))
  (pss_cons (ps_set (i := 4) sc_law_spoilt.nd rfl (Or.inl rfl) (pe_ca c_law_draw hr (by decide) (by rfl) (pa_cons (pv 0) (pa_cons pe_int pa_nil))))
  (pss_cons (ps_if (pt_cmpR op_eq (pv 4) pe_int (nomark _))
  (pss_one (ps_ret (pe_op oq_adds (pe_slice C8.sl_txt (pv 1) po_none (po_some (pv 2))) (pe_slice C8.sl_txt (pv 1) (po_some (pe_op op_add (pv 2) pe_int)) po_none))))
  pss_nil)
  (pss_cons (ps_if (pt_cmpR op_eq (pv 4) pe_int (nomark _))
  (pss_one (ps_ret (pe_op oq_adds (pe_op oq_adds (pe_slice C8.sl_txt (pv 1) po_none (po_some (pv 2))) (pe_slice C8.sl_txt (pv 1) (po_some (pv 2)) (po_some (pe_op op_add (pv 2) pe_int)))) (pe_slice C8.sl_txt (pv 1) (po_some (pv 2)) po_none))))
  pss_nil)
  (pss_cons (ps_if (pt_cmpR op_eq (pv 4) pe_int (nomark _))
  (pss_one (ps_ret (pe_op oq_adds (pe_op oq_adds (pe_slice C8.sl_txt (pv 1) po_none (po_some (pv 2))) (pv 3)) (pe_slice C8.sl_txt (pv 1) (po_some (pv 2)) po_none))))
  pss_nil)
  (pss_cons (ps_if (pt_cmpR op_eq (pv 4) pe_int (nomark _))
  (pss_one (ps_ret (pe_op oq_adds (pe_op oq_adds (pe_slice C8.sl_txt (pv 1) po_none (po_some (pv 2))) (pv 3)) (pe_slice C8.sl_txt (pv 1) (po_some (pe_op op_add (pv 2) pe_int)) po_none))))
  pss_nil)
  (pss_cons (ps_set (i := 5) sc_law_spoilt.nd rfl (Or.inl rfl) (pe_lst (pa_cons (pe_op oq_adds (pv 1) pe_str) (pa_cons (pe_op oq_adds pe_str (pv 1)) (pa_cons (pe_op oq_adds (pv 1) pe_str) (pa_cons (pe_slice C8.sl_txt (pv 1) po_none (po_some (pe_un un_neg pe_int))) (pa_cons pe_str (pa_cons pe_str (pa_cons pe_str (pa_cons pe_str (pa_cons pe_str pa_nil)))))))))))
  (pss_one (ps_ret (pe_ca c_law_pick hr (by decide) (by rfl) (pa_cons (pv 0) (pa_cons (pe_op op_cat (pv 5) (pe_lst (pa_cons pe_str pa_nil))) pa_nil))))))))))))), ?_⟩
    walk_at "go3"
    rw [S_len]
    refine g_draw (m := X.length + 1) (by omega) (by omega) (by omega) hst (by omega) fun H1 k hk b1 s1 => ?_
    walk_at "go3"
    refine ⟨(Str.ofString "(),? aK1-\n").cps.toList, by rw [S_tl], by decide +kernel, fun p2 hp2 => ?_⟩
    walk_at "go3"
    refine ⟨by show 6 ≤ sizeLine; decide, fun p3 hp3 => ?_⟩
    have z2 : Same H1 (upd H1 p2 (.lst ((Str.ofString "(),? aK1-\n").cps.toList.map fun c => V.str (S [c])))) := Same.upd hp2
    have e2 : upd H1 p2 (.lst ((Str.ofString "(),? aK1-\n").cps.toList.map fun c => V.str (S [c]))) p2 = some (.lst ((Str.ofString "(),? aK1-\n").cps.toList.map fun c => V.str (S [c]))) := upd_same
    generalize upd H1 p2 (.lst ((Str.ofString "(),? aK1-\n").cps.toList.map fun c => V.str (S [c]))) = H2 at z2 e2 hp3 ⊢
    have z3 : Same H2 (upd H2 p3 (.lst [.str (Str.ofString ", "), .str (Str.ofString "pair("), .str (Str.ofString "own("), .str (Str.ofString "lock("), .str (Str.ofString ")"), .str (Str.ofString "pair")])) := Same.upd hp3
    have e3 : upd H2 p3 (.lst [.str (Str.ofString ", "), .str (Str.ofString "pair("), .str (Str.ofString "own("), .str (Str.ofString "lock("), .str (Str.ofString ")"), .str (Str.ofString "pair")]) p3 = some (.lst [.str (Str.ofString ", "), .str (Str.ofString "pair("), .str (Str.ofString "own("), .str (Str.ofString "lock("), .str (Str.ofString ")"), .str (Str.ofString "pair")]) := upd_same
    generalize upd H2 p3 (.lst [.str (Str.ofString ", "), .str (Str.ofString "pair("), .str (Str.ofString "own("), .str (Str.ofString "lock("), .str (Str.ofString ")"), .str (Str.ofString "pair")]) = H3 at z3 e3 ⊢
    refine g_cat (z3 _ _ e2) e3 (by decide +kernel) fun p4 hp4 => ?_
    have z4 : Same H3 (upd H3 p4 (.lst (((Str.ofString "(),? aK1-\n").cps.toList.map fun c => V.str (S [c])) ++ [.str (Str.ofString ", "), .str (Str.ofString "pair("), .str (Str.ofString "own("), .str (Str.ofString "lock("), .str (Str.ofString ")"), .str (Str.ofString "pair")]))) := Same.upd hp4
    have e4 : upd H3 p4 (.lst (((Str.ofString "(),? aK1-\n").cps.toList.map fun c => V.str (S [c])) ++ [.str (Str.ofString ", "), .str (Str.ofString "pair("), .str (Str.ofString "own("), .str (Str.ofString "lock("), .str (Str.ofString ")"), .str (Str.ofString "pair")])) p4 = some (.lst (((Str.ofString "(),? aK1-\n").cps.toList.map fun c => V.str (S [c])) ++ [.str (Str.ofString ", "), .str (Str.ofString "pair("), .str (Str.ofString "own("), .str (Str.ofString "lock("), .str (Str.ofString ")"), .str (Str.ofString "pair")])) := upd_same
    have np4 : p4 ≠ st := (((s1.same z2).same z3).ne hp4).symm
    generalize upd H3 p4 _ = H4 at z4 e4 ⊢
    walk_at "go3"
    have z14 := (z2.trans z3).trans z4
    refine ⟨st, p4, _, _, rfl, SqL.of e4, np4, by decide +kernel, by decide +kernel, s1.same z14, by omega, fun H5 v hv b5 s5 => ?_⟩
    obtain ⟨gs, rfl, hgs, cgs⟩ : Tc 5 1 v := by
      rcases List.mem_append.mp hv with hx | hx
      · obtain ⟨c, _, rfl⟩ := List.mem_map.mp hx
        exact ⟨[c], rfl, by show 1 ≤ 5; decide, by
          have := List.count_le_length (a := 40) (l := [c])
          exact this⟩
      · simp only [List.mem_cons, List.not_mem_nil, or_false] at hx
        rcases hx with rfl | rfl | rfl | rfl | rfl | rfl
        all_goals exact Tc.lit _ (by decide +kernel)
    have bA : But st H H5 := b1.trans ((But.of z14).trans b5)
    clear hv b1 b5 z14 z2 z3 z4 e2 e3 e4 np4 hp4 hp3 hp2 s1 hst
    walk_at "go3"
    refine g_draw (m := 5) rfl (by decide) (by decide) s5 (by omega) fun H6 d hd b6 s6 => ?_
    have bB := bA.trans b6
    have hk' : k ≤ X.length := by omega
    have sto : Txt.slice (S X) none (some (k : Int)) = S (X.take k) := by rw [slice_to (by omega), Int.toNat_natCast]
    have sfr : ∀ m : Nat, Txt.slice (S X) (some (m : Int)) none = S (X.drop m) := fun m => by rw [slice_from (by omega), Int.toNat_natCast]
    have smi : Txt.slice (S X) (some (k : Int)) (some ((k + 1 : Nat) : Int)) = S ((X.drop k).take 1) := by
      rw [slice_mid (Nat.le_succ k) hk', show k + 1 - k = 1 by omega]
    have e1 : (k : Int) + 1 = ((k + 1 : Nat) : Int) := rfl
    have lto : (X.take k).length ≤ X.length := by rw [List.length_take]; omega
    have lfr : ∀ m, (X.drop m).length ≤ X.length := fun m => by rw [List.length_drop]; omega
    have ctd : cnt X = cnt (X.take k) + cnt (X.drop k) := by
      have h := cnt_app (X.take k) (X.drop k)
      rw [List.take_append_drop] at h
      exact h
    have ltd : X.length = (X.take k).length + (X.drop k).length := by
      have h := congrArg List.length (List.take_append_drop k X)
      rw [List.length_append] at h
      exact h.symm
    have cdd : cnt (X.drop (k + 1)) ≤ cnt (X.drop k) := by
      have h := cnt_drop (X.drop k) 1
      rw [List.drop_drop] at h
      exact h
    have ldd : (X.drop (k + 1)).length ≤ (X.drop k).length := by rw [List.length_drop, List.length_drop]; omega
    have l1 : ((X.drop k).take 1).length ≤ 1 := by rw [List.length_take]; omega
    have c1 : cnt ((X.drop k).take 1) ≤ 1 := Nat.le_trans (List.count_le_length) l1
    walk_at "go3"
    refine iteD (fun _ => ?_) (fun _ => ?_)
    · walk_at "go3"
      rw [sto]
      walk_at "go3"
      rw [e1, sfr]
      refine cat8 (by omega) (by have := lfr (k + 1); omega) ?_
      exact q _ _ bB (s6.mono (by omega)) (by rw [List.length_append]; omega) (by rw [cnt_app]; omega)
    walk_at "go3"
    refine iteD (fun _ => ?_) (fun _ => ?_)
    · walk_at "go3"
      rw [sto]
      walk_at "go3"
      rw [e1, smi]
      refine cat8 (by omega) (by omega) ?_
      walk_at "go3"
      rw [sfr]
      refine cat8 (by rw [List.length_append]; omega) (by have := lfr k; omega) ?_
      exact q _ _ bB (s6.mono (by omega)) (by rw [List.length_append, List.length_append]; omega) (by rw [cnt_app, cnt_app]; omega)
    walk_at "go3"
    refine iteD (fun _ => ?_) (fun _ => ?_)
    · walk_at "go3"
      rw [sto]
      walk_at "go3"
      refine cat8 (by omega) (by omega) ?_
      walk_at "go3"
      rw [sfr]
      refine cat8 (by rw [List.length_append]; omega) (by have := lfr k; omega) ?_
      exact q _ _ bB (s6.mono (by omega)) (by rw [List.length_append, List.length_append]; omega) (by rw [cnt_app, cnt_app]; omega)
    walk_at "go3"
    refine iteD (fun _ => ?_) (fun _ => ?_)
    · walk_at "go3"
      rw [sto]
      walk_at "go3"
      refine cat8 (by omega) (by omega) ?_
      walk_at "go3"
      rw [e1, sfr]
      refine cat8 (by rw [List.length_append]; omega) (by have := lfr (k + 1); omega) ?_
      exact q _ _ bB (s6.mono (by omega)) (by rw [List.length_append, List.length_append]; omega) (by rw [cnt_app, cnt_app]; omega)
    walk_at "go3"
    rw [show Str.ofString " " = S [32] by decide +kernel]
    refine cat8 (by omega) (by decide) ?_
    walk_at "go3"
    refine cat8 (by decide) (by omega) ?_
    walk_at "go3"
    rw [show Str.ofString ")" = S [41] by decide +kernel]
    refine cat8 (by omega) (by decide) ?_
    walk_at "go3"
    obtain ⟨Y, eY, lY, cY⟩ := cut_last X
    rw [show (-(1 : Int)) = -1 from rfl, eY]
    walk_at "go3"
    refine ⟨by show 9 ≤ sizeLine; decide, fun p5 hp5 => ?_⟩
    have y5 : Same H6 (upd H6 p5 (.lst [V.str (S (X ++ [32])), .str (S ([32] ++ X)), .str (S (X ++ [41])), .str (S Y), .str (Str.ofString ""), .str (Str.ofString "("), .str (Str.ofString "pair"), .str (Str.ofString "pair()"), .str (Str.ofString "mark(a, b)")])) := Same.upd hp5
    have f5 : upd H6 p5 (.lst [V.str (S (X ++ [32])), .str (S ([32] ++ X)), .str (S (X ++ [41])), .str (S Y), .str (Str.ofString ""), .str (Str.ofString "("), .str (Str.ofString "pair"), .str (Str.ofString "pair()"), .str (Str.ofString "mark(a, b)")]) p5 = some (.lst [V.str (S (X ++ [32])), .str (S ([32] ++ X)), .str (S (X ++ [41])), .str (S Y), .str (Str.ofString ""), .str (Str.ofString "("), .str (Str.ofString "pair"), .str (Str.ofString "pair()"), .str (Str.ofString "mark(a, b)")]) := upd_same
    generalize upd H6 p5 (.lst [V.str (S (X ++ [32])), .str (S ([32] ++ X)), .str (S (X ++ [41])), .str (S Y), .str (Str.ofString ""), .str (Str.ofString "("), .str (Str.ofString "pair"), .str (Str.ofString "pair()"), .str (Str.ofString "mark(a, b)")]) = H7 at y5 f5 ⊢
    walk_at "go3"
    refine ⟨by show 1 ≤ sizeLine; decide, fun p6 hp6 => ?_⟩
    have y6 : Same H7 (upd H7 p6 (.lst [V.str (Str.ofString "lock(a, K)")])) := Same.upd hp6
    have f6 : upd H7 p6 (.lst [V.str (Str.ofString "lock(a, K)")]) p6 = some (.lst [V.str (Str.ofString "lock(a, K)")]) := upd_same
    generalize upd H7 p6 (.lst [V.str (Str.ofString "lock(a, K)")]) = H8 at y6 f6 ⊢
    refine g_cat (y6 _ _ f5) f6 (by show 9 + 1 ≤ sizeLine; decide) fun p7 hp7 => ?_
    have y7 : Same H8 (upd H8 p7 (.lst ([V.str (S (X ++ [32])), .str (S ([32] ++ X)), .str (S (X ++ [41])), .str (S Y), .str (Str.ofString ""), .str (Str.ofString "("), .str (Str.ofString "pair"), .str (Str.ofString "pair()"), .str (Str.ofString "mark(a, b)")] ++ [V.str (Str.ofString "lock(a, K)")]))) := Same.upd hp7
    have y67 := (y5.trans y6).trans y7
    have np7 : p7 ≠ st := (((s6.same y5).same y6).ne hp7).symm
    walk_at "go3"
    refine ⟨st, p7, _, _, rfl, SqL.of upd_same, np7, by show 0 < 10; decide, by show 10 < 1000000; decide, s6.same y67, by omega, fun H9 v hv b9 s9 => ?_⟩
    have x1 : cnt (X ++ [32]) = cnt X := by rw [cnt_app]; rfl
    have x2 : cnt ([32] ++ X) = cnt X := by rw [cnt_app]; exact Nat.zero_add _
    have x3 : cnt (X ++ [41]) = cnt X := by rw [cnt_app]; rfl
    have tv : Tc (X.length + 10) (cnt X + 1) v := by
      have hv' : v ∈ [V.str (S (X ++ [32])), .str (S ([32] ++ X)), .str (S (X ++ [41])), .str (S Y), .str (Str.ofString ""), .str (Str.ofString "("), .str (Str.ofString "pair"), .str (Str.ofString "pair()"), .str (Str.ofString "mark(a, b)"), .str (Str.ofString "lock(a, K)")] := hv
      simp only [List.mem_cons, List.not_mem_nil, or_false] at hv'
      rcases hv' with rfl | rfl | rfl | rfl | rfl | rfl | rfl | rfl | rfl | rfl
      · exact ⟨_, rfl, by rw [List.length_append, List.length_singleton]; omega, by omega⟩
      · exact ⟨_, rfl, by rw [List.length_append, List.length_singleton]; omega, by omega⟩
      · exact ⟨_, rfl, by rw [List.length_append, List.length_singleton]; omega, by omega⟩
      · exact ⟨_, rfl, by omega, by omega⟩
      all_goals exact (Tc.lit (l := 10) (c := 1) _ (by decide +kernel)).up (by omega) (by omega)
    obtain ⟨Z, rfl, lZ, cZ⟩ := tv
    exact q _ _ (bB.trans ((But.of y67).trans b9)) (s9.mono (by omega)) lZ cZ
end
end Op
namespace Op
open PySem PySem.Spec PyProof.Rows L2 SX OpC
/-- what a dict with these keys alone has not -/
theorem nsIn_miss {K : PySem.W.Frag} {Pm : Params} {a : Addr} {es : Array DictEntry} {n : Nat} {ks : List Str} {x : Str} (hl : K.lookup a = some ⟨.type "dict", none, .dict es n, #[]⟩) (hk : PySem.W.KeysLit Pm es.toList) (ha : (es.toList.all fun e => ks.any fun k => e.key.isStr k) = true) (hx : ∀ k ∈ ks, x ≠ k) : PySem.W.nsIn K a x = some none := by
  unfold PySem.W.nsIn
  rw [hl]
  dsimp only
  have h1 : es.toList.find? (fun e => e.key.isStr x) = none := by
    rw [List.find?_eq_none]
    intro e he
    obtain ⟨z, t, hz, _⟩ := hk.all e he
    obtain ⟨k, hkm, hk2⟩ := List.any_eq_true.mp (List.all_eq_true.mp ha e he)
    rw [hz] at hk2 ⊢
    have e1 : z = k := by simpa [Value.isStr] using hk2
    intro h
    have e2 : z = x := by simpa [Value.isStr] using h
    exact hx k hkm (e2.symm.trans e1)
  have h2 : es.toList.any (fun e => e.refKey) = false := by
    rw [List.any_eq_false]
    intro e he
    obtain ⟨z, t, hz, _⟩ := hk.all e he
    simp [DictEntry.refKey, hz]
  rw [h1]
  dsimp only
  rw [h2]
  rfl
end Op

namespace Op
open PySem PySem.Spec PyProof.Rows L2 SX OpC
local macro_rules | `(tactic| walk_at "go1") => `(tactic| first
  | ((with_reducible refine' g_var ?h ?_); (case h => rfl)) | with_reducible refine' g_c ?_ | with_reducible refine' g_op ?_ | with_reducible refine' g_un ?_ | with_reducible refine' g_if ?_ | with_reducible refine' g_test ?_ | with_reducible refine' g_B ?_ | with_reducible refine' g_bl ?_
  | with_reducible refine' g_not ?_ | with_reducible refine' g_and ?_ | with_reducible refine' g_or ?_ | with_reducible refine' g_andV ?_ | with_reducible refine' g_orV ?_ | with_reducible refine' g_notV ?_ | with_reducible refine' g_nil ?_ | with_reducible refine' g_cons ?_ | with_reducible refine' g_CB ?_ | with_reducible refine' g_ca ?_
  | with_reducible refine' g_seq ?_ | with_reducible refine' g_next ?_ | with_reducible refine' g_asg ?_ | with_reducible refine' g_name ?_ | with_reducible refine' g_ret ?_ | with_reducible refine' g_retN ?_ | with_reducible refine' g_drop ?_ | with_reducible refine' g_ifS ?_ | with_reducible refine' g_sub ?_
  | with_reducible refine' g_I0 ?_ | with_reducible refine' g_U ?_ | ((with_reducible refine' g_eq ?h ?_); (case h => rfl)) | ((with_reducible refine' g_ne ?h ?_); (case h => rfl))
  | ((with_reducible refine' g_lenL ?h ?_); (case h => first | assumption | exact SqL.of (by assumption) | exact SqL.of upd_same)) | ((with_reducible refine' g_lenT ?h ?_); (case h => first | assumption | exact SqT.of (by assumption) | exact SqT.of upd_same))
  | ((with_reducible refine' g_ixL ?h ?ha ?_); (case h => first | assumption | exact SqL.of (by assumption) | exact SqL.of upd_same); (case ha => rfl)) | ((with_reducible refine' g_ixT ?h ?ha ?_); (case h => first | assumption | exact SqT.of (by assumption) | exact SqT.of upd_same); (case ha => rfl))
  | ((with_reducible refine' g_I ?h ?_); (case h => first | decide | omega | (first | refine' ⟨?_, ?_, ?_⟩ | refine' ⟨?_, ?_⟩ | refine' Or.inl ⟨?_, ?_⟩) <;> omega | (refine' Or.inr ⟨?_, ?_⟩ <;> omega)))
  | ((with_reducible refine' g_setL ?h ?ha ?_); (case h => first | assumption | exact upd_same); (case ha => rfl))
  | with_reducible refine' g_lcR ?_
  | with_reducible refine' g_M1 ?_ | with_reducible refine' g_isS ?_ | with_reducible refine' g_tyS ?_ | ((with_reducible refine' g_tyL ?h ?_); (case h => first | assumption | exact upd_same))
  | ((with_reducible refine' g_cat ?h ?h2 ?hl ?_); (case h => first | assumption | exact upd_same); (case h2 => first | assumption | exact upd_same); (case hl => first | decide | (simp; omega)))
  | with_reducible refine' g_lcS ?_
  | with_reducible refine' g_starts ?_ | with_reducible refine' g_chain ?_
  | ((with_reducible refine' g_lenS ?h ?_); (case h => first | exact len_le (by assumption) | exact len_le (by omega))) | ((with_reducible refine' g_rstrip ?h ?_); (case h => first | exact len_le (by assumption) | exact len_le (by omega))) | ((with_reducible refine' g_slX ?h ?_); (case h => first | exact len_le (by assumption) | exact len_le (by omega)))
  | with_reducible refine' g_sl ?_ | with_reducible refine' g_nopart ?_ | with_reducible refine' g_part ?_ | with_reducible refine' g_isI ?_
  | with_reducible refine' g_tru ?_
  | with_reducible refine' iteT ?_ | with_reducible refine' iteF ?_ | with_reducible refine' iteNT ?_ | with_reducible refine' iteNF ?_
  | with_reducible refine' g_int ?_ | with_reducible refine' g_insg ?_ | with_reducible refine' g_ninsg ?_ | with_reducible refine' g_isN ?_ | with_reducible refine' g_notN ?_ | with_reducible refine' g_lst ?_ | with_reducible refine' g_tup ?_ | with_reducible refine' g_BM ?_ | with_reducible refine' g_BM0 ?_)
local macro_rules | `(tactic| walk_at "go") => `(tactic| repeat' walk_at "go1")
local macro_rules | `(tactic| walk_at "go2") => `(tactic| repeat' (first | walk_at "go1" | with_reducible refine' g_cm ?_ | with_reducible refine' g_mk ?_ | with_reducible refine' g_for ?_ | ((with_reducible refine' g_rcm ?h ?ha ?_); (case h => first | assumption | exact upd_same); (case ha => first | rfl | decide | simp [List.lookup]))))
/- macro2 -/
local macro_rules | `(tactic| walk_at "go3a") => `(tactic| first
  | walk_at "go1" | with_reducible refine' g_cm ?_ | with_reducible refine' g_mk ?_ | with_reducible refine' g_for ?_ | with_reducible refine' g_fld ?_ | with_reducible refine' g_lcT0 ?_
  | ((with_reducible refine' g_rcm ?h ?ha ?_); (case h => first | assumption | exact upd_same); (case ha => first | rfl | decide | simp [List.lookup]))
  | ((with_reducible refine' g_shape ?hc ?hn ?h ?_); (case hc => assumption); (case hn => assumption); (case h => first | assumption | exact upd_same | (rw [upd_ne (by assumption)]; assumption))))
local macro_rules | `(tactic| walk_at "go3") => `(tactic| repeat' walk_at "go3a")
local macro_rules | `(tactic| walk_at "go4") => `(tactic| repeat' (first
  | walk_at "go3a" | ((with_reducible refine' iteDT ?h ?_); (case h => first | rfl | decide +kernel)) | ((with_reducible refine' iteDF ?h ?_); (case h => decide +kernel))))
local macro_rules | `(tactic| walk_at "go5") => `(tactic| repeat' (first | walk_at "go3a" | with_reducible refine' g_sm ?_ | with_reducible refine' g_rsm ?_ | with_reducible refine' g_par ?_))
def spLaw (K : PySem.W.Frag) : Sp := fun vs H Q _ => ∃ (a : Addr) (ns : List Int), vs = [.ref a] ∧ SqL K H a (ns.map V.int) ∧ ns.length ≤ 63 ∧ ∀ H', Q (.bl true) H'
/-- what is told of a text -/
def ToldT (H : Hp) (X : List Nat) (x : V) : Prop := (∃ a : Fm, a.ok = true ∧ a.txt = X ∧ ∃ p u, x = .ref p ∧ H p = some (.tup [.str (Str.ofString "read"), u]) ∧ FmAt H u a) ∨ (NoL X ∧ ∃ p, x = .ref p ∧ H p = some (.tup [.str (Str.ofString "refused"), .int 1]))
def spTold8 : Sp := fun vs H Q _ => ∃ X : List Nat, vs = [.str (S X)] ∧ X.length ≤ 2000 ∧ ∀ H' x, Same H H' → ToldT H' X x → Q x H'
theorem us_x {H : Hp} {p : Addr} (h : H p = some (.lst [.str (Str.ofString "x")])) : UsAt H p [[120]] := ⟨by
  rw [h, show Str.ofString "x" = S [120] by decide +kernel]
  rfl, by decide +kernel, by decide⟩
theorem cnt_kw {k : Str} (h : unK k = true ∨ biK k = true) : cnt k.cps.toList = 0 := by
  simp only [unK, biK, Bool.or_eq_true, beq_iff_eq] at h
  rcases h with ((rfl | rfl) | rfl) | ((rfl | rfl) | rfl) <;> decide +kernel
theorem cnt_size : ∀ {a : Fm}, a.ok = true → cnt a.txt ≤ a.size
  | .atm k t, h => by
    have : cnt (atTxt k t) = 0 := List.count_eq_zero.mpr fun h40 => by
      have := atm_sep h 40 h40
      cases this
    show cnt (atTxt k t) ≤ 1
    omega
  | .un k a, h => by
    simp only [Fm.ok, Bool.and_eq_true] at h
    have ih := cnt_size h.2
    have e : cnt (Fm.un k a).txt = cnt k.cps.toList + 1 + cnt a.txt + 0 := by
      show cnt (k.cps.toList ++ [40] ++ a.txt ++ [41]) = _
      rw [cnt_app, cnt_app, cnt_app]
      rfl
    rw [e, cnt_kw (.inl h.1)]
    show 0 + 1 + cnt a.txt + 0 ≤ a.size + 1
    omega
  | .bi k a b, h => by
    simp only [Fm.ok, Bool.and_eq_true] at h
    have ih1 := cnt_size h.2.2.1
    have ih2 := cnt_size h.2.2.2
    have e : cnt (Fm.bi k a b).txt = cnt k.cps.toList + 1 + cnt a.txt + 0 + cnt b.txt + 0 := by
      show cnt (k.cps.toList ++ [40] ++ a.txt ++ [44, 32] ++ b.txt ++ [41]) = _
      rw [cnt_app, cnt_app, cnt_app, cnt_app, cnt_app]
      rfl
    rw [e, cnt_kw (.inr h.1)]
    show 0 + 1 + cnt a.txt + 0 + cnt b.txt + 0 ≤ a.size + b.size + 1
    omega
theorem sh_word {z : Str} {d : PyData} (hz : PyData.strOk z = true) (l : d.canLay0 = true) (n : d.depth ≤ 63) : SeqAt.shaped (.tuple [.str z, d]) = true := by
  show ((PyData.strOk z && (d.canLay0 && true)) && decide (max 0 (max d.depth 0) + 1 ≤ 64)) = true
  rw [hz, l, decide_eq_true (by omega)]
  rfl
section
variable {P : Program} {w : World} {K : PySem.W.Frag} {mg : Str → Option Value} {base : Heap} {CL CE CT : Addr}
theorem ca_told (T : Bl K mg) (L : Lt K mg CL) (D : Df K mg "_law_told" s_law_told p_law_told) (c_BadText : Er P w K mg base 1 "BadText" CT "line") (s_read : Sm P w K mg base 7 CL "read" (spRead8 CL CT))
    (m_form : Cm P w K mg base 1 CL "form" (spForm CL)) : Ca P w K mg base 8 "_law_told" spTold8 := by
  refine ca_n D sc_law_told (fun vs H Q E h => ?_) (fun f cdv A outer s H vs Q E hr h => ?_)
  · obtain ⟨X, rfl, _⟩ := h
    rfl
  · obtain ⟨X, rfl, hX, q⟩ := h
    refine ⟨_, (pss_one (ps_try_as (i := 1) rfl rfl sc_law_told.nd rfl rfl ⟨rfl, by decide, .inl c_BadText.gC⟩ takes0 (fun W pn xe tk _ => (pss_one (ps_ret (pe_tup (pa_cons pe_str (pa_cons (pe_cm0 m_form L.cl hr (by decide) (pe_sm (E := allW 2 W) s_read hr (by decide) (fun σ hl => passAll tk σ hl) (C8.pe_gc (v := .ref CL) (by rfl) ⟨_, L.mgC, rfl⟩) (pa_cons (pv 0) pa_nil))) pa_nil)))))) (fun a oe cls d pn hz hf => (pss_one (ps_ret (pe_tup (pa_cons pe_str (pa_cons (pe_xf c_BadText.xf c_BadText.no hz hf (pv 1)) pa_nil)))))))), ?_⟩
    walk_at "go5"
    refine ⟨X, rfl, hX, ?_⟩
    by_cases hL : ∃ a : Fm, a.ok = true ∧ a.txt = X
    · obtain ⟨a, ok, ea⟩ := hL
      refine .inl ⟨a, ok, ea, fun H1 x s1 lx => ?_⟩
      obtain ⟨xa, dx, u, rfl, hx, fu⟩ := lx
      walk_at "go5"
      refine ⟨xa, dx, u, rfl, hx, ?_⟩
      walk_at "go5"
      refine ⟨by show 2 ≤ sizeLine; decide, fun p hp => ?_⟩
      exact q _ _ (s1.trans (Same.upd hp)) (.inl ⟨a, ok, ea, p, u, rfl, upd_same, fu.same (Same.upd hp)⟩)
    · have hno : NoL X := fun a ok ea => hL ⟨a, ok, ea⟩
      refine .inr ⟨hno, fun H1 dd s1 hdd => ?_⟩
      intro σ hσ
      refine ⟨true, c_BadText.te, fun _ a' ha => ?_, fun z => nomatch z⟩
      match σ, hσ with
      | [w0, w1], _ =>
        walk_at "go5"
        refine ⟨_, rfl, rfl, rfl, dd, _, .int 1, rfl, upd_same, by simp [List.lookup], ?_⟩
        walk_at "go5"
        refine ⟨by show 2 ≤ sizeLine; decide, fun p4 hp4 => ?_⟩
        exact q _ _ (s1.trans ((Same.upd hdd).trans (Same.upd hp4))) (.inr ⟨hno, p4, rfl, upd_same⟩)
theorem fn_law (T : Bl K mg) {fa : Addr} {fd : FuncData} (F : Fun K "law" "law" s_law fa fd) (c_law_stream : Ca P w K mg base 1 "_law_stream" (spStream K)) (c_law_draw : Ca P w K mg base 1 "_law_draw" spDraw)
    (c_law_form : Ca P w K mg base 8 "_law_form" (spForm1 4)) (c_law_text : Ca P w K mg base 10 "_law_text" (spText 9)) (c_law_spoilt : Ca P w K mg base 3 "_law_spoilt" spSp8) (c_law_read : Ca P w K mg base 43 "_law_read" spLRead) (c_law_told : Ca P w K mg base 8 "_law_told" spTold8) : FnOk P w K mg base (L2.CX P w) 44 fa fd ["_law_script"] (spLaw K) := by
  refine fnX F sc_law (fun vs H Q E h => ?_) (BodyN.x fun f cdv A outer s H vs Q E hr h => ?_)
  · obtain ⟨a, ns, rfl, _⟩ := h
    rfl
  · obtain ⟨a, ns, rfl, hS, hl, q⟩ := h
    refine ⟨_, (pss_cons (ps_for PassesOwn.never rfl (pi_range1 rfl T.b_range (pa_cons pe_int pa_nil)) (pg_name (i := 1) sc_law.nd rfl (Or.inl rfl))
  (pss_cons (ps_set (i := 2) sc_law.nd rfl (Or.inl rfl) (pe_ca c_law_stream hr (by decide) (by rfl) (pa_cons (pv 0) (pa_cons (pv 1) pa_nil))))
  (pss_cons (ps_set (i := 3) sc_law.nd rfl (Or.inl rfl) (pe_ca c_law_text hr (by decide) (by rfl) (pa_cons (pe_ca c_law_form hr (by decide) (by rfl) (pa_cons (pv 2) (pa_cons (pe_lst (pa_cons pe_str pa_nil)) (pa_cons pe_int pa_nil)))) pa_nil)))
  (C8.pss_cut (ps_for PassesOwn.never rfl (pi_range1 rfl T.b_range (pa_cons (pe_ca c_law_draw hr (by decide) (by rfl) (pa_cons (pv 2) (pa_cons pe_int pa_nil))) pa_nil)) (pg_name (i := 4) sc_law.nd rfl (Or.inl rfl))
  (pss_one (ps_set (i := 3) sc_law.nd rfl (Or.inl rfl) (pe_ca c_law_spoilt hr (by decide) (by rfl) (pa_cons (pv 2) (pa_cons (pv 3) pa_nil))))))
  (pss_cons (ps_set (i := 5) sc_law.nd rfl (Or.inl rfl) (pe_ca c_law_read hr (by decide) (by rfl) (pa_cons (pv 3) pa_nil)))
  (pss_one (ps_if (pt_cmpR (op_neD hr.units) (pe_ca c_law_told hr (by decide) (by rfl) (pa_cons (pv 3) pa_nil)) (pe_ifExp (pt_cmpR oq_isN (pv 5) pe_non (nomark _)) (pe_tup (pa_cons pe_str (pa_cons pe_int pa_nil))) (pe_tup (pa_cons pe_str (pa_cons (pv 5) pa_nil)))) (nomark _))
  (pss_one (ps_ret pe_bl))
  pss_nil)))))))
  (pss_one (ps_ret pe_bl))), ?_⟩
    walk_at "go5"
    refine r_for (fun i σ' H' => ∃ w1 w2 w3 w4 w5, σ' = [some (.ref a), w1, w2, w3, w4, w5] ∧ Same H H') (by decide) ⟨_, _, _, _, _, rfl, Same.refl _⟩ (fun i σ' H0 hi p => ?_) (fun σ' H0 p => ?_)
    · obtain ⟨w1, w2, w3, w4, w5, rfl, sH⟩ := p
      have hi8 : i < 8 := hi
      walk_at "go5"
      refine ⟨a, ns, i, rfl, SqL.sm hS sH, by omega, fun H1 st hst s1 st1 => ?_⟩
      have nst : H st = none := Same.non sH hst
      walk_at "go5"
      refine ⟨by show 1 ≤ sizeLine; decide, fun p2 hp2 => ?_⟩
      walk_at "go5"
      refine ⟨st, p2, [[120]], 0, 3, rfl, by decide, us_x upd_same, (st1.ne hp2).symm, st1.same (Same.upd hp2), by decide, fun H2 uf f okf df zf b2 st2 ff => ?_⟩
      have sH2 : Same H H2 := Same.but (sH.trans (s1.trans (Same.upd hp2))) nst b2
      have zf' : f.size ≤ 22 := zf
      clear b2 st1 s1 hst
      walk_at "go5"
      refine ⟨uf, f, rfl, ff, okf, by omega, by omega, fun H3 s3 => ?_⟩
      have sH3 := sH2.trans s3
      have st3 := st2.same s3
      have hl0 : f.txt.length ≤ 440 := by have := Fm.txt_len (Fm.ok_kin okf) (Fm.ok_small okf); omega
      have hc0 : cnt f.txt ≤ 22 := by have := cnt_size okf; omega
      refine ⟨fun σ' H' => ∃ v4 X, σ' = [some (.ref a), some (.int (i : Int)), some (.ref st), some (.str (S X)), v4, w5] ∧ Same H H' ∧ X.length ≤ 480 ∧ cnt X ≤ 26, ?_, ?_⟩
      · walk_at "go5"
        refine g_draw (m := 4) rfl (by decide) (by decide) st3 (by decide) fun H4 j hj b4 st4 => ?_
        walk_at "go5"
        refine r_for (fun k σ' H' => ∃ v4 X, σ' = [some (.ref a), some (.int (i : Int)), some (.ref st), some (.str (S X)), v4, w5] ∧ But st H3 H' ∧ StAt H' st (0 + dr 3 + 1 + 4 * k) ∧ X.length ≤ 440 + 10 * k ∧ cnt X ≤ 22 + k) (by omega) ⟨_, f.txt, rfl, b4, st4, by omega, by omega⟩ (fun k σ' H5 hk p => ?_) (fun σ' H5 p => ?_)
        · obtain ⟨v4, X, rfl, b5, st5, lX, cX⟩ := p
          have hk4 : k < 4 := by omega
          walk_at "go5"
          refine ⟨st, X, _, rfl, st5, by omega, by have : dr 3 = 375 := rfl; omega, fun H6 Y b6 st6 lY cY => ?_⟩
          walk_at "go5"
          exact ⟨_, Y, rfl, b5.trans b6, st6.mono (by omega), by omega, by omega⟩
        · obtain ⟨v4, X, rfl, b5, st5, lX, cX⟩ := p
          have hj3 : (j : Int).toNat ≤ 3 := by omega
          exact ⟨v4, X, rfl, Same.but sH3 nst b5, by omega, by omega⟩
      · rintro σ4 H4 ⟨v4, X, rfl, sH4, lX, cX⟩
        walk_at "go5"
        refine ⟨X, rfl, by omega, by omega, fun H5 x5 s5 r5 => ?_⟩
        walk_at "go5"
        refine ⟨X, rfl, by omega, fun H6 x6 s6 t6 => ?_⟩
        rcases r5 with ⟨a1, ok1, ea1, fa1⟩ | ⟨rfl, hno⟩
        · obtain ⟨p5, xs5, rfl, e5⟩ := head_at fa1
          rcases t6 with ⟨a2, ok2, ea2, p6, u, rfl, e6, fu⟩ | ⟨hno, _⟩
          · -- two forms of one text are the same data: both are what is read from the left
            have ee : a1 = a2 := by
              have h1 := rdF_full ok1 (max a1.dep a2.dep + 1) [] (by omega) (.inl rfl)
              have h2 := rdF_full ok2 (max a1.dep a2.dep + 1) [] (by omega) (.inl rfl)
              rw [ea1] at h1
              rw [ea2, h1] at h2
              injection h2 with h2
              exact (Prod.mk.inj h2).1
            subst ee
            have da : a1.dep ≤ 60 := by have := dep_cnt a1; rw [ea1] at this; omega
            walk_at "go5"
            refine iteD (fun h => nomatch h) (fun _ => ?_)
            walk_at "go5"
            refine ⟨by show 2 ≤ sizeLine; decide, fun p8 hp8 => ?_⟩
            have s8 : Same H6 (upd H6 p8 (.tup [.str (Str.ofString "read"), .ref p5])) := Same.upd hp8
            have e8 : upd H6 p8 (.tup [.str (Str.ofString "read"), .ref p5]) p8 = some (.tup [.str (Str.ofString "read"), .ref p5]) := upd_same
            generalize upd H6 p8 (.tup [.str (Str.ofString "read"), .ref p5]) = H8 at s8 e8 ⊢
            have hd := Fm.depth_le a1
            refine g_neSelf (.tup (SqT.of (s8 _ _ e6)) (.cons (.str _) (.cons (dp_fm (fu.same s8)) .nil))) (.tup (SqT.of e8) (.cons (.str _) (.cons (dp_fm ((fa1.same s6).same s8)) .nil))) (sh_word (by decide +kernel) (Fm.lay ok1) (by omega)) ?_
            walk_at "go5"
            exact ⟨_, _, _, _, _, rfl, sH4.trans (s5.trans (s6.trans s8))⟩
          · exact absurd ea1 (hno a1 ok1)
        · rcases t6 with ⟨a2, ok2, ea2, _⟩ | ⟨_, p6, rfl, e6⟩
          · exact absurd ea2 (hno a2 ok2)
          · walk_at "go5"
            refine iteD (fun _ => ?_) (fun h => absurd rfl h)
            walk_at "go5"
            refine ⟨by show 2 ≤ sizeLine; decide, fun p8 hp8 => ?_⟩
            have s8 : Same H6 (upd H6 p8 (.tup [.str (Str.ofString "refused"), .int 1])) := Same.upd hp8
            have e8 : upd H6 p8 (.tup [.str (Str.ofString "refused"), .int 1]) p8 = some (.tup [.str (Str.ofString "refused"), .int 1]) := upd_same
            generalize upd H6 p8 (.tup [.str (Str.ofString "refused"), .int 1]) = H8 at s8 e8 ⊢
            refine g_neSelf (.tup (SqT.of (s8 _ _ e6)) (.cons (.str _) (.cons (.int 1) .nil))) (.tup (SqT.of e8) (.cons (.str _) (.cons (.int 1) .nil))) (sh_word (by decide +kernel) rfl (by decide)) ?_
            walk_at "go5"
            exact ⟨_, _, _, _, _, rfl, sH4.trans (s5.trans (s6.trans s8))⟩
    · obtain ⟨w1, w2, w3, w4, w5, rfl, sH⟩ := p
      walk_at "go5"
      exact q _
end
theorem all_mk {l : PySem.W.OpenLaw} {w : World} {K : PySem.W.Frag} {h : Heap} {mg : Str → Option Value} {fa : Addr} (X : K.In h) (G : h.Ns mainGlobals mg) (hfa : mg "law" = some (.ref fa))
    {f_law_stream : Addr} {od_law_stream : Option Addr} {an_law_stream : Option Addr} {sl_law_stream : Array (Option Value)} {oc_law_stream : Value} {kV_law_stream : Value} {dc_law_stream : Value} {pm_law_stream : Value} {cd_law_stream : Value} {ct_law_stream : Value} {f_law_draw : Addr} {od_law_draw : Option Addr} {an_law_draw : Option Addr} {sl_law_draw : Array (Option Value)} {oc_law_draw : Value} {kV_law_draw : Value} {dc_law_draw : Value} {pm_law_draw : Value} {cd_law_draw : Value} {ct_law_draw : Value} {f_law_pick : Addr} {od_law_pick : Option Addr} {an_law_pick : Option Addr} {sl_law_pick : Array (Option Value)} {oc_law_pick : Value} {kV_law_pick : Value} {dc_law_pick : Value} {pm_law_pick : Value} {cd_law_pick : Value} {ct_law_pick : Value} {f_law_word : Addr} {od_law_word : Option Addr} {an_law_word : Option Addr} {sl_law_word : Array (Option Value)} {oc_law_word : Value} {kV_law_word : Value} {dc_law_word : Value} {pm_law_word : Value} {cd_law_word : Value} {ct_law_word : Value} {f_law_name : Addr} {od_law_name : Option Addr} {an_law_name : Option Addr} {sl_law_name : Array (Option Value)} {oc_law_name : Value} {kV_law_name : Value} {dc_law_name : Value} {pm_law_name : Value} {cd_law_name : Value} {ct_law_name : Value} {f_made_of : Addr} {od_made_of : Option Addr} {an_made_of : Option Addr} {sl_made_of : Array (Option Value)} {oc_made_of : Value} {kV_made_of : Value} {dc_made_of : Value} {pm_made_of : Value} {cd_made_of : Value} {ct_made_of : Value} {f_is_word : Addr} {od_is_word : Option Addr} {an_is_word : Option Addr} {sl_is_word : Array (Option Value)} {oc_is_word : Value} {kV_is_word : Value} {dc_is_word : Value} {pm_is_word : Value} {cd_is_word : Value} {ct_is_word : Value} {f_is_name : Addr} {od_is_name : Option Addr} {an_is_name : Option Addr} {sl_is_name : Array (Option Value)} {oc_is_name : Value} {kV_is_name : Value} {dc_is_name : Value} {pm_is_name : Value} {cd_is_name : Value} {ct_is_name : Value} {f_is_unknown : Addr} {od_is_unknown : Option Addr} {an_is_unknown : Option Addr} {sl_is_unknown : Array (Option Value)} {oc_is_unknown : Value} {kV_is_unknown : Value} {dc_is_unknown : Value} {pm_is_unknown : Value} {cd_is_unknown : Value} {ct_is_unknown : Value} {f_atom_form : Addr} {od_atom_form : Option Addr} {an_atom_form : Option Addr} {sl_atom_form : Array (Option Value)} {oc_atom_form : Value} {kV_atom_form : Value} {dc_atom_form : Value} {pm_atom_form : Value} {cd_atom_form : Value} {ct_atom_form : Value} {f_atom_text : Addr} {od_atom_text : Option Addr} {an_atom_text : Option Addr} {sl_atom_text : Array (Option Value)} {oc_atom_text : Value} {kV_atom_text : Value} {dc_atom_text : Value} {pm_atom_text : Value} {cd_atom_text : Value} {ct_atom_text : Value} {f_form_text : Addr} {od_form_text : Option Addr} {an_form_text : Option Addr} {sl_form_text : Array (Option Value)} {oc_form_text : Value} {kV_form_text : Value} {dc_form_text : Value} {pm_form_text : Value} {cd_form_text : Value} {ct_form_text : Value} {f_law_atom : Addr} {od_law_atom : Option Addr} {an_law_atom : Option Addr} {sl_law_atom : Array (Option Value)} {oc_law_atom : Value} {kV_law_atom : Value} {dc_law_atom : Value} {pm_law_atom : Value} {cd_law_atom : Value} {ct_law_atom : Value} {f_law_form : Addr} {od_law_form : Option Addr} {an_law_form : Option Addr} {sl_law_form : Array (Option Value)} {oc_law_form : Value} {kV_law_form : Value} {dc_law_form : Value} {pm_law_form : Value} {cd_law_form : Value} {ct_law_form : Value} {f_is_atom : Addr} {od_is_atom : Option Addr} {an_is_atom : Option Addr} {sl_is_atom : Array (Option Value)} {oc_is_atom : Value} {kV_is_atom : Value} {dc_is_atom : Value} {pm_is_atom : Value} {cd_is_atom : Value} {ct_is_atom : Value} {f_stands_alone : Addr} {od_stands_alone : Option Addr} {an_stands_alone : Option Addr} {sl_stands_alone : Array (Option Value)} {oc_stands_alone : Value} {kV_stands_alone : Value} {dc_stands_alone : Value} {pm_stands_alone : Value} {cd_stands_alone : Value} {ct_stands_alone : Value} {f_first_fault : Addr} {od_first_fault : Option Addr} {an_first_fault : Option Addr} {sl_first_fault : Array (Option Value)} {oc_first_fault : Value} {kV_first_fault : Value} {dc_first_fault : Value} {pm_first_fault : Value} {cd_first_fault : Value} {ct_first_fault : Value} {f_law_kind : Addr} {od_law_kind : Option Addr} {an_law_kind : Option Addr} {sl_law_kind : Array (Option Value)} {oc_law_kind : Value} {kV_law_kind : Value} {dc_law_kind : Value} {pm_law_kind : Value} {cd_law_kind : Value} {ct_law_kind : Value} {f_tokens : Addr} {od_tokens : Option Addr} {an_tokens : Option Addr} {sl_tokens : Array (Option Value)} {oc_tokens : Value} {kV_tokens : Value} {dc_tokens : Value} {pm_tokens : Value} {cd_tokens : Value} {ct_tokens : Value} {f_text_form : Addr} {od_text_form : Option Addr} {an_text_form : Option Addr} {sl_text_form : Array (Option Value)} {oc_text_form : Value} {kV_text_form : Value} {dc_text_form : Value} {pm_text_form : Value} {cd_text_form : Value} {ct_text_form : Value} {f_law_text : Addr} {od_law_text : Option Addr} {an_law_text : Option Addr} {sl_law_text : Array (Option Value)} {oc_law_text : Value} {kV_law_text : Value} {dc_law_text : Value} {pm_law_text : Value} {cd_law_text : Value} {ct_law_text : Value} {f_law_read_at : Addr} {od_law_read_at : Option Addr} {an_law_read_at : Option Addr} {sl_law_read_at : Array (Option Value)} {oc_law_read_at : Value} {kV_law_read_at : Value} {dc_law_read_at : Value} {pm_law_read_at : Value} {cd_law_read_at : Value} {ct_law_read_at : Value} {f_law_read : Addr} {od_law_read : Option Addr} {an_law_read : Option Addr} {sl_law_read : Array (Option Value)} {oc_law_read : Value} {kV_law_read : Value} {dc_law_read : Value} {pm_law_read : Value} {cd_law_read : Value} {ct_law_read : Value} {f_law_spoilt : Addr} {od_law_spoilt : Option Addr} {an_law_spoilt : Option Addr} {sl_law_spoilt : Array (Option Value)} {oc_law_spoilt : Value} {kV_law_spoilt : Value} {dc_law_spoilt : Value} {pm_law_spoilt : Value} {cd_law_spoilt : Value} {ct_law_spoilt : Value} {f_law_told : Addr} {od_law_told : Option Addr} {an_law_told : Option Addr} {sl_law_told : Array (Option Value)} {oc_law_told : Value} {kV_law_told : Value} {dc_law_told : Value} {pm_law_told : Value} {cd_law_told : Value} {ct_law_told : Value} {f_law : Addr} {od_law : Option Addr} {an_law : Option Addr} {sl_law : Array (Option Value)} {oc_law : Value} {kV_law : Value} {dc_law : Value} {pm_law : Value} {cd_law : Value} {ct_law : Value} {CL : Addr} {f_LI : Addr} {od_LI : Option Addr} {an_LI : Option Addr} {sl_LI : Array (Option Value)} {oc_LI : Value} {kV_LI : Value} {dc_LI : Value} {pm_LI : Value} {cd_LI : Value} {ct_LI : Value} {f_Letter_read : Addr} {p_s_Letter_read : Addr} {rs_Letter_read : List Value} {od_Letter_read : Option Addr} {an_Letter_read : Option Addr} {sl_Letter_read : Array (Option Value)} {oc_Letter_read : Value} {kV_Letter_read : Value} {dc_Letter_read : Value} {pm_Letter_read : Value} {cd_Letter_read : Value} {ct_Letter_read : Value} {f_Letter_form : Addr} {od_Letter_form : Option Addr} {an_Letter_form : Option Addr} {sl_Letter_form : Array (Option Value)} {oc_Letter_form : Value} {kV_Letter_form : Value} {dc_Letter_form : Value} {pm_Letter_form : Value} {cd_Letter_form : Value} {ct_Letter_form : Value} {f_Letter_written : Addr} {od_Letter_written : Option Addr} {an_Letter_written : Option Addr} {sl_Letter_written : Array (Option Value)} {oc_Letter_written : Value} {kV_Letter_written : Value} {dc_Letter_written : Value} {pm_Letter_written : Value} {cd_Letter_written : Value} {ct_Letter_written : Value} {f_Letter___add__ : Addr} {od_Letter___add__ : Option Addr} {an_Letter___add__ : Option Addr} {sl_Letter___add__ : Array (Option Value)} {oc_Letter___add__ : Value} {kV_Letter___add__ : Value} {dc_Letter___add__ : Value} {pm_Letter___add__ : Value} {cd_Letter___add__ : Value} {ct_Letter___add__ : Value} {f_Letter___mul__ : Addr} {od_Letter___mul__ : Option Addr} {an_Letter___mul__ : Option Addr} {sl_Letter___mul__ : Array (Option Value)} {oc_Letter___mul__ : Value} {kV_Letter___mul__ : Value} {dc_Letter___mul__ : Value} {pm_Letter___mul__ : Value} {cd_Letter___mul__ : Value} {ct_Letter___mul__ : Value} {f_Letter___xor__ : Addr} {od_Letter___xor__ : Option Addr} {an_Letter___xor__ : Option Addr} {sl_Letter___xor__ : Array (Option Value)} {oc_Letter___xor__ : Value} {kV_Letter___xor__ : Value} {dc_Letter___xor__ : Value} {pm_Letter___xor__ : Value} {cd_Letter___xor__ : Value} {ct_Letter___xor__ : Value} {f_Letter___invert__ : Addr} {od_Letter___invert__ : Option Addr} {an_Letter___invert__ : Option Addr} {sl_Letter___invert__ : Array (Option Value)} {oc_Letter___invert__ : Value} {kV_Letter___invert__ : Value} {dc_Letter___invert__ : Value} {pm_Letter___invert__ : Value} {cd_Letter___invert__ : Value} {ct_Letter___invert__ : Value} {f_Letter___pos__ : Addr} {od_Letter___pos__ : Option Addr} {an_Letter___pos__ : Option Addr} {sl_Letter___pos__ : Array (Option Value)} {oc_Letter___pos__ : Value} {kV_Letter___pos__ : Value} {dc_Letter___pos__ : Value} {pm_Letter___pos__ : Value} {cd_Letter___pos__ : Value} {ct_Letter___pos__ : Value} {f_Letter___neg__ : Addr} {od_Letter___neg__ : Option Addr} {an_Letter___neg__ : Option Addr} {sl_Letter___neg__ : Array (Option Value)} {oc_Letter___neg__ : Value} {kV_Letter___neg__ : Value} {dc_Letter___neg__ : Value} {pm_Letter___neg__ : Value} {cd_Letter___neg__ : Value} {ct_Letter___neg__ : Value} {CR : Addr} {C_BadAtom : Addr} {f_BadAtom : Addr} {nm_BadAtom : Str} {q_BadAtom : Str} {N_BadAtom : Addr} {bs_BadAtom : List Value} {sn_BadAtom : List Str} {sub_BadAtom : List Value} {ab_BadAtom : Bool} {col_BadAtom : Option Bool} {dd_BadAtom : Option Addr} {m0_BadAtom : Option Value} {m1_BadAtom : Option Value} {m2_BadAtom : Option Value} {m3_BadAtom : Option Value} {m5_BadAtom : Option Value} {od_BadAtom : Option Addr} {an_BadAtom : Option Addr} {sl_BadAtom : Array (Option Value)} {oc_BadAtom : Value} {kV_BadAtom : Value} {dc_BadAtom : Value} {pm_BadAtom : Value} {cd_BadAtom : Value} {ct_BadAtom : Value} {C_BadText : Addr} {f_BadText : Addr} {nm_BadText : Str} {q_BadText : Str} {N_BadText : Addr} {bs_BadText : List Value} {sn_BadText : List Str} {sub_BadText : List Value} {ab_BadText : Bool} {col_BadText : Option Bool} {dd_BadText : Option Addr} {m0_BadText : Option Value} {m1_BadText : Option Value} {m2_BadText : Option Value} {m3_BadText : Option Value} {m5_BadText : Option Value} {od_BadText : Option Addr} {an_BadText : Option Addr} {sl_BadText : Array (Option Value)} {oc_BadText : Value} {kV_BadText : Value} {dc_BadText : Value} {pm_BadText : Value} {cd_BadText : Value} {ct_BadText : Value} {a_d_SIZES : Addr} {es_d_SIZES : Array DictEntry} {n_d_SIZES : Nat} {tk_d_SIZES0 : Tok} {tk_d_SIZES1 : Tok} {tk_d_SIZES2 : Tok} {tk_d_SIZES3 : Tok} {tk_d_SIZES4 : Tok} {tk_d_SIZES5 : Tok} {tk_d_SIZES6 : Tok} {tk_d_SIZES7 : Tok} {tk_d_SIZES8 : Tok} {a_d_HEADS : Addr} {es_d_HEADS : Array DictEntry} {n_d_HEADS : Nat} {tk_d_HEADS0 : Tok} {tk_d_HEADS1 : Tok} {tk_d_HEADS2 : Tok} {tk_d_HEADS3 : Tok} {tk_d_HEADS4 : Tok} {tk_d_HEADS5 : Tok} {tk_SMALL : Tok} {tk_CAPITALS : Tok} {tk_DIGITS : Tok} {a_c_ATOMS : Addr} {od_c_ATOMS : Option Addr} {n_c_ATOMS : Nat} {sl_c_ATOMS : Array (Option Value)} {tk_ATOMS0 : Tok} {tk_ATOMS1 : Tok} {tk_ATOMS2 : Tok} {a_c_KEYS : Addr} {od_c_KEYS : Option Addr} {n_c_KEYS : Nat} {sl_c_KEYS : Array (Option Value)} {tk_KEYS0 : Tok} {tk_KEYS1 : Tok}
    (a_law_stream : PySem.W.nsIn K mainGlobals "_law_stream" = some (some (.ref f_law_stream)))
    (l_law_stream : K.lookup f_law_stream = some ⟨oc_law_stream, od_law_stream, .func (PySem.W.fnOf "_law_stream" "_law_stream" (defArgs s_law_stream) (defBody s_law_stream) (defScope s_law_stream) .none kV_law_stream dc_law_stream pm_law_stream an_law_stream cd_law_stream ct_law_stream), sl_law_stream⟩)
    (c_law_stream : PySem.W.codeIn K cd_law_stream "_law_stream" = true)
    (k_law_stream : PySem.W.keepIn K (.ref f_law_stream) = true)
    (a_law_draw : PySem.W.nsIn K mainGlobals "_law_draw" = some (some (.ref f_law_draw)))
    (l_law_draw : K.lookup f_law_draw = some ⟨oc_law_draw, od_law_draw, .func (PySem.W.fnOf "_law_draw" "_law_draw" (defArgs s_law_draw) (defBody s_law_draw) (defScope s_law_draw) .none kV_law_draw dc_law_draw pm_law_draw an_law_draw cd_law_draw ct_law_draw), sl_law_draw⟩)
    (c_law_draw : PySem.W.codeIn K cd_law_draw "_law_draw" = true)
    (k_law_draw : PySem.W.keepIn K (.ref f_law_draw) = true)
    (a_law_pick : PySem.W.nsIn K mainGlobals "_law_pick" = some (some (.ref f_law_pick)))
    (l_law_pick : K.lookup f_law_pick = some ⟨oc_law_pick, od_law_pick, .func (PySem.W.fnOf "_law_pick" "_law_pick" (defArgs s_law_pick) (defBody s_law_pick) (defScope s_law_pick) .none kV_law_pick dc_law_pick pm_law_pick an_law_pick cd_law_pick ct_law_pick), sl_law_pick⟩)
    (c_law_pick : PySem.W.codeIn K cd_law_pick "_law_pick" = true)
    (k_law_pick : PySem.W.keepIn K (.ref f_law_pick) = true)
    (a_law_word : PySem.W.nsIn K mainGlobals "_law_word" = some (some (.ref f_law_word)))
    (l_law_word : K.lookup f_law_word = some ⟨oc_law_word, od_law_word, .func (PySem.W.fnOf "_law_word" "_law_word" (defArgs s_law_word) (defBody s_law_word) (defScope s_law_word) .none kV_law_word dc_law_word pm_law_word an_law_word cd_law_word ct_law_word), sl_law_word⟩)
    (c_law_word : PySem.W.codeIn K cd_law_word "_law_word" = true)
    (k_law_word : PySem.W.keepIn K (.ref f_law_word) = true)
    (a_law_name : PySem.W.nsIn K mainGlobals "_law_name" = some (some (.ref f_law_name)))
    (l_law_name : K.lookup f_law_name = some ⟨oc_law_name, od_law_name, .func (PySem.W.fnOf "_law_name" "_law_name" (defArgs s_law_name) (defBody s_law_name) (defScope s_law_name) .none kV_law_name dc_law_name pm_law_name an_law_name cd_law_name ct_law_name), sl_law_name⟩)
    (c_law_name : PySem.W.codeIn K cd_law_name "_law_name" = true)
    (k_law_name : PySem.W.keepIn K (.ref f_law_name) = true)
    (a_made_of : PySem.W.nsIn K mainGlobals "made_of" = some (some (.ref f_made_of)))
    (l_made_of : K.lookup f_made_of = some ⟨oc_made_of, od_made_of, .func (PySem.W.fnOf "made_of" "made_of" (defArgs s_made_of) (defBody s_made_of) (defScope s_made_of) .none kV_made_of dc_made_of pm_made_of an_made_of cd_made_of ct_made_of), sl_made_of⟩)
    (c_made_of : PySem.W.codeIn K cd_made_of "made_of" = true)
    (k_made_of : PySem.W.keepIn K (.ref f_made_of) = true)
    (a_is_word : PySem.W.nsIn K mainGlobals "is_word" = some (some (.ref f_is_word)))
    (l_is_word : K.lookup f_is_word = some ⟨oc_is_word, od_is_word, .func (PySem.W.fnOf "is_word" "is_word" (defArgs s_is_word) (defBody s_is_word) (defScope s_is_word) .none kV_is_word dc_is_word pm_is_word an_is_word cd_is_word ct_is_word), sl_is_word⟩)
    (c_is_word : PySem.W.codeIn K cd_is_word "is_word" = true)
    (k_is_word : PySem.W.keepIn K (.ref f_is_word) = true)
    (a_is_name : PySem.W.nsIn K mainGlobals "is_name" = some (some (.ref f_is_name)))
    (l_is_name : K.lookup f_is_name = some ⟨oc_is_name, od_is_name, .func (PySem.W.fnOf "is_name" "is_name" (defArgs s_is_name) (defBody s_is_name) (defScope s_is_name) .none kV_is_name dc_is_name pm_is_name an_is_name cd_is_name ct_is_name), sl_is_name⟩)
    (c_is_name : PySem.W.codeIn K cd_is_name "is_name" = true)
    (k_is_name : PySem.W.keepIn K (.ref f_is_name) = true)
    (a_is_unknown : PySem.W.nsIn K mainGlobals "is_unknown" = some (some (.ref f_is_unknown)))
    (l_is_unknown : K.lookup f_is_unknown = some ⟨oc_is_unknown, od_is_unknown, .func (PySem.W.fnOf "is_unknown" "is_unknown" (defArgs s_is_unknown) (defBody s_is_unknown) (defScope s_is_unknown) .none kV_is_unknown dc_is_unknown pm_is_unknown an_is_unknown cd_is_unknown ct_is_unknown), sl_is_unknown⟩)
    (c_is_unknown : PySem.W.codeIn K cd_is_unknown "is_unknown" = true)
    (k_is_unknown : PySem.W.keepIn K (.ref f_is_unknown) = true)
    (a_atom_form : PySem.W.nsIn K mainGlobals "atom_form" = some (some (.ref f_atom_form)))
    (l_atom_form : K.lookup f_atom_form = some ⟨oc_atom_form, od_atom_form, .func (PySem.W.fnOf "atom_form" "atom_form" (defArgs s_atom_form) (defBody s_atom_form) (defScope s_atom_form) .none kV_atom_form dc_atom_form pm_atom_form an_atom_form cd_atom_form ct_atom_form), sl_atom_form⟩)
    (c_atom_form : PySem.W.codeIn K cd_atom_form "atom_form" = true)
    (k_atom_form : PySem.W.keepIn K (.ref f_atom_form) = true)
    (a_atom_text : PySem.W.nsIn K mainGlobals "atom_text" = some (some (.ref f_atom_text)))
    (l_atom_text : K.lookup f_atom_text = some ⟨oc_atom_text, od_atom_text, .func (PySem.W.fnOf "atom_text" "atom_text" (defArgs s_atom_text) (defBody s_atom_text) (defScope s_atom_text) .none kV_atom_text dc_atom_text pm_atom_text an_atom_text cd_atom_text ct_atom_text), sl_atom_text⟩)
    (c_atom_text : PySem.W.codeIn K cd_atom_text "atom_text" = true)
    (k_atom_text : PySem.W.keepIn K (.ref f_atom_text) = true)
    (a_form_text : PySem.W.nsIn K mainGlobals "form_text" = some (some (.ref f_form_text)))
    (l_form_text : K.lookup f_form_text = some ⟨oc_form_text, od_form_text, .func (PySem.W.fnOf "form_text" "form_text" (defArgs s_form_text) (defBody s_form_text) (defScope s_form_text) .none kV_form_text dc_form_text pm_form_text an_form_text cd_form_text ct_form_text), sl_form_text⟩)
    (c_form_text : PySem.W.codeIn K cd_form_text "form_text" = true)
    (k_form_text : PySem.W.keepIn K (.ref f_form_text) = true)
    (a_law_atom : PySem.W.nsIn K mainGlobals "_law_atom" = some (some (.ref f_law_atom)))
    (l_law_atom : K.lookup f_law_atom = some ⟨oc_law_atom, od_law_atom, .func (PySem.W.fnOf "_law_atom" "_law_atom" (defArgs s_law_atom) (defBody s_law_atom) (defScope s_law_atom) .none kV_law_atom dc_law_atom pm_law_atom an_law_atom cd_law_atom ct_law_atom), sl_law_atom⟩)
    (c_law_atom : PySem.W.codeIn K cd_law_atom "_law_atom" = true)
    (k_law_atom : PySem.W.keepIn K (.ref f_law_atom) = true)
    (a_law_form : PySem.W.nsIn K mainGlobals "_law_form" = some (some (.ref f_law_form)))
    (l_law_form : K.lookup f_law_form = some ⟨oc_law_form, od_law_form, .func (PySem.W.fnOf "_law_form" "_law_form" (defArgs s_law_form) (defBody s_law_form) (defScope s_law_form) .none kV_law_form dc_law_form pm_law_form an_law_form cd_law_form ct_law_form), sl_law_form⟩)
    (c_law_form : PySem.W.codeIn K cd_law_form "_law_form" = true)
    (k_law_form : PySem.W.keepIn K (.ref f_law_form) = true)
    (a_is_atom : PySem.W.nsIn K mainGlobals "is_atom" = some (some (.ref f_is_atom)))
    (l_is_atom : K.lookup f_is_atom = some ⟨oc_is_atom, od_is_atom, .func (PySem.W.fnOf "is_atom" "is_atom" (defArgs s_is_atom) (defBody s_is_atom) (defScope s_is_atom) .none kV_is_atom dc_is_atom pm_is_atom an_is_atom cd_is_atom ct_is_atom), sl_is_atom⟩)
    (c_is_atom : PySem.W.codeIn K cd_is_atom "is_atom" = true)
    (k_is_atom : PySem.W.keepIn K (.ref f_is_atom) = true)
    (a_stands_alone : PySem.W.nsIn K mainGlobals "stands_alone" = some (some (.ref f_stands_alone)))
    (l_stands_alone : K.lookup f_stands_alone = some ⟨oc_stands_alone, od_stands_alone, .func (PySem.W.fnOf "stands_alone" "stands_alone" (defArgs s_stands_alone) (defBody s_stands_alone) (defScope s_stands_alone) .none kV_stands_alone dc_stands_alone pm_stands_alone an_stands_alone cd_stands_alone ct_stands_alone), sl_stands_alone⟩)
    (c_stands_alone : PySem.W.codeIn K cd_stands_alone "stands_alone" = true)
    (k_stands_alone : PySem.W.keepIn K (.ref f_stands_alone) = true)
    (a_first_fault : PySem.W.nsIn K mainGlobals "first_fault" = some (some (.ref f_first_fault)))
    (l_first_fault : K.lookup f_first_fault = some ⟨oc_first_fault, od_first_fault, .func (PySem.W.fnOf "first_fault" "first_fault" (defArgs s_first_fault) (defBody s_first_fault) (defScope s_first_fault) .none kV_first_fault dc_first_fault pm_first_fault an_first_fault cd_first_fault ct_first_fault), sl_first_fault⟩)
    (c_first_fault : PySem.W.codeIn K cd_first_fault "first_fault" = true)
    (k_first_fault : PySem.W.keepIn K (.ref f_first_fault) = true)
    (a_law_kind : PySem.W.nsIn K mainGlobals "_law_kind" = some (some (.ref f_law_kind)))
    (l_law_kind : K.lookup f_law_kind = some ⟨oc_law_kind, od_law_kind, .func (PySem.W.fnOf "_law_kind" "_law_kind" (defArgs s_law_kind) (defBody s_law_kind) (defScope s_law_kind) .none kV_law_kind dc_law_kind pm_law_kind an_law_kind cd_law_kind ct_law_kind), sl_law_kind⟩)
    (c_law_kind : PySem.W.codeIn K cd_law_kind "_law_kind" = true)
    (k_law_kind : PySem.W.keepIn K (.ref f_law_kind) = true)
    (a_tokens : PySem.W.nsIn K mainGlobals "tokens" = some (some (.ref f_tokens)))
    (l_tokens : K.lookup f_tokens = some ⟨oc_tokens, od_tokens, .func (PySem.W.fnOf "tokens" "tokens" (defArgs s_tokens) (defBody s_tokens) (defScope s_tokens) .none kV_tokens dc_tokens pm_tokens an_tokens cd_tokens ct_tokens), sl_tokens⟩)
    (c_tokens : PySem.W.codeIn K cd_tokens "tokens" = true)
    (k_tokens : PySem.W.keepIn K (.ref f_tokens) = true)
    (a_text_form : PySem.W.nsIn K mainGlobals "text_form" = some (some (.ref f_text_form)))
    (l_text_form : K.lookup f_text_form = some ⟨oc_text_form, od_text_form, .func (PySem.W.fnOf "text_form" "text_form" (defArgs s_text_form) (defBody s_text_form) (defScope s_text_form) .none kV_text_form dc_text_form pm_text_form an_text_form cd_text_form ct_text_form), sl_text_form⟩)
    (c_text_form : PySem.W.codeIn K cd_text_form "text_form" = true)
    (k_text_form : PySem.W.keepIn K (.ref f_text_form) = true)
    (a_law_text : PySem.W.nsIn K mainGlobals "_law_text" = some (some (.ref f_law_text)))
    (l_law_text : K.lookup f_law_text = some ⟨oc_law_text, od_law_text, .func (PySem.W.fnOf "_law_text" "_law_text" (defArgs s_law_text) (defBody s_law_text) (defScope s_law_text) .none kV_law_text dc_law_text pm_law_text an_law_text cd_law_text ct_law_text), sl_law_text⟩)
    (c_law_text : PySem.W.codeIn K cd_law_text "_law_text" = true)
    (k_law_text : PySem.W.keepIn K (.ref f_law_text) = true)
    (a_law_read_at : PySem.W.nsIn K mainGlobals "_law_read_at" = some (some (.ref f_law_read_at)))
    (l_law_read_at : K.lookup f_law_read_at = some ⟨oc_law_read_at, od_law_read_at, .func (PySem.W.fnOf "_law_read_at" "_law_read_at" (defArgs s_law_read_at) (defBody s_law_read_at) (defScope s_law_read_at) .none kV_law_read_at dc_law_read_at pm_law_read_at an_law_read_at cd_law_read_at ct_law_read_at), sl_law_read_at⟩)
    (c_law_read_at : PySem.W.codeIn K cd_law_read_at "_law_read_at" = true)
    (k_law_read_at : PySem.W.keepIn K (.ref f_law_read_at) = true)
    (a_law_read : PySem.W.nsIn K mainGlobals "_law_read" = some (some (.ref f_law_read)))
    (l_law_read : K.lookup f_law_read = some ⟨oc_law_read, od_law_read, .func (PySem.W.fnOf "_law_read" "_law_read" (defArgs s_law_read) (defBody s_law_read) (defScope s_law_read) .none kV_law_read dc_law_read pm_law_read an_law_read cd_law_read ct_law_read), sl_law_read⟩)
    (c_law_read : PySem.W.codeIn K cd_law_read "_law_read" = true)
    (k_law_read : PySem.W.keepIn K (.ref f_law_read) = true)
    (a_law_spoilt : PySem.W.nsIn K mainGlobals "_law_spoilt" = some (some (.ref f_law_spoilt)))
    (l_law_spoilt : K.lookup f_law_spoilt = some ⟨oc_law_spoilt, od_law_spoilt, .func (PySem.W.fnOf "_law_spoilt" "_law_spoilt" (defArgs s_law_spoilt) (defBody s_law_spoilt) (defScope s_law_spoilt) .none kV_law_spoilt dc_law_spoilt pm_law_spoilt an_law_spoilt cd_law_spoilt ct_law_spoilt), sl_law_spoilt⟩)
    (c_law_spoilt : PySem.W.codeIn K cd_law_spoilt "_law_spoilt" = true)
    (k_law_spoilt : PySem.W.keepIn K (.ref f_law_spoilt) = true)
    (a_law_told : PySem.W.nsIn K mainGlobals "_law_told" = some (some (.ref f_law_told)))
    (l_law_told : K.lookup f_law_told = some ⟨oc_law_told, od_law_told, .func (PySem.W.fnOf "_law_told" "_law_told" (defArgs s_law_told) (defBody s_law_told) (defScope s_law_told) .none kV_law_told dc_law_told pm_law_told an_law_told cd_law_told ct_law_told), sl_law_told⟩)
    (c_law_told : PySem.W.codeIn K cd_law_told "_law_told" = true)
    (k_law_told : PySem.W.keepIn K (.ref f_law_told) = true)
    (a_law : PySem.W.nsIn K mainGlobals "law" = some (some (.ref f_law)))
    (l_law : K.lookup f_law = some ⟨oc_law, od_law, .func (PySem.W.fnOf "law" "law" (defArgs s_law) (defBody s_law) (defScope s_law) .none kV_law dc_law pm_law an_law cd_law ct_law), sl_law⟩)
    (c_law : PySem.W.codeIn K cd_law "law" = true)
    (k_law : PySem.W.keepIn K (.ref f_law) = true)
    (aCL : PySem.W.nsIn K mainGlobals "Letter" = some (some (.ref CL)))
    (pg : PySem.W.plainGet K CL Str.empty = true)
    (hd : PySem.W.hasDictIn K CL = true)
    (po : PySem.W.plainOver K CL = true)
    (sa : PySem.W.findIn K (.ref CL) "__setattr__" = some (some (.builtin "object.__setattr__")))
    (mk : PySem.W.makesIn K CL = true)
    (kc : PySem.W.keepIn K (.ref CL) = true)
    (nS : PySem.W.findIn K (.ref CL) "shape" = some none)
    (aLI : PySem.W.findIn K (.ref CL) "__init__" = some (some (.ref f_LI)))
    (iLI : PySem.W.isFn K (.ref f_LI) = true)
    (l_LI : K.lookup f_LI = some ⟨oc_LI, od_LI, .func (PySem.W.fnOf "__init__" "Letter.__init__" (defArgs s_Letter___init__) (defBody s_Letter___init__) (defScope s_Letter___init__) .none kV_LI dc_LI pm_LI an_LI cd_LI ct_LI), sl_LI⟩)
    (c_LI : PySem.W.codeIn K cd_LI "Letter.__init__" = true)
    (k_LI : PySem.W.keepIn K (.ref f_LI) = true)
    (rd_CL : PySem.W.readsIn K CL (.type "type") = true)
    (rg_CL : PySem.W.specialIn K (.ref CL) "__getattribute__" = some (some (.builtin "type.__getattribute__")))
    (a_Letter_read : PySem.W.findCls K (.ref CL) (.type "type") "read" = some (.get (.builtin "staticmethod.__get__") (.ref p_s_Letter_read) .none (.ref CL)))
    (i_Letter_read : PySem.W.recIn K p_s_Letter_read "staticmethod" = some (.ref f_Letter_read :: rs_Letter_read))
    (l_Letter_read : K.lookup f_Letter_read = some ⟨oc_Letter_read, od_Letter_read, .func (PySem.W.fnOf "read" "Letter.read" (defArgs s_Letter_read) (defBody s_Letter_read) (defScope s_Letter_read) .none kV_Letter_read dc_Letter_read pm_Letter_read an_Letter_read cd_Letter_read ct_Letter_read), sl_Letter_read⟩)
    (c_Letter_read : PySem.W.codeIn K cd_Letter_read "Letter.read" = true)
    (k_Letter_read : PySem.W.keepIn K (.ref f_Letter_read) = true)
    (a_Letter_form : PySem.W.findIn K (.ref CL) "form" = some (some (.ref f_Letter_form)))
    (i_Letter_form : PySem.W.isFn K (.ref f_Letter_form) = true)
    (l_Letter_form : K.lookup f_Letter_form = some ⟨oc_Letter_form, od_Letter_form, .func (PySem.W.fnOf "form" "Letter.form" (defArgs s_Letter_form) (defBody s_Letter_form) (defScope s_Letter_form) .none kV_Letter_form dc_Letter_form pm_Letter_form an_Letter_form cd_Letter_form ct_Letter_form), sl_Letter_form⟩)
    (c_Letter_form : PySem.W.codeIn K cd_Letter_form "Letter.form" = true)
    (k_Letter_form : PySem.W.keepIn K (.ref f_Letter_form) = true)
    (a_Letter_written : PySem.W.findIn K (.ref CL) "written" = some (some (.ref f_Letter_written)))
    (i_Letter_written : PySem.W.isFn K (.ref f_Letter_written) = true)
    (l_Letter_written : K.lookup f_Letter_written = some ⟨oc_Letter_written, od_Letter_written, .func (PySem.W.fnOf "written" "Letter.written" (defArgs s_Letter_written) (defBody s_Letter_written) (defScope s_Letter_written) .none kV_Letter_written dc_Letter_written pm_Letter_written an_Letter_written cd_Letter_written ct_Letter_written), sl_Letter_written⟩)
    (c_Letter_written : PySem.W.codeIn K cd_Letter_written "Letter.written" = true)
    (k_Letter_written : PySem.W.keepIn K (.ref f_Letter_written) = true)
    (a_Letter___add__ : PySem.W.findIn K (.ref CL) "__add__" = some (some (.ref f_Letter___add__)))
    (i_Letter___add__ : PySem.W.isFn K (.ref f_Letter___add__) = true)
    (l_Letter___add__ : K.lookup f_Letter___add__ = some ⟨oc_Letter___add__, od_Letter___add__, .func (PySem.W.fnOf "__add__" "Letter.__add__" (defArgs s_Letter___add__) (defBody s_Letter___add__) (defScope s_Letter___add__) .none kV_Letter___add__ dc_Letter___add__ pm_Letter___add__ an_Letter___add__ cd_Letter___add__ ct_Letter___add__), sl_Letter___add__⟩)
    (c_Letter___add__ : PySem.W.codeIn K cd_Letter___add__ "Letter.__add__" = true)
    (k_Letter___add__ : PySem.W.keepIn K (.ref f_Letter___add__) = true)
    (a_Letter___mul__ : PySem.W.findIn K (.ref CL) "__mul__" = some (some (.ref f_Letter___mul__)))
    (i_Letter___mul__ : PySem.W.isFn K (.ref f_Letter___mul__) = true)
    (l_Letter___mul__ : K.lookup f_Letter___mul__ = some ⟨oc_Letter___mul__, od_Letter___mul__, .func (PySem.W.fnOf "__mul__" "Letter.__mul__" (defArgs s_Letter___mul__) (defBody s_Letter___mul__) (defScope s_Letter___mul__) .none kV_Letter___mul__ dc_Letter___mul__ pm_Letter___mul__ an_Letter___mul__ cd_Letter___mul__ ct_Letter___mul__), sl_Letter___mul__⟩)
    (c_Letter___mul__ : PySem.W.codeIn K cd_Letter___mul__ "Letter.__mul__" = true)
    (k_Letter___mul__ : PySem.W.keepIn K (.ref f_Letter___mul__) = true)
    (a_Letter___xor__ : PySem.W.findIn K (.ref CL) "__xor__" = some (some (.ref f_Letter___xor__)))
    (i_Letter___xor__ : PySem.W.isFn K (.ref f_Letter___xor__) = true)
    (l_Letter___xor__ : K.lookup f_Letter___xor__ = some ⟨oc_Letter___xor__, od_Letter___xor__, .func (PySem.W.fnOf "__xor__" "Letter.__xor__" (defArgs s_Letter___xor__) (defBody s_Letter___xor__) (defScope s_Letter___xor__) .none kV_Letter___xor__ dc_Letter___xor__ pm_Letter___xor__ an_Letter___xor__ cd_Letter___xor__ ct_Letter___xor__), sl_Letter___xor__⟩)
    (c_Letter___xor__ : PySem.W.codeIn K cd_Letter___xor__ "Letter.__xor__" = true)
    (k_Letter___xor__ : PySem.W.keepIn K (.ref f_Letter___xor__) = true)
    (a_Letter___invert__ : PySem.W.findIn K (.ref CL) "__invert__" = some (some (.ref f_Letter___invert__)))
    (i_Letter___invert__ : PySem.W.isFn K (.ref f_Letter___invert__) = true)
    (l_Letter___invert__ : K.lookup f_Letter___invert__ = some ⟨oc_Letter___invert__, od_Letter___invert__, .func (PySem.W.fnOf "__invert__" "Letter.__invert__" (defArgs s_Letter___invert__) (defBody s_Letter___invert__) (defScope s_Letter___invert__) .none kV_Letter___invert__ dc_Letter___invert__ pm_Letter___invert__ an_Letter___invert__ cd_Letter___invert__ ct_Letter___invert__), sl_Letter___invert__⟩)
    (c_Letter___invert__ : PySem.W.codeIn K cd_Letter___invert__ "Letter.__invert__" = true)
    (k_Letter___invert__ : PySem.W.keepIn K (.ref f_Letter___invert__) = true)
    (a_Letter___pos__ : PySem.W.findIn K (.ref CL) "__pos__" = some (some (.ref f_Letter___pos__)))
    (i_Letter___pos__ : PySem.W.isFn K (.ref f_Letter___pos__) = true)
    (l_Letter___pos__ : K.lookup f_Letter___pos__ = some ⟨oc_Letter___pos__, od_Letter___pos__, .func (PySem.W.fnOf "__pos__" "Letter.__pos__" (defArgs s_Letter___pos__) (defBody s_Letter___pos__) (defScope s_Letter___pos__) .none kV_Letter___pos__ dc_Letter___pos__ pm_Letter___pos__ an_Letter___pos__ cd_Letter___pos__ ct_Letter___pos__), sl_Letter___pos__⟩)
    (c_Letter___pos__ : PySem.W.codeIn K cd_Letter___pos__ "Letter.__pos__" = true)
    (k_Letter___pos__ : PySem.W.keepIn K (.ref f_Letter___pos__) = true)
    (a_Letter___neg__ : PySem.W.findIn K (.ref CL) "__neg__" = some (some (.ref f_Letter___neg__)))
    (i_Letter___neg__ : PySem.W.isFn K (.ref f_Letter___neg__) = true)
    (l_Letter___neg__ : K.lookup f_Letter___neg__ = some ⟨oc_Letter___neg__, od_Letter___neg__, .func (PySem.W.fnOf "__neg__" "Letter.__neg__" (defArgs s_Letter___neg__) (defBody s_Letter___neg__) (defScope s_Letter___neg__) .none kV_Letter___neg__ dc_Letter___neg__ pm_Letter___neg__ an_Letter___neg__ cd_Letter___neg__ ct_Letter___neg__), sl_Letter___neg__⟩)
    (c_Letter___neg__ : PySem.W.codeIn K cd_Letter___neg__ "Letter.__neg__" = true)
    (k_Letter___neg__ : PySem.W.keepIn K (.ref f_Letter___neg__) = true)
    (aC_BadAtom : PySem.W.nsIn K mainGlobals "BadAtom" = some (some (.ref C_BadAtom)))
    (xC_BadAtom : K.lookup C_BadAtom = some (excClassObj nm_BadAtom q_BadAtom C_BadAtom N_BadAtom bs_BadAtom [.ref CR, .type "ValueError", .type "Exception", .type "BaseException", .type "object"] true sn_BadAtom sub_BadAtom ab_BadAtom col_BadAtom dd_BadAtom m0_BadAtom m1_BadAtom m2_BadAtom m3_BadAtom m5_BadAtom "ValueError.__new__"))
    (sa_BadAtom : PySem.W.findIn K (.ref C_BadAtom) "__setattr__" = some (some (.builtin "object.__setattr__")))
    (ga_BadAtom : PySem.W.findIn K (.ref C_BadAtom) "__getattribute__" = some (some (.builtin "BaseException.__getattribute__")))
    (gg_BadAtom : PySem.W.findIn K (.ref C_BadAtom) "__getattr__" = some none)
    (kC_BadAtom : PySem.W.keepIn K (.ref C_BadAtom) = true)
    (eC_BadAtom : PySem.W.subIn K (.ref C_BadAtom) (.type "BaseException") = some true)
    (tC_BadAtom : PySem.W.typeIn K (.ref C_BadAtom) = some (.type "type"))
    (hC_BadAtom : PySem.W.hasDictIn K C_BadAtom = true)
    (iC_BadAtom : PySem.W.isClsIn K C_BadAtom = true)
    (sC_BadAtom : PySem.W.subIn K (.ref C_BadAtom) (.ref C_BadAtom) = some true)
    (nb_BadAtom : PySem.W.findIn K (.ref C_BadAtom) "text" = some none)
    (aI_BadAtom : PySem.W.findIn K (.ref C_BadAtom) "__init__" = some (some (.ref f_BadAtom)))
    (tI_BadAtom : PySem.W.typeIn K (.ref f_BadAtom) = some (.type "function"))
    (l_BadAtom : K.lookup f_BadAtom = some ⟨oc_BadAtom, od_BadAtom, .func (PySem.W.fnOf "__init__" "BadAtom.__init__" (defArgs s_BadAtom___init__) (defBody s_BadAtom___init__) (defScope s_BadAtom___init__) .none kV_BadAtom dc_BadAtom pm_BadAtom an_BadAtom cd_BadAtom ct_BadAtom), sl_BadAtom⟩)
    (c_BadAtom : PySem.W.codeIn K cd_BadAtom "BadAtom.__init__" = true)
    (k_BadAtom : PySem.W.keepIn K (.ref f_BadAtom) = true)
    (aC_BadText : PySem.W.nsIn K mainGlobals "BadText" = some (some (.ref C_BadText)))
    (xC_BadText : K.lookup C_BadText = some (excClassObj nm_BadText q_BadText C_BadText N_BadText bs_BadText [.ref CR, .type "ValueError", .type "Exception", .type "BaseException", .type "object"] true sn_BadText sub_BadText ab_BadText col_BadText dd_BadText m0_BadText m1_BadText m2_BadText m3_BadText m5_BadText "ValueError.__new__"))
    (sa_BadText : PySem.W.findIn K (.ref C_BadText) "__setattr__" = some (some (.builtin "object.__setattr__")))
    (ga_BadText : PySem.W.findIn K (.ref C_BadText) "__getattribute__" = some (some (.builtin "BaseException.__getattribute__")))
    (gg_BadText : PySem.W.findIn K (.ref C_BadText) "__getattr__" = some none)
    (kC_BadText : PySem.W.keepIn K (.ref C_BadText) = true)
    (eC_BadText : PySem.W.subIn K (.ref C_BadText) (.type "BaseException") = some true)
    (tC_BadText : PySem.W.typeIn K (.ref C_BadText) = some (.type "type"))
    (hC_BadText : PySem.W.hasDictIn K C_BadText = true)
    (iC_BadText : PySem.W.isClsIn K C_BadText = true)
    (sC_BadText : PySem.W.subIn K (.ref C_BadText) (.ref C_BadText) = some true)
    (nb_BadText : PySem.W.findIn K (.ref C_BadText) "line" = some none)
    (aI_BadText : PySem.W.findIn K (.ref C_BadText) "__init__" = some (some (.ref f_BadText)))
    (tI_BadText : PySem.W.typeIn K (.ref f_BadText) = some (.type "function"))
    (l_BadText : K.lookup f_BadText = some ⟨oc_BadText, od_BadText, .func (PySem.W.fnOf "__init__" "BadText.__init__" (defArgs s_BadText___init__) (defBody s_BadText___init__) (defScope s_BadText___init__) .none kV_BadText dc_BadText pm_BadText an_BadText cd_BadText ct_BadText), sl_BadText⟩)
    (c_BadText : PySem.W.codeIn K cd_BadText "BadText.__init__" = true)
    (k_BadText : PySem.W.keepIn K (.ref f_BadText) = true)
    (s_d_SIZES : PySem.W.nsIn K mainGlobals "SIZES" = some (some (.ref a_d_SIZES)))
    (l_d_SIZES : K.lookup a_d_SIZES = some ⟨.type "dict", none, .dict es_d_SIZES n_d_SIZES, #[]⟩)
    (y_d_SIZES : PySem.W.KeysLit w.params es_d_SIZES.toList)
    (q_d_SIZES : (a_d_SIZES == sysModules) = false)
    (d_SIZES0 : PySem.W.nsIn K a_d_SIZES "word" = some (some (.int 2 tk_d_SIZES0)))
    (d_SIZES1 : PySem.W.nsIn K a_d_SIZES "name" = some (some (.int 2 tk_d_SIZES1)))
    (d_SIZES2 : PySem.W.nsIn K a_d_SIZES "unknown" = some (some (.int 2 tk_d_SIZES2)))
    (d_SIZES3 : PySem.W.nsIn K a_d_SIZES "pair" = some (some (.int 3 tk_d_SIZES3)))
    (d_SIZES4 : PySem.W.nsIn K a_d_SIZES "seal" = some (some (.int 3 tk_d_SIZES4)))
    (d_SIZES5 : PySem.W.nsIn K a_d_SIZES "lock" = some (some (.int 3 tk_d_SIZES5)))
    (d_SIZES6 : PySem.W.nsIn K a_d_SIZES "mark" = some (some (.int 2 tk_d_SIZES6)))
    (d_SIZES7 : PySem.W.nsIn K a_d_SIZES "open" = some (some (.int 2 tk_d_SIZES7)))
    (d_SIZES8 : PySem.W.nsIn K a_d_SIZES "own" = some (some (.int 2 tk_d_SIZES8)))
    (s_d_HEADS : PySem.W.nsIn K mainGlobals "HEADS" = some (some (.ref a_d_HEADS)))
    (l_d_HEADS : K.lookup a_d_HEADS = some ⟨.type "dict", none, .dict es_d_HEADS n_d_HEADS, #[]⟩)
    (y_d_HEADS : PySem.W.KeysLit w.params es_d_HEADS.toList)
    (q_d_HEADS : (a_d_HEADS == sysModules) = false)
    (d_HEADS0 : PySem.W.nsIn K a_d_HEADS "pair(" = some (some (.str "pair" tk_d_HEADS0)))
    (d_HEADS1 : PySem.W.nsIn K a_d_HEADS "seal(" = some (some (.str "seal" tk_d_HEADS1)))
    (d_HEADS2 : PySem.W.nsIn K a_d_HEADS "lock(" = some (some (.str "lock" tk_d_HEADS2)))
    (d_HEADS3 : PySem.W.nsIn K a_d_HEADS "mark(" = some (some (.str "mark" tk_d_HEADS3)))
    (d_HEADS4 : PySem.W.nsIn K a_d_HEADS "open(" = some (some (.str "open" tk_d_HEADS4)))
    (d_HEADS5 : PySem.W.nsIn K a_d_HEADS "own(" = some (some (.str "own" tk_d_HEADS5)))
    (ms_fold : PySem.W.nsIn K a_d_SIZES "fold" = some none)
    (ms_a : PySem.W.nsIn K a_d_SIZES "a" = some none)
    (ha_HEADS : (es_d_HEADS.toList.all fun e => [Str.ofString "pair(", Str.ofString "seal(", Str.ofString "lock(", Str.ofString "mark(", Str.ofString "open(", Str.ofString "own("].any fun k => e.key.isStr k) = true)
    (z_abs : PySem.W.nsIn K mainGlobals "abs" = some none)
    (z_all : PySem.W.nsIn K mainGlobals "all" = some none)
    (z_int : PySem.W.nsIn K mainGlobals "int" = some none)
    (z_isinstance : PySem.W.nsIn K mainGlobals "isinstance" = some none)
    (z_len : PySem.W.nsIn K mainGlobals "len" = some none)
    (z_list : PySem.W.nsIn K mainGlobals "list" = some none)
    (z_max : PySem.W.nsIn K mainGlobals "max" = some none)
    (z_range : PySem.W.nsIn K mainGlobals "range" = some none)
    (z_str : PySem.W.nsIn K mainGlobals "str" = some none)
    (z_tuple : PySem.W.nsIn K mainGlobals "tuple" = some none)
    (s_c_SMALL : PySem.W.nsIn K mainGlobals "SMALL" = some (some (.str "abcdefghijklmnopqrstuvwxyz" tk_SMALL)))
    (s_c_CAPITALS : PySem.W.nsIn K mainGlobals "CAPITALS" = some (some (.str "ABCDEFGHIJKLMNOPQRSTUVWXYZ" tk_CAPITALS)))
    (s_c_DIGITS : PySem.W.nsIn K mainGlobals "DIGITS" = some (some (.str "0123456789" tk_DIGITS)))
    (s_c_ATOMS : PySem.W.nsIn K mainGlobals "ATOMS" = some (some (.ref a_c_ATOMS)))
    (l_c_ATOMS : K.lookup a_c_ATOMS = some ⟨.type "tuple", od_c_ATOMS, .seq #[.str "word" tk_ATOMS0, .str "name" tk_ATOMS1, .str "unknown" tk_ATOMS2] n_c_ATOMS, sl_c_ATOMS⟩)
    (s_c_KEYS : PySem.W.nsIn K mainGlobals "KEYS" = some (some (.ref a_c_KEYS)))
    (l_c_KEYS : K.lookup a_c_KEYS = some ⟨.type "tuple", od_c_KEYS, .seq #[.str "open" tk_KEYS0, .str "own" tk_KEYS1] n_c_KEYS, sl_c_KEYS⟩) :
    ∃ fd : FuncData, (∀ (s : Shared) (v : Value), BindsTo s fd ⟨[v], []⟩ [("_law_script", v)]) ∧ ∀ base : Heap, K.In base → base.Ns mainGlobals mg → FnOk l.prog w K mg base (L2.CX l.prog w) 44 fa fd ["_law_script"] (spLaw K) := by
  have e := hfa.symm.trans (PySem.W.mg_of X G a_law)
  cases e
  have T : Bl K mg := ⟨PySem.W.mg_none_of X G z_abs, PySem.W.mg_none_of X G z_all, PySem.W.mg_none_of X G z_int, PySem.W.mg_none_of X G z_isinstance, PySem.W.mg_none_of X G z_len, PySem.W.mg_none_of X G z_list, PySem.W.mg_none_of X G z_max, PySem.W.mg_none_of X G z_range, PySem.W.mg_none_of X G z_str, PySem.W.mg_none_of X G z_tuple, ⟨_, PySem.W.mg_of X G s_c_SMALL, ⟨_, rfl⟩⟩, ⟨_, PySem.W.mg_of X G s_c_CAPITALS, ⟨_, rfl⟩⟩, ⟨_, PySem.W.mg_of X G s_c_DIGITS, ⟨_, rfl⟩⟩, ⟨_, PySem.W.mg_of X G s_c_ATOMS, fun H => .inr ⟨_, _, _, l_c_ATOMS, rfl, rfl, by rw [sizeLine_eq]; show 3 ≤ 16777216; decide, (.cons ⟨_, rfl⟩ (.cons ⟨_, rfl⟩ (.cons ⟨_, rfl⟩ .nil)))⟩⟩, ⟨_, PySem.W.mg_of X G s_c_KEYS, fun H => .inr ⟨_, _, _, l_c_KEYS, rfl, rfl, by rw [sizeLine_eq]; show 2 ≤ 16777216; decide, (.cons ⟨_, rfl⟩ (.cons ⟨_, rfl⟩ .nil))⟩⟩⟩
  have F_law_stream := fun_mk (st := s_law_stream) l_law_stream c_law_stream k_law_stream
  have D_law_stream : Df K mg "_law_stream" s_law_stream p_law_stream := ⟨f_law_stream, _, F_law_stream, PySem.W.mg_of X G a_law_stream, F_law_stream.binds (ps := p_law_stream) fun _ _ _ _ _ _ us hl => match us, hl with | [_, _], _ => rfl⟩
  have F_law_draw := fun_mk (st := s_law_draw) l_law_draw c_law_draw k_law_draw
  have D_law_draw : Df K mg "_law_draw" s_law_draw p_law_draw := ⟨f_law_draw, _, F_law_draw, PySem.W.mg_of X G a_law_draw, F_law_draw.binds (ps := p_law_draw) fun _ _ _ _ _ _ us hl => match us, hl with | [_, _], _ => rfl⟩
  have F_law_pick := fun_mk (st := s_law_pick) l_law_pick c_law_pick k_law_pick
  have D_law_pick : Df K mg "_law_pick" s_law_pick p_law_pick := ⟨f_law_pick, _, F_law_pick, PySem.W.mg_of X G a_law_pick, F_law_pick.binds (ps := p_law_pick) fun _ _ _ _ _ _ us hl => match us, hl with | [_, _], _ => rfl⟩
  have F_law_word := fun_mk (st := s_law_word) l_law_word c_law_word k_law_word
  have D_law_word : Df K mg "_law_word" s_law_word p_law_word := ⟨f_law_word, _, F_law_word, PySem.W.mg_of X G a_law_word, F_law_word.binds (ps := p_law_word) fun _ _ _ _ _ _ us hl => match us, hl with | [_], _ => rfl⟩
  have F_law_name := fun_mk (st := s_law_name) l_law_name c_law_name k_law_name
  have D_law_name : Df K mg "_law_name" s_law_name p_law_name := ⟨f_law_name, _, F_law_name, PySem.W.mg_of X G a_law_name, F_law_name.binds (ps := p_law_name) fun _ _ _ _ _ _ us hl => match us, hl with | [_], _ => rfl⟩
  have F_made_of := fun_mk (st := s_made_of) l_made_of c_made_of k_made_of
  have D_made_of : Df K mg "made_of" s_made_of p_made_of := ⟨f_made_of, _, F_made_of, PySem.W.mg_of X G a_made_of, F_made_of.binds (ps := p_made_of) fun _ _ _ _ _ _ us hl => match us, hl with | [_, _], _ => rfl⟩
  have F_is_word := fun_mk (st := s_is_word) l_is_word c_is_word k_is_word
  have D_is_word : Df K mg "is_word" s_is_word p_is_word := ⟨f_is_word, _, F_is_word, PySem.W.mg_of X G a_is_word, F_is_word.binds (ps := p_is_word) fun _ _ _ _ _ _ us hl => match us, hl with | [_], _ => rfl⟩
  have F_is_name := fun_mk (st := s_is_name) l_is_name c_is_name k_is_name
  have D_is_name : Df K mg "is_name" s_is_name p_is_name := ⟨f_is_name, _, F_is_name, PySem.W.mg_of X G a_is_name, F_is_name.binds (ps := p_is_name) fun _ _ _ _ _ _ us hl => match us, hl with | [_], _ => rfl⟩
  have F_is_unknown := fun_mk (st := s_is_unknown) l_is_unknown c_is_unknown k_is_unknown
  have D_is_unknown : Df K mg "is_unknown" s_is_unknown p_is_unknown := ⟨f_is_unknown, _, F_is_unknown, PySem.W.mg_of X G a_is_unknown, F_is_unknown.binds (ps := p_is_unknown) fun _ _ _ _ _ _ us hl => match us, hl with | [_], _ => rfl⟩
  have F_atom_form := fun_mk (st := s_atom_form) l_atom_form c_atom_form k_atom_form
  have D_atom_form : Df K mg "atom_form" s_atom_form p_atom_form := ⟨f_atom_form, _, F_atom_form, PySem.W.mg_of X G a_atom_form, F_atom_form.binds (ps := p_atom_form) fun _ _ _ _ _ _ us hl => match us, hl with | [_], _ => rfl⟩
  have F_atom_text := fun_mk (st := s_atom_text) l_atom_text c_atom_text k_atom_text
  have D_atom_text : Df K mg "atom_text" s_atom_text p_atom_text := ⟨f_atom_text, _, F_atom_text, PySem.W.mg_of X G a_atom_text, F_atom_text.binds (ps := p_atom_text) fun _ _ _ _ _ _ us hl => match us, hl with | [_], _ => rfl⟩
  have F_form_text := fun_mk (st := s_form_text) l_form_text c_form_text k_form_text
  have D_form_text : Df K mg "form_text" s_form_text p_form_text := ⟨f_form_text, _, F_form_text, PySem.W.mg_of X G a_form_text, F_form_text.binds (ps := p_form_text) fun _ _ _ _ _ _ us hl => match us, hl with | [_], _ => rfl⟩
  have F_law_atom := fun_mk (st := s_law_atom) l_law_atom c_law_atom k_law_atom
  have D_law_atom : Df K mg "_law_atom" s_law_atom p_law_atom := ⟨f_law_atom, _, F_law_atom, PySem.W.mg_of X G a_law_atom, F_law_atom.binds (ps := p_law_atom) fun _ _ _ _ _ _ us hl => match us, hl with | [_, _], _ => rfl⟩
  have F_law_form := fun_mk (st := s_law_form) l_law_form c_law_form k_law_form
  have D_law_form : Df K mg "_law_form" s_law_form p_law_form := ⟨f_law_form, _, F_law_form, PySem.W.mg_of X G a_law_form, F_law_form.binds (ps := p_law_form) fun _ _ _ _ _ _ us hl => match us, hl with | [_, _, _], _ => rfl⟩
  have F_is_atom := fun_mk (st := s_is_atom) l_is_atom c_is_atom k_is_atom
  have D_is_atom : Df K mg "is_atom" s_is_atom p_is_atom := ⟨f_is_atom, _, F_is_atom, PySem.W.mg_of X G a_is_atom, F_is_atom.binds (ps := p_is_atom) fun _ _ _ _ _ _ us hl => match us, hl with | [_, _], _ => rfl⟩
  have F_stands_alone := fun_mk (st := s_stands_alone) l_stands_alone c_stands_alone k_stands_alone
  have D_stands_alone : Df K mg "stands_alone" s_stands_alone p_stands_alone := ⟨f_stands_alone, _, F_stands_alone, PySem.W.mg_of X G a_stands_alone, F_stands_alone.binds (ps := p_stands_alone) fun _ _ _ _ _ _ us hl => match us, hl with | [_], _ => rfl⟩
  have F_first_fault := fun_mk (st := s_first_fault) l_first_fault c_first_fault k_first_fault
  have D_first_fault : Df K mg "first_fault" s_first_fault p_first_fault := ⟨f_first_fault, _, F_first_fault, PySem.W.mg_of X G a_first_fault, F_first_fault.binds (ps := p_first_fault) fun _ _ _ _ _ _ us hl => match us, hl with | [_], _ => rfl⟩
  have F_law_kind := fun_mk (st := s_law_kind) l_law_kind c_law_kind k_law_kind
  have D_law_kind : Df K mg "_law_kind" s_law_kind p_law_kind := ⟨f_law_kind, _, F_law_kind, PySem.W.mg_of X G a_law_kind, F_law_kind.binds (ps := p_law_kind) fun _ _ _ _ _ _ us hl => match us, hl with | [_], _ => rfl⟩
  have F_tokens := fun_mk (st := s_tokens) l_tokens c_tokens k_tokens
  have D_tokens : Df K mg "tokens" s_tokens p_tokens := ⟨f_tokens, _, F_tokens, PySem.W.mg_of X G a_tokens, F_tokens.binds (ps := p_tokens) fun _ _ _ _ _ _ us hl => match us, hl with | [_], _ => rfl⟩
  have F_text_form := fun_mk (st := s_text_form) l_text_form c_text_form k_text_form
  have D_text_form : Df K mg "text_form" s_text_form p_text_form := ⟨f_text_form, _, F_text_form, PySem.W.mg_of X G a_text_form, F_text_form.binds (ps := p_text_form) fun _ _ _ _ _ _ us hl => match us, hl with | [_], _ => rfl⟩
  have F_law_text := fun_mk (st := s_law_text) l_law_text c_law_text k_law_text
  have D_law_text : Df K mg "_law_text" s_law_text p_law_text := ⟨f_law_text, _, F_law_text, PySem.W.mg_of X G a_law_text, F_law_text.binds (ps := p_law_text) fun _ _ _ _ _ _ us hl => match us, hl with | [_], _ => rfl⟩
  have F_law_read_at := fun_mk (st := s_law_read_at) l_law_read_at c_law_read_at k_law_read_at
  have D_law_read_at : Df K mg "_law_read_at" s_law_read_at p_law_read_at := ⟨f_law_read_at, _, F_law_read_at, PySem.W.mg_of X G a_law_read_at, F_law_read_at.binds (ps := p_law_read_at) fun _ _ _ _ _ _ us hl => match us, hl with | [_, _], _ => rfl⟩
  have F_law_read := fun_mk (st := s_law_read) l_law_read c_law_read k_law_read
  have D_law_read : Df K mg "_law_read" s_law_read p_law_read := ⟨f_law_read, _, F_law_read, PySem.W.mg_of X G a_law_read, F_law_read.binds (ps := p_law_read) fun _ _ _ _ _ _ us hl => match us, hl with | [_], _ => rfl⟩
  have F_law_spoilt := fun_mk (st := s_law_spoilt) l_law_spoilt c_law_spoilt k_law_spoilt
  have D_law_spoilt : Df K mg "_law_spoilt" s_law_spoilt p_law_spoilt := ⟨f_law_spoilt, _, F_law_spoilt, PySem.W.mg_of X G a_law_spoilt, F_law_spoilt.binds (ps := p_law_spoilt) fun _ _ _ _ _ _ us hl => match us, hl with | [_, _], _ => rfl⟩
  have F_law_told := fun_mk (st := s_law_told) l_law_told c_law_told k_law_told
  have D_law_told : Df K mg "_law_told" s_law_told p_law_told := ⟨f_law_told, _, F_law_told, PySem.W.mg_of X G a_law_told, F_law_told.binds (ps := p_law_told) fun _ _ _ _ _ _ us hl => match us, hl with | [_], _ => rfl⟩
  have F_law := fun_mk (st := s_law) l_law c_law k_law
  have F_LI := fun_mk (st := s_Letter___init__) l_LI c_LI k_LI
  have L : Lt K mg CL := ⟨⟨pg, hd, po, sa⟩, nS, PySem.W.mg_of X G aCL⟩
  have b_LI := F_LI.binds (ps := p_Letter___init__) fun _ _ _ _ _ _ us hl => match us, hl with | [_, _], _ => rfl
  have F_Letter_read := fun_mk (st := s_Letter_read) l_Letter_read c_Letter_read k_Letter_read
  have B_Letter_read := F_Letter_read.binds (ps := p_Letter_read) fun _ _ _ _ _ _ us hl => match us, hl with | [_], _ => rfl
  have F_Letter_form := fun_mk (st := s_Letter_form) l_Letter_form c_Letter_form k_Letter_form
  have D_Letter_form : Dm K CL "form" "Letter.form" s_Letter_form p_Letter_form := ⟨f_Letter_form, _, F_Letter_form, ⟨a_Letter_form, i_Letter_form, k_Letter_form⟩, F_Letter_form.binds (ps := p_Letter_form) fun _ _ _ _ _ _ us hl => match us, hl with | [_], _ => rfl⟩
  have F_Letter_written := fun_mk (st := s_Letter_written) l_Letter_written c_Letter_written k_Letter_written
  have D_Letter_written : Dm K CL "written" "Letter.written" s_Letter_written p_Letter_written := ⟨f_Letter_written, _, F_Letter_written, ⟨a_Letter_written, i_Letter_written, k_Letter_written⟩, F_Letter_written.binds (ps := p_Letter_written) fun _ _ _ _ _ _ us hl => match us, hl with | [_], _ => rfl⟩
  have F_Letter___add__ := fun_mk (st := s_Letter___add__) l_Letter___add__ c_Letter___add__ k_Letter___add__
  have D_Letter___add__ : Dm K CL "__add__" "Letter.__add__" s_Letter___add__ p_Letter___add__ := ⟨f_Letter___add__, _, F_Letter___add__, ⟨a_Letter___add__, i_Letter___add__, k_Letter___add__⟩, F_Letter___add__.binds (ps := p_Letter___add__) fun _ _ _ _ _ _ us hl => match us, hl with | [_, _], _ => rfl⟩
  have F_Letter___mul__ := fun_mk (st := s_Letter___mul__) l_Letter___mul__ c_Letter___mul__ k_Letter___mul__
  have D_Letter___mul__ : Dm K CL "__mul__" "Letter.__mul__" s_Letter___mul__ p_Letter___mul__ := ⟨f_Letter___mul__, _, F_Letter___mul__, ⟨a_Letter___mul__, i_Letter___mul__, k_Letter___mul__⟩, F_Letter___mul__.binds (ps := p_Letter___mul__) fun _ _ _ _ _ _ us hl => match us, hl with | [_, _], _ => rfl⟩
  have F_Letter___xor__ := fun_mk (st := s_Letter___xor__) l_Letter___xor__ c_Letter___xor__ k_Letter___xor__
  have D_Letter___xor__ : Dm K CL "__xor__" "Letter.__xor__" s_Letter___xor__ p_Letter___xor__ := ⟨f_Letter___xor__, _, F_Letter___xor__, ⟨a_Letter___xor__, i_Letter___xor__, k_Letter___xor__⟩, F_Letter___xor__.binds (ps := p_Letter___xor__) fun _ _ _ _ _ _ us hl => match us, hl with | [_, _], _ => rfl⟩
  have F_Letter___invert__ := fun_mk (st := s_Letter___invert__) l_Letter___invert__ c_Letter___invert__ k_Letter___invert__
  have D_Letter___invert__ : Dm K CL "__invert__" "Letter.__invert__" s_Letter___invert__ p_Letter___invert__ := ⟨f_Letter___invert__, _, F_Letter___invert__, ⟨a_Letter___invert__, i_Letter___invert__, k_Letter___invert__⟩, F_Letter___invert__.binds (ps := p_Letter___invert__) fun _ _ _ _ _ _ us hl => match us, hl with | [_], _ => rfl⟩
  have F_Letter___pos__ := fun_mk (st := s_Letter___pos__) l_Letter___pos__ c_Letter___pos__ k_Letter___pos__
  have D_Letter___pos__ : Dm K CL "__pos__" "Letter.__pos__" s_Letter___pos__ p_Letter___pos__ := ⟨f_Letter___pos__, _, F_Letter___pos__, ⟨a_Letter___pos__, i_Letter___pos__, k_Letter___pos__⟩, F_Letter___pos__.binds (ps := p_Letter___pos__) fun _ _ _ _ _ _ us hl => match us, hl with | [_], _ => rfl⟩
  have F_Letter___neg__ := fun_mk (st := s_Letter___neg__) l_Letter___neg__ c_Letter___neg__ k_Letter___neg__
  have D_Letter___neg__ : Dm K CL "__neg__" "Letter.__neg__" s_Letter___neg__ p_Letter___neg__ := ⟨f_Letter___neg__, _, F_Letter___neg__, ⟨a_Letter___neg__, i_Letter___neg__, k_Letter___neg__⟩, F_Letter___neg__.binds (ps := p_Letter___neg__) fun _ _ _ _ _ _ us hl => match us, hl with | [_], _ => rfl⟩
  have F_BadAtom := fun_mk (st := s_BadAtom___init__) l_BadAtom c_BadAtom k_BadAtom
  have b_BadAtom := F_BadAtom.binds (ps := p_BadAtom___init__) fun _ _ _ _ _ _ us hl => match us, hl with | [_, _], _ => rfl
  have F_BadText := fun_mk (st := s_BadText___init__) l_BadText c_BadText k_BadText
  have b_BadText := F_BadText.binds (ps := p_BadText___init__) fun _ _ _ _ _ _ us hl => match us, hl with | [_, _], _ => rfl
  refine ⟨PySem.W.fnOf "law" "law" (defArgs s_law) (defBody s_law) (defScope s_law) .none kV_law dc_law pm_law an_law cd_law ct_law, fun s v => .of_eq rfl, fun base _ _ => ?_⟩
  have c1 := ca_stream (P := l.prog) (w := w) (base := base) T D_law_stream
  have c2 := ca_draw (P := l.prog) (w := w) (base := base) T D_law_draw
  have c3 := ca_pick T D_law_pick c2
  have c4 := ca_word T D_law_word c2
  have c5 := ca_name T D_law_name c2
  have c6 := ca_made_of (P := l.prog) (w := w) (base := base) T D_made_of
  have c7 := ca_is_word T D_is_word c6
  have c8 := ca_is_name T D_is_name c6
  have c9 := ca_is_unknown T D_is_unknown c6
  have c10 := ca_atom_form T D_atom_form c7 c8 c9
  have c11 := ca_atom_text (P := l.prog) (w := w) (base := base) T D_atom_text
  have c12 := ca_form_text T D_form_text c11
  have eI_BadAtom : FnOk l.prog w K mg base (L2.CX l.prog w) 1 f_BadAtom _ ["self", "text"] (spErr K "text") := fnX F_BadAtom sc_BadAtom___init__ (fun vs H Q E h => by obtain ⟨_, _, _, rfl, _⟩ := h; rfl) (BodyN.x (err_body (C := C_BadAtom) rfl sc_BadAtom___init__ (Or.inl rfl) (Or.inl rfl) (by decide) (by decide)))
  have er_BadAtom : Er l.prog w K mg base 1 "BadAtom" C_BadAtom "text" := ⟨⟨f_BadAtom, _, _, eI_BadAtom, aI_BadAtom, tI_BadAtom, b_BadAtom⟩, ⟨⟨_, _, _, _, _, _, _, _, _, _, _, _, _, _, _, xC_BadAtom, rfl⟩, sa_BadAtom, eC_BadAtom, tC_BadAtom, kC_BadAtom⟩, nb_BadAtom, PySem.W.mg_of X G aC_BadAtom, ⟨ga_BadAtom, gg_BadAtom, eC_BadAtom, hC_BadAtom⟩, PySem.W.exm_ref eC_BadAtom hC_BadAtom tC_BadAtom sC_BadAtom⟩
  have ck : Ck l.prog w K mg base 4 "Letter" CL (spInit2 CL C_BadAtom) := ⟨f_LI, _, _, ⟨mk, aLI, iLI, kc⟩, fnX F_LI sc_Letter___init__ init_len (bd_init T L c10 er_BadAtom), PySem.W.mg_of X G aCL, b_LI⟩
  have m1 := cm_form (P := l.prog) (w := w) (mg := mg) (base := base) D_Letter_form L
  have m2 := cm_written T D_Letter_written L c12
  have eI_BadText : FnOk l.prog w K mg base (L2.CX l.prog w) 1 f_BadText _ ["self", "line"] (spErr K "line") := fnX F_BadText sc_BadText___init__ (fun vs H Q E h => by obtain ⟨_, _, _, rfl, _⟩ := h; rfl) (BodyN.x (err_body (C := C_BadText) rfl sc_BadText___init__ (Or.inl rfl) (Or.inl rfl) (by decide) (by decide)))
  have er_BadText : Er l.prog w K mg base 1 "BadText" C_BadText "line" := ⟨⟨f_BadText, _, _, eI_BadText, aI_BadText, tI_BadText, b_BadText⟩, ⟨⟨_, _, _, _, _, _, _, _, _, _, _, _, _, _, _, xC_BadText, rfl⟩, sa_BadText, eC_BadText, tC_BadText, kC_BadText⟩, nb_BadText, PySem.W.mg_of X G aC_BadText, ⟨ga_BadText, gg_BadText, eC_BadText, hC_BadText⟩, PySem.W.exm_ref eC_BadText hC_BadText tC_BadText sC_BadText⟩
  have d1 := ca_atom T D_law_atom c2 c3 c4 c5
  have d2 := ca_form T D_law_form c2 d1
  have SZ : SzD K w mg := ⟨a_d_SIZES, es_d_SIZES, n_d_SIZES, PySem.W.mg_of X G s_d_SIZES, ⟨l_d_SIZES, y_d_SIZES, q_d_SIZES⟩, fun k h => by
      simp only [atK, Bool.or_eq_true, beq_iff_eq] at h
      rcases h with (rfl | rfl) | rfl
      · exact ⟨_, d_SIZES0⟩
      · exact ⟨_, d_SIZES1⟩
      · exact ⟨_, d_SIZES2⟩, fun k h => by
      simp only [unK, Bool.or_eq_true, beq_iff_eq] at h
      rcases h with (rfl | rfl) | rfl
      · exact ⟨_, d_SIZES6⟩
      · exact ⟨_, d_SIZES7⟩
      · exact ⟨_, d_SIZES8⟩, fun k h => by
      simp only [biK, Bool.or_eq_true, beq_iff_eq] at h
      rcases h with (rfl | rfl) | rfl
      · exact ⟨_, d_SIZES3⟩
      · exact ⟨_, d_SIZES4⟩
      · exact ⟨_, d_SIZES5⟩, fun k h => by
      simp only [Bool.or_eq_true, beq_iff_eq] at h
      rcases h with rfl | rfl
      · exact ms_fold
      · exact ms_a⟩
  have f1 := ca_is_atomD T D_is_atom c7 c8 c9
  have f2 := ca_standsD T SZ D_stands_alone f1
  have f3 := ca_faultD T D_first_fault f2
  have HX : HdX K w mg := ⟨a_d_HEADS, es_d_HEADS, n_d_HEADS, PySem.W.mg_of X G s_d_HEADS, ⟨l_d_HEADS, y_d_HEADS, q_d_HEADS⟩, fun k h => by
      simp only [unK, biK, Bool.or_eq_true, beq_iff_eq] at h
      rcases h with ((rfl | rfl) | rfl) | ((rfl | rfl) | rfl)
      · rw [show S (kMark.cps.toList ++ [40]) = Str.ofString "mark(" by decide +kernel]; exact ⟨_, d_HEADS3⟩
      · rw [show S (kOpen.cps.toList ++ [40]) = Str.ofString "open(" by decide +kernel]; exact ⟨_, d_HEADS4⟩
      · rw [show S (kOwn.cps.toList ++ [40]) = Str.ofString "own(" by decide +kernel]; exact ⟨_, d_HEADS5⟩
      · rw [show S (kPair.cps.toList ++ [40]) = Str.ofString "pair(" by decide +kernel]; exact ⟨_, d_HEADS0⟩
      · rw [show S (kSeal.cps.toList ++ [40]) = Str.ofString "seal(" by decide +kernel]; exact ⟨_, d_HEADS1⟩
      · rw [show S (kLock.cps.toList ++ [40]) = Str.ofString "lock(" by decide +kernel]; exact ⟨_, d_HEADS2⟩, fun z hz => nsIn_miss l_d_HEADS y_d_HEADS ha_HEADS fun k hk e => by
      simp only [List.mem_cons, List.not_mem_nil, or_false] at hk
      rcases hk with rfl | rfl | rfl | rfl | rfl | rfl
      · exact hz kPair (by decide +kernel) (e.trans (by decide +kernel))
      · exact hz kSeal (by decide +kernel) (e.trans (by decide +kernel))
      · exact hz kLock (by decide +kernel) (e.trans (by decide +kernel))
      · exact hz kMark (by decide +kernel) (e.trans (by decide +kernel))
      · exact hz kOpen (by decide +kernel) (e.trans (by decide +kernel))
      · exact hz kOwn (by decide +kernel) (e.trans (by decide +kernel))⟩
  have SZ0 : Sz K w mg := ⟨a_d_SIZES, es_d_SIZES, n_d_SIZES, PySem.W.mg_of X G s_d_SIZES, ⟨l_d_SIZES, y_d_SIZES, q_d_SIZES⟩, fun k h => by
      simp only [atK, Bool.or_eq_true, beq_iff_eq] at h
      rcases h with (rfl | rfl) | rfl
      · exact ⟨_, d_SIZES0⟩
      · exact ⟨_, d_SIZES1⟩
      · exact ⟨_, d_SIZES2⟩, fun k h => by
      simp only [unK, Bool.or_eq_true, beq_iff_eq] at h
      rcases h with (rfl | rfl) | rfl
      · exact ⟨_, d_SIZES6⟩
      · exact ⟨_, d_SIZES7⟩
      · exact ⟨_, d_SIZES8⟩, fun k h => by
      simp only [biK, Bool.or_eq_true, beq_iff_eq] at h
      rcases h with (rfl | rfl) | rfl
      · exact ⟨_, d_SIZES3⟩
      · exact ⟨_, d_SIZES4⟩
      · exact ⟨_, d_SIZES5⟩⟩
  have g1 := ca_is_atom T D_is_atom c7 c8 c9
  have g2 := ca_stands T SZ0 D_stands_alone g1
  have g3 := ca_fault T D_first_fault g2
  have tk := ca_tokens (P := l.prog) (w := w) (base := base) D_tokens
  have tf := ca_text_form T HX.hd D_text_form tk c10 g3
  have tg := ca_tokensG (P := l.prog) (w := w) (base := base) D_tokens
  have tb := ca_text_bad T HX D_text_form tg c10 f3
  have fr := fn_read8 T L F_Letter_read tf tb ck er_BadText
  have sr : Sm l.prog w K mg base 7 CL "read" (spRead8 CL C_BadText) := ⟨f_Letter_read, p_s_Letter_read, _, _, rs_Letter_read, fr, ⟨rd_CL, rg_CL⟩, a_Letter_read, i_Letter_read, k_Letter_read, B_Letter_read⟩
  have lk := ca_kind (P := l.prog) (w := w) (base := base) T D_law_kind
  have la := ca_read_at T D_law_read_at lk 40
  have lr := ca_lread T D_law_read la
  have lx := ca_text (P := l.prog) (w := w) (base := base) T D_law_text 9
  have ls := ca_sp8 T D_law_spoilt c2 c3
  have lt := ca_told T L D_law_told er_BadText sr m1
  exact fn_law T F_law c1 c2 (d2 4) lx ls lr lt
theorem walk {l : PySem.W.OpenLaw} {q : Program} {loose : List Str} {XP : (Str → Option Value) → Heap → Prop} {YP : World → Heap → Prop} {d : DefRec} {K : Params → PySem.W.Frag} (hn : l.most = some 63) (hdf : d.params.defaults = [])
    (hY : ∀ (w : World) (h : Heap), YP w h → (K w.params).In h)
    (F : ∀ (w : World) (mg : Str → Option Value) (fa : Addr) (h : Heap), (K w.params).In h → h.Ns mainGlobals mg → mg d.name = some (.ref fa) →
      ∃ fd : FuncData, (∀ (s : Shared) (u : Value), BindsTo s fd ⟨[u], []⟩ [("_law_script", u)]) ∧ ∀ base : Heap, (K w.params).In base → base.Ns mainGlobals mg → FnOk l.prog w (K w.params) mg base (L2.CX l.prog w) 44 fa fd ["_law_script"] (spLaw (K w.params))) :
    PySem.W.WalkO q loose XP YP l.row.toRowW d [] (fun f vs => PySem.call f vs) :=
  L2.walk_of (n := 63) (k := 44) (x := "_law_script") (CX := fun w => L2.CX l.prog w) (sp := fun w => spLaw (K w.params)) hn (by decide) hdf ⟨rfl, by decide, by decide⟩ hY F (fun _ _ a ns hl _ hS => ⟨a, ns, rfl, hS, hl, fun _ => rfl⟩) fun _ _ _ _ _ z => by
    obtain ⟨_, _, _, _, _, _, _, _, _, _, _, _, y⟩ := z
    exact y
end Op
open PySem PySem.W PyProof.Rows in
set_option maxRecDepth 100000 in
set_option maxHeartbeats 0 in
theorem PySem.Challenge.cw_openroads_k08_letter_texts_refused_holds : PySem.Challenge.rw_openroads_k08_letter_texts_refused.Holds := by
  w_on; o_law; k_head; (case hw => w_witness2)
  k_fill
  refine Op.walk (l := PySem.Challenge.rw_openroads_k08_letter_texts_refused) rfl rfl (fun w h Y => PySem.W.kIn_of Y) ?F
  case F =>
    intro w mg fa h KX G hmg
    refine' Op.all_mk KX G hmg ?a_law_stream ?l_law_stream ?c_law_stream ?k_law_stream ?a_law_draw ?l_law_draw ?c_law_draw ?k_law_draw ?a_law_pick ?l_law_pick ?c_law_pick ?k_law_pick ?a_law_word ?l_law_word ?c_law_word ?k_law_word ?a_law_name ?l_law_name ?c_law_name ?k_law_name ?a_made_of ?l_made_of ?c_made_of ?k_made_of ?a_is_word ?l_is_word ?c_is_word ?k_is_word ?a_is_name ?l_is_name ?c_is_name ?k_is_name ?a_is_unknown ?l_is_unknown ?c_is_unknown ?k_is_unknown ?a_atom_form ?l_atom_form ?c_atom_form ?k_atom_form ?a_atom_text ?l_atom_text ?c_atom_text ?k_atom_text ?a_form_text ?l_form_text ?c_form_text ?k_form_text ?a_law_atom ?l_law_atom ?c_law_atom ?k_law_atom ?a_law_form ?l_law_form ?c_law_form ?k_law_form ?a_is_atom ?l_is_atom ?c_is_atom ?k_is_atom ?a_stands_alone ?l_stands_alone ?c_stands_alone ?k_stands_alone ?a_first_fault ?l_first_fault ?c_first_fault ?k_first_fault ?a_law_kind ?l_law_kind ?c_law_kind ?k_law_kind ?a_tokens ?l_tokens ?c_tokens ?k_tokens ?a_text_form ?l_text_form ?c_text_form ?k_text_form ?a_law_text ?l_law_text ?c_law_text ?k_law_text ?a_law_read_at ?l_law_read_at ?c_law_read_at ?k_law_read_at ?a_law_read ?l_law_read ?c_law_read ?k_law_read ?a_law_spoilt ?l_law_spoilt ?c_law_spoilt ?k_law_spoilt ?a_law_told ?l_law_told ?c_law_told ?k_law_told ?a_law ?l_law ?c_law ?k_law ?aCL ?pg ?hd ?po ?sa ?mk ?kc ?nS ?aLI ?iLI ?l_LI ?c_LI ?k_LI ?rd_CL ?rg_CL ?a_Letter_read ?i_Letter_read ?l_Letter_read ?c_Letter_read ?k_Letter_read ?a_Letter_form ?i_Letter_form ?l_Letter_form ?c_Letter_form ?k_Letter_form ?a_Letter_written ?i_Letter_written ?l_Letter_written ?c_Letter_written ?k_Letter_written ?a_Letter___add__ ?i_Letter___add__ ?l_Letter___add__ ?c_Letter___add__ ?k_Letter___add__ ?a_Letter___mul__ ?i_Letter___mul__ ?l_Letter___mul__ ?c_Letter___mul__ ?k_Letter___mul__ ?a_Letter___xor__ ?i_Letter___xor__ ?l_Letter___xor__ ?c_Letter___xor__ ?k_Letter___xor__ ?a_Letter___invert__ ?i_Letter___invert__ ?l_Letter___invert__ ?c_Letter___invert__ ?k_Letter___invert__ ?a_Letter___pos__ ?i_Letter___pos__ ?l_Letter___pos__ ?c_Letter___pos__ ?k_Letter___pos__ ?a_Letter___neg__ ?i_Letter___neg__ ?l_Letter___neg__ ?c_Letter___neg__ ?k_Letter___neg__ ?aC_BadAtom ?xC_BadAtom ?sa_BadAtom ?ga_BadAtom ?gg_BadAtom ?kC_BadAtom ?eC_BadAtom ?tC_BadAtom ?hC_BadAtom ?iC_BadAtom ?sC_BadAtom ?nb_BadAtom ?aI_BadAtom ?tI_BadAtom ?l_BadAtom ?c_BadAtom ?k_BadAtom ?aC_BadText ?xC_BadText ?sa_BadText ?ga_BadText ?gg_BadText ?kC_BadText ?eC_BadText ?tC_BadText ?hC_BadText ?iC_BadText ?sC_BadText ?nb_BadText ?aI_BadText ?tI_BadText ?l_BadText ?c_BadText ?k_BadText ?s_d_SIZES ?l_d_SIZES ?y_d_SIZES ?q_d_SIZES ?d_SIZES0 ?d_SIZES1 ?d_SIZES2 ?d_SIZES3 ?d_SIZES4 ?d_SIZES5 ?d_SIZES6 ?d_SIZES7 ?d_SIZES8 ?s_d_HEADS ?l_d_HEADS ?y_d_HEADS ?q_d_HEADS ?d_HEADS0 ?d_HEADS1 ?d_HEADS2 ?d_HEADS3 ?d_HEADS4 ?d_HEADS5 ?ms_fold ?ms_a ?ha_HEADS ?z_abs ?z_all ?z_int ?z_isinstance ?z_len ?z_list ?z_max ?z_range ?z_str ?z_tuple ?s_c_SMALL ?s_c_CAPITALS ?s_c_DIGITS ?s_c_ATOMS ?l_c_ATOMS ?s_c_KEYS ?l_c_KEYS
    (case a_law_stream => k_is)
    (case l_law_stream => k_is)
    (case c_law_stream => k_is)
    (case k_law_stream => k_is)
    (case a_law_draw => k_is)
    (case l_law_draw => k_is)
    (case c_law_draw => k_is)
    (case k_law_draw => k_is)
    (case a_law_pick => k_is)
    (case l_law_pick => k_is)
    (case c_law_pick => k_is)
    (case k_law_pick => k_is)
    (case a_law_word => k_is)
    (case l_law_word => k_is)
    (case c_law_word => k_is)
    (case k_law_word => k_is)
    (case a_law_name => k_is)
    (case l_law_name => k_is)
    (case c_law_name => k_is)
    (case k_law_name => k_is)
    (case a_made_of => k_is)
    (case l_made_of => k_is)
    (case c_made_of => k_is)
    (case k_made_of => k_is)
    (case a_is_word => k_is)
    (case l_is_word => k_is)
    (case c_is_word => k_is)
    (case k_is_word => k_is)
    (case a_is_name => k_is)
    (case l_is_name => k_is)
    (case c_is_name => k_is)
    (case k_is_name => k_is)
    (case a_is_unknown => k_is)
    (case l_is_unknown => k_is)
    (case c_is_unknown => k_is)
    (case k_is_unknown => k_is)
    (case a_atom_form => k_is)
    (case l_atom_form => k_is)
    (case c_atom_form => k_is)
    (case k_atom_form => k_is)
    (case a_atom_text => k_is)
    (case l_atom_text => k_is)
    (case c_atom_text => k_is)
    (case k_atom_text => k_is)
    (case a_form_text => k_is)
    (case l_form_text => k_is)
    (case c_form_text => k_is)
    (case k_form_text => k_is)
    (case a_law_atom => k_is)
    (case l_law_atom => k_is)
    (case c_law_atom => k_is)
    (case k_law_atom => k_is)
    (case a_law_form => k_is)
    (case l_law_form => k_is)
    (case c_law_form => k_is)
    (case k_law_form => k_is)
    (case a_is_atom => k_is)
    (case l_is_atom => k_is)
    (case c_is_atom => k_is)
    (case k_is_atom => k_is)
    (case a_stands_alone => k_is)
    (case l_stands_alone => k_is)
    (case c_stands_alone => k_is)
    (case k_stands_alone => k_is)
    (case a_first_fault => k_is)
    (case l_first_fault => k_is)
    (case c_first_fault => k_is)
    (case k_first_fault => k_is)
    (case a_law_kind => k_is)
    (case l_law_kind => k_is)
    (case c_law_kind => k_is)
    (case k_law_kind => k_is)
    (case a_tokens => k_is)
    (case l_tokens => k_is)
    (case c_tokens => k_is)
    (case k_tokens => k_is)
    (case a_text_form => k_is)
    (case l_text_form => k_is)
    (case c_text_form => k_is)
    (case k_text_form => k_is)
    (case a_law_text => k_is)
    (case l_law_text => k_is)
    (case c_law_text => k_is)
    (case k_law_text => k_is)
    (case a_law_read_at => k_is)
    (case l_law_read_at => k_is)
    (case c_law_read_at => k_is)
    (case k_law_read_at => k_is)
    (case a_law_read => k_is)
    (case l_law_read => k_is)
    (case c_law_read => k_is)
    (case k_law_read => k_is)
    (case a_law_spoilt => k_is)
    (case l_law_spoilt => k_is)
    (case c_law_spoilt => k_is)
    (case k_law_spoilt => k_is)
    (case a_law_told => k_is)
    (case l_law_told => k_is)
    (case c_law_told => k_is)
    (case k_law_told => k_is)
    (case a_law => k_is)
    (case l_law => k_is)
    (case c_law => k_is)
    (case k_law => k_is)
    (case aCL => k_is)
    (case pg => k_is)
    (case hd => k_is)
    (case po => k_is)
    (case sa => k_is)
    (case mk => k_is)
    (case kc => k_is)
    (case nS => k_is)
    (case aLI => k_is)
    (case iLI => k_is)
    (case l_LI => k_is)
    (case c_LI => k_is)
    (case k_LI => k_is)
    (case rd_CL => k_is)
    (case rg_CL => k_is)
    (case a_Letter_read => k_is)
    (case i_Letter_read => k_is)
    (case l_Letter_read => k_is)
    (case c_Letter_read => k_is)
    (case k_Letter_read => k_is)
    (case a_Letter_form => k_is)
    (case i_Letter_form => k_is)
    (case l_Letter_form => k_is)
    (case c_Letter_form => k_is)
    (case k_Letter_form => k_is)
    (case a_Letter_written => k_is)
    (case i_Letter_written => k_is)
    (case l_Letter_written => k_is)
    (case c_Letter_written => k_is)
    (case k_Letter_written => k_is)
    (case a_Letter___add__ => k_is)
    (case i_Letter___add__ => k_is)
    (case l_Letter___add__ => k_is)
    (case c_Letter___add__ => k_is)
    (case k_Letter___add__ => k_is)
    (case a_Letter___mul__ => k_is)
    (case i_Letter___mul__ => k_is)
    (case l_Letter___mul__ => k_is)
    (case c_Letter___mul__ => k_is)
    (case k_Letter___mul__ => k_is)
    (case a_Letter___xor__ => k_is)
    (case i_Letter___xor__ => k_is)
    (case l_Letter___xor__ => k_is)
    (case c_Letter___xor__ => k_is)
    (case k_Letter___xor__ => k_is)
    (case a_Letter___invert__ => k_is)
    (case i_Letter___invert__ => k_is)
    (case l_Letter___invert__ => k_is)
    (case c_Letter___invert__ => k_is)
    (case k_Letter___invert__ => k_is)
    (case a_Letter___pos__ => k_is)
    (case i_Letter___pos__ => k_is)
    (case l_Letter___pos__ => k_is)
    (case c_Letter___pos__ => k_is)
    (case k_Letter___pos__ => k_is)
    (case a_Letter___neg__ => k_is)
    (case i_Letter___neg__ => k_is)
    (case l_Letter___neg__ => k_is)
    (case c_Letter___neg__ => k_is)
    (case k_Letter___neg__ => k_is)
    (case aC_BadAtom => k_is)
    (case xC_BadAtom => k_is)
    (case sa_BadAtom => k_is)
    (case ga_BadAtom => k_is)
    (case gg_BadAtom => k_is)
    (case kC_BadAtom => k_is)
    (case eC_BadAtom => k_is)
    (case tC_BadAtom => k_is)
    (case hC_BadAtom => k_is)
    (case iC_BadAtom => k_is)
    (case sC_BadAtom => k_is)
    (case nb_BadAtom => k_is)
    (case aI_BadAtom => k_is)
    (case tI_BadAtom => k_is)
    (case l_BadAtom => k_is)
    (case c_BadAtom => k_is)
    (case k_BadAtom => k_is)
    (case aC_BadText => k_is)
    (case xC_BadText => k_is)
    (case sa_BadText => k_is)
    (case ga_BadText => k_is)
    (case gg_BadText => k_is)
    (case kC_BadText => k_is)
    (case eC_BadText => k_is)
    (case tC_BadText => k_is)
    (case hC_BadText => k_is)
    (case iC_BadText => k_is)
    (case sC_BadText => k_is)
    (case nb_BadText => k_is)
    (case aI_BadText => k_is)
    (case tI_BadText => k_is)
    (case l_BadText => k_is)
    (case c_BadText => k_is)
    (case k_BadText => k_is)
    (case s_d_SIZES => k_is)
    (case l_d_SIZES => k_is)
    (case y_d_SIZES => k_keys)
    (case q_d_SIZES => first | decide | k_is | rfl)
    (case d_SIZES0 => k_is)
    (case d_SIZES1 => k_is)
    (case d_SIZES2 => k_is)
    (case d_SIZES3 => k_is)
    (case d_SIZES4 => k_is)
    (case d_SIZES5 => k_is)
    (case d_SIZES6 => k_is)
    (case d_SIZES7 => k_is)
    (case d_SIZES8 => k_is)
    (case s_d_HEADS => k_is)
    (case l_d_HEADS => k_is)
    (case y_d_HEADS => k_keys)
    (case q_d_HEADS => first | decide | k_is | rfl)
    (case d_HEADS0 => k_is)
    (case d_HEADS1 => k_is)
    (case d_HEADS2 => k_is)
    (case d_HEADS3 => k_is)
    (case d_HEADS4 => k_is)
    (case d_HEADS5 => k_is)
    (case ms_fold => k_is)
    (case ms_a => k_is)
    (case ha_HEADS => first | rfl | decide +kernel | k_is)
    (case z_abs => k_is)
    (case z_all => k_is)
    (case z_int => k_is)
    (case z_isinstance => k_is)
    (case z_len => k_is)
    (case z_list => k_is)
    (case z_max => k_is)
    (case z_range => k_is)
    (case z_str => k_is)
    (case z_tuple => k_is)
    (case s_c_SMALL => k_is)
    (case s_c_CAPITALS => k_is)
    (case s_c_DIGITS => k_is)
    (case s_c_ATOMS => k_is)
    (case l_c_ATOMS => k_is)
    (case s_c_KEYS => k_is)
    (case l_c_KEYS => k_is)
