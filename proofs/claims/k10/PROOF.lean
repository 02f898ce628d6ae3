import PyProof.Rows.All
import Wide.All
import OpenK.AllK
import Wide.FinOn
import HandS.ForMost
import HandS.ForExc
import HandS.ExcInit
import HandS.ExcField
import HandS.IsInst
import HandS.ExcIs
import HandS.HotCalls
import HandS.StrMore
import HandS.Codes
import HandS.Wide
import HandS.Evl
import HandS.TupLe
import HandS.TupAny
import HandS.ClsMeth
import HandS.ReplaceLit
import HandS.ReplaceDef
import HandS.ReplaceList
import HandS.Strs
import HandS.Set
import HandS.SetFor
import HandS.DictComp
import HandS.Style
import HandS.Star
import HandS.WordsDict
import KE.KEqNest
import PyProof.Rows.SortShellAny
import HandS.Zip
import HandS.SetKeys
import KE.KDictZip
import KE.KExcIs
import HandS.ExcValue
import HandS.Defaults
import PySem.Challenge.RW_openroads_k10_patterns_matched
set_option Elab.async false
set_option linter.all false
set_option maxRecDepth 100000
set_option maxHeartbeats 4000000
namespace Op
open PySem PySem.Spec PyProof.Rows L2
def top (i : Nat) : Stmt := PySem.Challenge.pw_openroads_k10_patterns_matched.main.body.getD i (.Pass ⟨0, 0, 0, 0⟩)
abbrev s_law_stream : Stmt := (top 36)
abbrev N_law_stream : List Str := ["_law_script", "_law_k", "_law_cell"]
abbrev p_law_stream : List Str := ["_law_script", "_law_k"]
theorem sc_law_stream : FnScope N_law_stream p_law_stream (defScope s_law_stream) := ⟨rfl, rfl, rfl, by decide +kernel, rfl, by decide +kernel, by decide +kernel⟩
abbrev s_law_draw : Stmt := (top 37)
abbrev N_law_draw : List Str := ["_law_stream_here", "_law_many", "_law_digit", "_law_spread"]
abbrev p_law_draw : List Str := ["_law_stream_here", "_law_many"]
theorem sc_law_draw : FnScope N_law_draw p_law_draw (defScope s_law_draw) := ⟨rfl, rfl, rfl, by decide +kernel, rfl, by decide +kernel, by decide +kernel⟩
abbrev s_law_pick : Stmt := (top 38)
abbrev N_law_pick : List Str := ["_law_stream_here", "_law_things"]
abbrev p_law_pick : List Str := ["_law_stream_here", "_law_things"]
theorem sc_law_pick : FnScope N_law_pick p_law_pick (defScope s_law_pick) := ⟨rfl, rfl, rfl, by decide +kernel, rfl, by decide +kernel, by decide +kernel⟩
abbrev s_law_word : Stmt := (top 39)
abbrev N_law_word : List Str := ["_law_stream_here", "_law_size", "_law_k"]
abbrev p_law_word : List Str := ["_law_stream_here"]
theorem sc_law_word : FnScope N_law_word p_law_word (defScope s_law_word) := ⟨rfl, rfl, rfl, by decide +kernel, rfl, by decide +kernel, by decide +kernel⟩
abbrev s_law_name : Stmt := (top 40)
abbrev N_law_name : List Str := ["_law_stream_here", "_law_size", "_law_many", "_law_letters", "_law_k"]
abbrev p_law_name : List Str := ["_law_stream_here"]
theorem sc_law_name : FnScope N_law_name p_law_name (defScope s_law_name) := ⟨rfl, rfl, rfl, by decide +kernel, rfl, by decide +kernel, by decide +kernel⟩
abbrev s_made_of : Stmt := (top 6)
abbrev N_made_of : List Str := ["text", "signs", "sign"]
abbrev p_made_of : List Str := ["text", "signs"]
theorem sc_made_of : FnScope N_made_of p_made_of (defScope s_made_of) := ⟨rfl, rfl, rfl, by decide +kernel, rfl, by decide +kernel, by decide +kernel⟩
abbrev s_is_word : Stmt := (top 7)
abbrev N_is_word : List Str := ["text"]
abbrev p_is_word : List Str := ["text"]
theorem sc_is_word : FnScope N_is_word p_is_word (defScope s_is_word) := ⟨rfl, rfl, rfl, by decide +kernel, rfl, by decide +kernel, by decide +kernel⟩
abbrev s_is_name : Stmt := (top 8)
abbrev N_is_name : List Str := ["text", "capitals"]
abbrev p_is_name : List Str := ["text"]
theorem sc_is_name : FnScope N_is_name p_is_name (defScope s_is_name) := ⟨rfl, rfl, rfl, by decide +kernel, rfl, by decide +kernel, by decide +kernel⟩
abbrev s_is_unknown : Stmt := (top 9)
abbrev N_is_unknown : List Str := ["text"]
abbrev p_is_unknown : List Str := ["text"]
theorem sc_is_unknown : FnScope N_is_unknown p_is_unknown (defScope s_is_unknown) := ⟨rfl, rfl, rfl, by decide +kernel, rfl, by decide +kernel, by decide +kernel⟩
abbrev s_atom_form : Stmt := (top 11)
abbrev N_atom_form : List Str := ["text"]
abbrev p_atom_form : List Str := ["text"]
theorem sc_atom_form : FnScope N_atom_form p_atom_form (defScope s_atom_form) := ⟨rfl, rfl, rfl, by decide +kernel, rfl, by decide +kernel, by decide +kernel⟩
abbrev s_atom_text : Stmt := (top 12)
abbrev N_atom_text : List Str := ["form"]
abbrev p_atom_text : List Str := ["form"]
theorem sc_atom_text : FnScope N_atom_text p_atom_text (defScope s_atom_text) := ⟨rfl, rfl, rfl, by decide +kernel, rfl, by decide +kernel, by decide +kernel⟩
abbrev s_form_text : Stmt := (top 27)
abbrev N_form_text : List Str := ["form", "pieces", "left", "part"]
abbrev p_form_text : List Str := ["form"]
theorem sc_form_text : FnScope N_form_text p_form_text (defScope s_form_text) := ⟨rfl, rfl, rfl, by decide +kernel, rfl, by decide +kernel, by decide +kernel⟩
abbrev s_Letter___init__ : Stmt := (inClass (top 31) 0)
abbrev N_Letter___init__ : List Str := ["self", "atom", "shape"]
abbrev p_Letter___init__ : List Str := ["self", "atom"]
theorem sc_Letter___init__ : FnScope N_Letter___init__ p_Letter___init__ (defScope s_Letter___init__) := ⟨rfl, rfl, rfl, by decide +kernel, rfl, by decide +kernel, by decide +kernel⟩
abbrev s_Letter_form : Stmt := (inClass (top 31) 3)
abbrev N_Letter_form : List Str := ["self"]
abbrev p_Letter_form : List Str := ["self"]
theorem sc_Letter_form : FnScope N_Letter_form p_Letter_form (defScope s_Letter_form) := ⟨rfl, rfl, rfl, by decide +kernel, rfl, by decide +kernel, by decide +kernel⟩
abbrev s_Letter_written : Stmt := (inClass (top 31) 4)
abbrev N_Letter_written : List Str := ["self"]
abbrev p_Letter_written : List Str := ["self"]
theorem sc_Letter_written : FnScope N_Letter_written p_Letter_written (defScope s_Letter_written) := ⟨rfl, rfl, rfl, by decide +kernel, rfl, by decide +kernel, by decide +kernel⟩
abbrev s_Letter___add__ : Stmt := (inClass (top 31) 8)
abbrev N_Letter___add__ : List Str := ["self", "other"]
abbrev p_Letter___add__ : List Str := ["self", "other"]
theorem sc_Letter___add__ : FnScope N_Letter___add__ p_Letter___add__ (defScope s_Letter___add__) := ⟨rfl, rfl, rfl, by decide +kernel, rfl, by decide +kernel, by decide +kernel⟩
abbrev s_Letter___mul__ : Stmt := (inClass (top 31) 9)
abbrev N_Letter___mul__ : List Str := ["self", "other"]
abbrev p_Letter___mul__ : List Str := ["self", "other"]
theorem sc_Letter___mul__ : FnScope N_Letter___mul__ p_Letter___mul__ (defScope s_Letter___mul__) := ⟨rfl, rfl, rfl, by decide +kernel, rfl, by decide +kernel, by decide +kernel⟩
abbrev s_Letter___xor__ : Stmt := (inClass (top 31) 10)
abbrev N_Letter___xor__ : List Str := ["self", "other"]
abbrev p_Letter___xor__ : List Str := ["self", "other"]
theorem sc_Letter___xor__ : FnScope N_Letter___xor__ p_Letter___xor__ (defScope s_Letter___xor__) := ⟨rfl, rfl, rfl, by decide +kernel, rfl, by decide +kernel, by decide +kernel⟩
abbrev s_Letter___invert__ : Stmt := (inClass (top 31) 11)
abbrev N_Letter___invert__ : List Str := ["self"]
abbrev p_Letter___invert__ : List Str := ["self"]
theorem sc_Letter___invert__ : FnScope N_Letter___invert__ p_Letter___invert__ (defScope s_Letter___invert__) := ⟨rfl, rfl, rfl, by decide +kernel, rfl, by decide +kernel, by decide +kernel⟩
abbrev s_Letter___pos__ : Stmt := (inClass (top 31) 12)
abbrev N_Letter___pos__ : List Str := ["self"]
abbrev p_Letter___pos__ : List Str := ["self"]
theorem sc_Letter___pos__ : FnScope N_Letter___pos__ p_Letter___pos__ (defScope s_Letter___pos__) := ⟨rfl, rfl, rfl, by decide +kernel, rfl, by decide +kernel, by decide +kernel⟩
abbrev s_Letter___neg__ : Stmt := (inClass (top 31) 13)
abbrev N_Letter___neg__ : List Str := ["self"]
abbrev p_Letter___neg__ : List Str := ["self"]
theorem sc_Letter___neg__ : FnScope N_Letter___neg__ p_Letter___neg__ (defScope s_Letter___neg__) := ⟨rfl, rfl, rfl, by decide +kernel, rfl, by decide +kernel, by decide +kernel⟩
abbrev s_law_atom : Stmt := (top 41)
abbrev N_law_atom : List Str := ["_law_stream_here", "_law_unknowns", "_law_way"]
abbrev p_law_atom : List Str := ["_law_stream_here", "_law_unknowns"]
theorem sc_law_atom : FnScope N_law_atom p_law_atom (defScope s_law_atom) := ⟨rfl, rfl, rfl, by decide +kernel, rfl, by decide +kernel, by decide +kernel⟩
abbrev s_law_form : Stmt := (top 42)
abbrev N_law_form : List Str := ["_law_stream_here", "_law_unknowns", "_law_deep", "_law_way", "_law_one", "_law_other"]
abbrev p_law_form : List Str := ["_law_stream_here", "_law_unknowns", "_law_deep"]
theorem sc_law_form : FnScope N_law_form p_law_form (defScope s_law_form) := ⟨rfl, rfl, rfl, by decide +kernel, rfl, by decide +kernel, by decide +kernel⟩
abbrev s_law_letter : Stmt := (top 43)
abbrev N_law_letter : List Str := ["_law_form_here", "_law_inner", "_law_part"]
abbrev p_law_letter : List Str := ["_law_form_here"]
theorem sc_law_letter : FnScope N_law_letter p_law_letter (defScope s_law_letter) := ⟨rfl, rfl, rfl, by decide +kernel, rfl, by decide +kernel, by decide +kernel⟩
abbrev s_Letter___eq__ : Stmt := (inClass (top 31) 14)
abbrev N_Letter___eq__ : List Str := ["self", "other"]
abbrev p_Letter___eq__ : List Str := ["self", "other"]
theorem sc_Letter___eq__ : FnScope N_Letter___eq__ p_Letter___eq__ (defScope s_Letter___eq__) := ⟨rfl, rfl, rfl, by decide +kernel, rfl, by decide +kernel, by decide +kernel⟩
abbrev s_Letter___lt__ : Stmt := (inClass (top 31) 15)
abbrev N_Letter___lt__ : List Str := ["self", "other"]
abbrev p_Letter___lt__ : List Str := ["self", "other"]
theorem sc_Letter___lt__ : FnScope N_Letter___lt__ p_Letter___lt__ (defScope s_Letter___lt__) := ⟨rfl, rfl, rfl, by decide +kernel, rfl, by decide +kernel, by decide +kernel⟩
abbrev s_Letter___le__ : Stmt := (inClass (top 31) 16)
abbrev N_Letter___le__ : List Str := ["self", "other"]
abbrev p_Letter___le__ : List Str := ["self", "other"]
theorem sc_Letter___le__ : FnScope N_Letter___le__ p_Letter___le__ (defScope s_Letter___le__) := ⟨rfl, rfl, rfl, by decide +kernel, rfl, by decide +kernel, by decide +kernel⟩
abbrev s_Letter___gt__ : Stmt := (inClass (top 31) 17)
abbrev N_Letter___gt__ : List Str := ["self", "other"]
abbrev p_Letter___gt__ : List Str := ["self", "other"]
theorem sc_Letter___gt__ : FnScope N_Letter___gt__ p_Letter___gt__ (defScope s_Letter___gt__) := ⟨rfl, rfl, rfl, by decide +kernel, rfl, by decide +kernel, by decide +kernel⟩
abbrev s_Letter___ge__ : Stmt := (inClass (top 31) 18)
abbrev N_Letter___ge__ : List Str := ["self", "other"]
abbrev p_Letter___ge__ : List Str := ["self", "other"]
theorem sc_Letter___ge__ : FnScope N_Letter___ge__ p_Letter___ge__ (defScope s_Letter___ge__) := ⟨rfl, rfl, rfl, by decide +kernel, rfl, by decide +kernel, by decide +kernel⟩
abbrev s_forms_in : Stmt := (top 24)
abbrev N_forms_in : List Str := ["form", "found", "left", "part"]
abbrev p_forms_in : List Str := ["form"]
theorem sc_forms_in : FnScope N_forms_in p_forms_in (defScope s_forms_in) := ⟨rfl, rfl, rfl, by decide +kernel, rfl, by decide +kernel, by decide +kernel⟩
abbrev s_law_filled : Stmt := (top 44)
abbrev N_law_filled : List Str := ["_law_form_here", "_law_forms", "_law_part"]
abbrev p_law_filled : List Str := ["_law_form_here", "_law_forms"]
theorem sc_law_filled : FnScope N_law_filled p_law_filled (defScope s_law_filled) := ⟨rfl, rfl, rfl, by decide +kernel, rfl, by decide +kernel, by decide +kernel⟩
abbrev s_lettered : Stmt := (top 33)
abbrev N_lettered : List Str := ["forms", "unknown"]
abbrev p_lettered : List Str := ["forms"]
theorem sc_lettered : FnScope N_lettered p_lettered (defScope s_lettered) := ⟨rfl, rfl, rfl, by decide +kernel, rfl, by decide +kernel, by decide +kernel⟩
abbrev s_match : Stmt := (top 34)
abbrev N_match : List Str := ["pattern", "letter", "forms", "left", "part", "form"]
abbrev p_match : List Str := ["pattern", "letter"]
theorem sc_match : FnScope N_match p_match (defScope s_match) := ⟨rfl, rfl, rfl, by decide +kernel, rfl, by decide +kernel, by decide +kernel⟩
abbrev s_law_plain_forms : Stmt := (top 46)
abbrev N_law_plain_forms : List Str := ["_law_stream_here", "_law_names", "_law_deep", "_law_name_here"]
abbrev p_law_plain_forms : List Str := ["_law_stream_here", "_law_names", "_law_deep"]
theorem sc_law_plain_forms : FnScope N_law_plain_forms p_law_plain_forms (defScope s_law_plain_forms) := ⟨rfl, rfl, rfl, by decide +kernel, rfl, by decide +kernel, by decide +kernel⟩
abbrev s_law_matched : Stmt := (top 45)
abbrev N_law_matched : List Str := ["_law_pattern", "_law_form_here", "_law_bound", "_law_one", "_law_other"]
abbrev p_law_matched : List Str := ["_law_pattern", "_law_form_here", "_law_bound"]
theorem sc_law_matched : FnScope N_law_matched p_law_matched (defScope s_law_matched) := ⟨rfl, rfl, rfl, by decide +kernel, rfl, by decide +kernel, by decide +kernel⟩
abbrev s_law_bent : Stmt := (top 47)
abbrev N_law_bent : List Str := ["_law_stream_here", "_law_form_here", "_law_k", "_law_part"]
abbrev p_law_bent : List Str := ["_law_stream_here", "_law_form_here"]
theorem sc_law_bent : FnScope N_law_bent p_law_bent (defScope s_law_bent) := ⟨rfl, rfl, rfl, by decide +kernel, rfl, by decide +kernel, by decide +kernel⟩
abbrev s_BadAtom___init__ : Stmt := (inClass (top 15) 0)
abbrev N_BadAtom___init__ : List Str := ["self", "text"]
abbrev p_BadAtom___init__ : List Str := ["self", "text"]
theorem sc_BadAtom___init__ : FnScope N_BadAtom___init__ p_BadAtom___init__ (defScope s_BadAtom___init__) := ⟨rfl, rfl, rfl, by decide +kernel, rfl, by decide +kernel, by decide +kernel⟩
abbrev s_BadKey___init__ : Stmt := (inClass (top 17) 0)
abbrev N_BadKey___init__ : List Str := ["self", "key"]
abbrev p_BadKey___init__ : List Str := ["self", "key"]
theorem sc_BadKey___init__ : FnScope N_BadKey___init__ p_BadKey___init__ (defScope s_BadKey___init__) := ⟨rfl, rfl, rfl, by decide +kernel, rfl, by decide +kernel, by decide +kernel⟩
abbrev s_law : Stmt := (top 48)
abbrev N_law : List Str := ["_law_script", "_law_k", "_law_stream_here", "_law_pattern", "_law_form_here", "_law_way", "_law_bound", "_law_due", "_law_turn", "_law_found", "_law_name_here"]
abbrev p_law : List Str := ["_law_script"]
theorem sc_law : FnScope N_law p_law (defScope s_law) := ⟨rfl, rfl, rfl, by decide +kernel, rfl, by decide +kernel, by decide +kernel⟩
/-- what the top leaves of the built-in names and of its constants -/
structure Bl (K : PySem.W.Frag) (mg : Str → Option Value) : Prop where
  b_abs : mg "abs" = none
  b_all : mg "all" = none
  b_dict : mg "dict" = none
  b_int : mg "int" = none
  b_isinstance : mg "isinstance" = none
  b_len : mg "len" = none
  b_list : mg "list" = none
  b_max : mg "max" = none
  b_range : mg "range" = none
  b_str : mg "str" = none
  b_tuple : mg "tuple" = none
  b_zip : mg "zip" = none
  c_SMALL : ∃ u, mg "SMALL" = some u ∧ RelV (.str "abcdefghijklmnopqrstuvwxyz") u
  c_CAPITALS : ∃ u, mg "CAPITALS" = some u ∧ RelV (.str "ABCDEFGHIJKLMNOPQRSTUVWXYZ") u
  c_DIGITS : ∃ u, mg "DIGITS" = some u ∧ RelV (.str "0123456789") u
  t_ATOMS : ∃ a, mg "ATOMS" = some (.ref a) ∧ ∀ H : Hp, SqT K H a [.str "word", .str "name", .str "unknown"]
  t_KEYS : ∃ a, mg "KEYS" = some (.ref a) ∧ ∀ H : Hp, SqT K H a [.str "open", .str "own"]
end Op
namespace Op
open PySem PySem.Spec PyProof.Rows L2
/-! ## defs of the module, and how they are called -/
/-- a def of the module, under its name -/
structure Df (K : PySem.W.Frag) (mg : Str → Option Value) (x : Str) (st : Stmt) (ps : List Str) : Prop where
  ex : ∃ (f : Addr) (fd : FuncData), Fun K x x st f fd ∧ mg x = some (.ref f) ∧ Binds K fd ps []
/-- a method of the class at C -/
structure Dm (K : PySem.W.Frag) (C : Addr) (m qual : Str) (st : Stmt) (ps : List Str) : Prop where
  ex : ∃ (f : Addr) (fd : FuncData), Fun K m qual st f fd ∧ Meth K C m f ∧ Binds K fd ps []
/-- a def that keeps sp -/
structure Ca (P : Program) (w : World) (K : PySem.W.Frag) (mg : Str → Option Value) (base : Heap) (k : Nat) (x : Str) (sp : Sp) : Prop where
  ex : ∃ (f : Addr) (fd : FuncData) (ps : List Str), FnOk P w K mg base (L2.CX P w) k f fd ps sp ∧ mg x = some (.ref f) ∧ PySem.W.keepIn K (.ref f) = true ∧ Binds K fd ps []
structure Cm (P : Program) (w : World) (K : PySem.W.Frag) (mg : Str → Option Value) (base : Heap) (k : Nat) (C : Addr) (m : Str) (sp : Sp) : Prop where
  ex : ∃ (f : Addr) (fd : FuncData) (ps : List Str), FnOk P w K mg base (L2.CX P w) k f fd ps sp ∧ Meth K C m f ∧ Binds K fd ps []
section
variable {P : Program} {w : World} {K : PySem.W.Frag} {mg : Str → Option Value} {base : Heap}
/-- the body of a def that raises nothing -/
abbrev BodyN (P : Program) (w : World) (K : PySem.W.Frag) (mg : Str → Option Value) (base : Heap) (N : List Str) (qual : Str) (st : Stmt) (k : Nat) (sp : Sp) : Prop :=
  ∀ (f : Addr) (cdv : Value) (A : Around) (outer : List Env) (s : Shared) (H : Hp) (vs : List V) (Q : VK) (E : XK), Room k (A.deeper (envOfC qual (defScope st) s.heap.objs.size f cdv)) → sp vs H Q E →
      ∃ t, PSs (cxOf (L2.CX P w) P w K mg base N qual (defScope st) f cdv A outer s H E).nox (defBody st) t ∧ t { nx := fun _ H' => Q .non H', rt := Q } (start N vs) H
/-- .. of one that may raise -/
abbrev BodyX (P : Program) (w : World) (K : PySem.W.Frag) (mg : Str → Option Value) (base : Heap) (N : List Str) (qual : Str) (st : Stmt) (k : Nat) (sp : Sp) : Prop :=
  ∀ (f : Addr) (cdv : Value) (A : Around) (outer : List Env) (s : Shared) (H : Hp) (vs : List V) (Q : VK) (E : XK), Room k (A.deeper (envOfC qual (defScope st) s.heap.objs.size f cdv)) → sp vs H Q E →
      ∃ t, PSs (cxOf (L2.CX P w) P w K mg base N qual (defScope st) f cdv A outer s H E) (defBody st) t ∧ t { nx := fun _ H' => Q .non H', rt := Q } (start N vs) H
theorem fnX {x qual : Str} {st : Stmt} {f : Addr} {fd : FuncData} {N ps : List Str} {k : Nat} {sp : Sp} (F : Fun K x qual st f fd) (S : FnScope N ps (defScope st)) (len : ∀ vs H Q E, sp vs H Q E → vs.length = ps.length)
    (hb : BodyX P w K mg base N qual st k sp) : FnOk P w K mg base (L2.CX P w) (k + 1) f fd ps sp := by
  obtain ⟨oc, od, kV, doc, pm, an, cdv, ct, osl, rfl, lk, hcd⟩ := F.ex
  exact fn_of lk hcd S len fun A outer s H vs Q E hr hsp => hb f cdv A outer s H vs Q E hr hsp
theorem BodyN.x {N : List Str} {qual : Str} {st : Stmt} {k : Nat} {sp : Sp} (h : BodyN P w K mg base N qual st k sp) : BodyX P w K mg base N qual st k sp := fun f cdv A outer s H vs Q E hr hsp => by
  obtain ⟨t, p, q⟩ := h f cdv A outer s H vs Q E hr hsp
  exact ⟨t, p.nox, q⟩
theorem ca_x {x : Str} {st : Stmt} {N ps : List Str} {k : Nat} {sp : Sp} (D : Df K mg x st ps) (S : FnScope N ps (defScope st)) (len : ∀ vs H Q E, sp vs H Q E → vs.length = ps.length)
    (hb : BodyX P w K mg base N x st k sp) : Ca P w K mg base (k + 1) x sp := by
  obtain ⟨f, fd, F, hm, b⟩ := D.ex
  exact ⟨f, fd, ps, fnX F S len hb, hm, F.kp, b⟩
theorem ca_n {x : Str} {st : Stmt} {N ps : List Str} {k : Nat} {sp : Sp} (D : Df K mg x st ps) (S : FnScope N ps (defScope st)) (len : ∀ vs H Q E, sp vs H Q E → vs.length = ps.length)
    (hb : BodyN P w K mg base N x st k sp) : Ca P w K mg base (k + 1) x sp := ca_x D S len hb.x
theorem cm_x {C : Addr} {m qual : Str} {st : Stmt} {N ps : List Str} {k : Nat} {sp : Sp} (D : Dm K C m qual st ps) (S : FnScope N ps (defScope st)) (len : ∀ vs H Q E, sp vs H Q E → vs.length = ps.length)
    (hb : BodyX P w K mg base N qual st k sp) : Cm P w K mg base (k + 1) C m sp := by
  obtain ⟨f, fd, F, hm, b⟩ := D.ex
  exact ⟨f, fd, ps, fnX F S len hb, hm, b⟩
theorem cm_n {C : Addr} {m qual : Str} {st : Stmt} {N ps : List Str} {k : Nat} {sp : Sp} (D : Dm K C m qual st ps) (S : FnScope N ps (defScope st)) (len : ∀ vs H Q E, sp vs H Q E → vs.length = ps.length)
    (hb : BodyN P w K mg base N qual st k sp) : Cm P w K mg base (k + 1) C m sp := cm_x D S len hb.x
end
section
variable {X : Cx} {k j : Nat} {C : Addr} {x m : Str} {sp : Sp} {p pos apos : Pos} {e o : Expr} {es : List Expr} {ta : TE} {t : TA}
/-- f(..), nothing raised -/
def tCa (sp : Sp) (t : TA) : TE := fun σ H Q => t σ H fun vs H1 => sp vs H1 Q E0
theorem pe_ca (c : Ca X.prog X.w X.K X.mg X.base k x sp) (hr : Room j X.A) (hk : k ≤ j) (hg : Gl X x) (ha : PA X (e :: es) t)
    (hdb : (x == ("__debug__" : Str)) = false := by decide) (he : starEach (e :: es) X.env = (false, eval e X.env) :: starEach es X.env := by rfl) (hpl : (backTo pos (starEach es X.env)).any (·.1) = false := by rfl) :
    PE X (.Call (.Name x p) (e :: es) [] pos) (tCa sp t) := by
  obtain ⟨f, fd, ps, F, hm, kp, b⟩ := c.ex
  have h := pe_call (p := p) (pos := pos) F (hr.mono hk) hg hm kp b .nil passL ha hdb he hpl
  have q : tCall sp [] E0 t = tCa sp t := by
    funext σ H Q
    show (t σ H fun vs H1 => sp (vs ++ []) H1 Q E0) = t σ H fun vs H1 => sp vs H1 Q E0
    congr 1
    funext vs H1
    rw [List.append_nil]
  rw [← q]
  exact h
theorem pe_ca0 (c : Ca X.prog X.w X.K X.mg X.base k x sp) (hr : Room j X.A) (hk : k ≤ j) (hg : Gl X x)
    (hdb : (x == ("__debug__" : Str)) = false := by decide) :
    PE X (.Call (.Name x p) [] [] pos) (tCa sp tNil) := by
  obtain ⟨f, fd, ps, F, hm, kp, b⟩ := c.ex
  exact pe_call0 (p := p) (pos := pos) F (hr.mono hk) hg hm kp b .nil passL hdb
end
/-! ## heaps: all but one object stay -/
/-- all that is tracked stays, but what stands at a -/
def But (a : Addr) (H H' : Hp) : Prop := ∀ b o, b ≠ a → H b = some o → H' b = some o
theorem But.refl {a : Addr} (H : Hp) : But a H H := fun _ _ _ h => h
theorem But.trans {a : Addr} {H H1 H2 : Hp} (x : But a H H1) (y : But a H1 H2) : But a H H2 := fun b o n h => y b o n (x b o n h)
theorem But.of {a : Addr} {H H' : Hp} (x : Same H H') : But a H H' := fun b o _ h => x b o h
theorem But.upd {a : Addr} {H : Hp} {o : HO} : But a H (upd H a o) := fun b u n h => by rw [upd_ne n]; exact h
theorem Same.upd {a : Addr} {H : Hp} {o : HO} (h : H a = none) : Same H (upd H a o) := fun b u e => by rw [upd_ne (ne_of_none e h)]; exact e
theorem But.same {a : Addr} {H H' : Hp} {o : HO} (x : But a H H') (h : H a = some o) (h' : H' a = some o) : Same H H' := fun b u e => by
  by_cases q : b = a
  · rw [q] at e ⊢
    rw [h] at e
    cases e
    exact h'
  · exact x b u q e
theorem But.none {a p : Addr} {H H' : Hp} (x : But a H H') (hp : H' p = Option.none) (n : p ≠ a) : H p = Option.none := by
  cases q : H p with
  | none => rfl
  | some o =>
    rw [x p o n q] at hp
    cases hp
end Op

namespace Op
open PySem PySem.Spec PyProof.Rows L2
/-! ## readings answered from the left, one rule a construct; walk_at "go" tries them -/
/-- named readings -/
def rLenQ (K : PySem.W.Frag) : List V → Hp → VK → Prop := fun xs H Q => ∃ p ys, xs = [.ref p] ∧ (SqL K H p ys ∨ SqT K H p ys) ∧ Q (.int ys.length) H
theorem cq_len {X : Cx} : CallR X (.builtin "len") (rLenQ X.K) := call_len_seq
def rLenS : List V → Hp → VK → Prop := fun xs H Q => ∃ z, xs = [.str z] ∧ z.length ≤ sizeLine ∧ Q (.int z.length) H
theorem cq_lens {X : Cx} : CallR X (.builtin "len") rLenS := call_len_str
def rAbs : List V → Hp → VK → Prop := fun xs H Q => ∃ i, xs = [.int i] ∧ Q (.int (if i < 0 then -i else i)) H
theorem cq_abs {X : Cx} : CallR X (.builtin "abs") rAbs := call_abs
def rInt1 : List V → Hp → VK → Prop := fun xs H Q => (∃ i, xs = [.int i] ∧ Q (.int i) H) ∨ ∃ k, xs = [.bl k] ∧ Q (.int (if k = true then 1 else 0)) H
theorem cq_int {X : Cx} : CallR X (.type "int") rInt1 := call_int1
def rCatS : R2 := fun x y H Q => ∃ i j, x = .str i ∧ y = .str j ∧ i.length + j.length ≤ sizeLine ∧ Q (.str (i ++ j)) H
theorem oq_adds {X : Cx} : OpR X (binaryOp .Add) rCatS := op_add_str
def rInSg : R2 := fun x y H Q => ∃ (c : Nat) (z : Str), x = .str ⟨#[c]⟩ ∧ y = .str z ∧ Q (.bl (decide (c ∈ z.cps.toList))) H
theorem oq_insg {X : Cx} : OpR X (compareOp .In) rInSg := op_in_sign
def rNinSg : R2 := fun x y H Q => ∃ (c : Nat) (z : Str), x = .str ⟨#[c]⟩ ∧ y = .str z ∧ Q (.bl (!decide (c ∈ z.cps.toList))) H
theorem oq_ninsg {X : Cx} : OpR X (compareOp .NotIn) rNinSg := op_notIn_sign
def rIsNn : R2 := fun x y H Q => y = .non ∧ Q (.bl (decide (x = .non))) H
theorem oq_isN {X : Cx} : OpR X (compareOp .Is) rIsNn := op_isN
def rNotNn : R2 := fun x y H Q => y = .non ∧ Q (.bl (!decide (x = .non))) H
theorem oq_notN {X : Cx} : OpR X (compareOp .IsNot) rNotNn := op_notN
def rJoin (K : PySem.W.Frag) : V → List V → Hp → VK → Prop := fun x xs H Q => ∃ a p, ∃ ys : List Str, x = .str a ∧ xs = [.ref p] ∧ (SqL K H p (ys.map V.str) ∨ SqT K H p (ys.map V.str)) ∧ (ys.map (·.length)).sum + ys.length * a.length ≤ 16777216 ∧ Q (.str (Txt.join a ys)) H
theorem pq_join {X : Cx} {o e : Expr} {to te : TE} {apos pos : Pos} (ho : PE X o to) (he : PE X e te) (hs : starEach [e] X.env = [(false, eval e X.env)] := by rfl) (hbase : attributeBase o "join" X.env (eval o X.env) = eval o X.env := by rfl) (hline : (apos.endLine == pos.line) = true := by rfl) :
    PE X (.Call (.Attribute o "join" apos) [e] [] pos) (tM1 (rJoin X.K) to te) := pe_join ho he hs hbase hline
def rStarts : V → List V → Hp → VK → Prop := fun x xs H Q => ∃ a b, x = .str a ∧ xs = [.str b] ∧ Q (.bl (Txt.startswith a b)) H
theorem mq_starts {X : Cx} : MtR X "str.startswith" rStarts := mt_startswith
def rRstrip : V → List V → Hp → VK → Prop := fun x xs H Q => ∃ a b, x = .str a ∧ xs = [.str b] ∧ a.length ≤ sizeLine ∧ Q (.str (Txt.rstripChars a b)) H
theorem mq_rstrip {X : Cx} : MtR X "str.rstrip" rRstrip := mt_rstripChars
def tTruQ (K : PySem.W.Frag) (ta : TE) : TT := fun σ H Q => ta σ H fun x H' => ∃ k, TruV K x H' k ∧ Q k H'
def rTru (K : PySem.W.Frag) (x : V) (H : Hp) (Q : Bool → Hp → Prop) : Prop := ∃ k, TruV K x H k ∧ Q k H
theorem pq_truth {X : Cx} {a : Expr} {ta : TE} (ha : PE X a ta) (he : ∀ whole, isTrue a X.env whole = (do let v ← whole; standAt a.pos; holding [v] (truthy v))) : PT X a (tTruQ X.K ta) := pt_truth ha he
section
variable {K : PySem.W.Frag} {σ : L2.St} {H : Hp} {i : Nat} {v x y z : V} {ta tb te tc : TE} {b : Bool} {a C dx : Addr} {fs : List (Str × V)} {f : Str} {t u c : TT} {Q : VK} {R : Bool → Hp → Prop} {ts us : TS} {D : Ends} {g : TG} {r : R2} {tl tr : TA} {L : List V → Hp → Prop} {S : L2.St → Hp → Prop}
theorem g_var (h : σ[i]? = some (some v)) (k : Q v H) : tVar i σ H Q := ⟨v, h, k⟩
theorem g_c (k : Q v H) : tC v σ H Q := k
theorem g_op (k : ta σ H fun x H1 => tb σ H1 fun y H2 => r x y H2 Q) : tOp r ta tb σ H Q := k
theorem g_un {r : V → Hp → VK → Prop} (k : ta σ H fun x H1 => r x H1 Q) : tUn r ta σ H Q := k
theorem g_if (k : t σ H fun c H1 => if c = true then ta σ H1 Q else tb σ H1 Q) : tIf t ta tb σ H Q := k
theorem g_test (k : te σ H fun x H' => ∃ k, x = .bl k ∧ R k H') : tTest te σ H R := k
theorem g_B (k : te σ H fun x H' => ∃ k, x = .bl k ∧ R k H') : tB te σ H R := k
theorem g_bl {A : Bool → Prop} (k : A b) : ∃ c, V.bl b = V.bl c ∧ A c := ⟨b, rfl, k⟩
theorem g_not (k : t σ H fun c H1 => R (!c) H1) : tNot t σ H R := k
theorem g_and (k : t σ H fun c H1 => if c = true then u σ H1 R else R false H1) : tAnd t u σ H R := k
theorem g_or (k : t σ H fun c H1 => if c = true then R true H1 else u σ H1 R) : tOr t u σ H R := k
theorem g_andV (k : ta σ H fun x H1 => ∃ c, x = .bl c ∧ if c = true then tb σ H1 Q else Q (.bl false) H1) : tAndV ta tb σ H Q := k
theorem g_orV (k : ta σ H fun x H1 => ∃ c, x = .bl c ∧ if c = true then Q (.bl true) H1 else tb σ H1 Q) : tOrV ta tb σ H Q := k
theorem g_notV (k : ta σ H fun x H1 => ∃ c, x = .bl c ∧ Q (.bl (!c)) H1) : tNotV ta σ H Q := k
theorem g_nil (k : L [] H) : tNil σ H L := k
theorem g_cons (k : ta σ H fun x H1 => tr σ H1 fun xs H2 => L (x :: xs) H2) : tCons ta tr σ H L := k
theorem g_CB {r : List V → Hp → VK → Prop} (k : tl σ H fun vs H1 => r vs H1 Q) : tCB r tl σ H Q := k
theorem g_ca {sp : Sp} (k : tl σ H fun vs H1 => sp vs H1 Q E0) : tCa sp tl σ H Q := k
theorem g_seq (k : ts { D with nx := us D } σ H) : tSeq ts us D σ H := k
theorem g_next (k : D.nx σ H) : tNext D σ H := k
theorem g_asg (k : te σ H fun x H1 => g x σ H1 D.nx) : tAsg te g D σ H := k
theorem g_name (k : S (σ.set i (some v)) H) : gName i v σ H S := k
theorem g_ret (k : te σ H D.rt) : tRet te D σ H := k
theorem g_retN (k : D.rt .non H) : tRetN D σ H := k
theorem g_drop (k : te σ H fun _ H1 => D.nx σ H1) : tDrop te D σ H := k
theorem g_ifS (k : c σ H fun b H1 => if b = true then ts D σ H1 else us D σ H1) : tIfS c ts us D σ H := k
theorem g_sub {to ti : TE} {s : TSet} (k : to σ H fun o H1 => ti σ H1 fun i H2 => s o i v H2 fun H3 => S σ H3) : gSub to ti s v σ H S := k
theorem g_I0 {f : Int → Int → V} {i j : Int} (k : Q (f i j) H) : rI0 f (.int i) (.int j) H Q := ⟨i, j, rfl, rfl, k⟩
theorem g_I {A : Int → Int → Prop} {f : Int → Int → V} {i j : Int} (h : A i j) (k : Q (f i j) H) : rI A f (.int i) (.int j) H Q := ⟨i, j, rfl, rfl, h, k⟩
theorem g_U {f : Int → V} {i : Int} (k : Q (f i) H) : rU f (.int i) H Q := ⟨i, rfl, k⟩
theorem g_eq (h : scal x y = true) (k : Q (.bl (decide (x = y))) H) : rEq x y H Q := ⟨h, k⟩
theorem g_ne (h : scal x y = true) (k : Q (.bl (!decide (x = y))) H) : rNe x y H Q := ⟨h, k⟩
theorem g_lenL {xs : List V} (h : SqL K H a xs) (k : Q (.int xs.length) H) : rLenQ K [.ref a] H Q := ⟨a, xs, rfl, .inl h, k⟩
theorem g_lenT {xs : List V} (h : SqT K H a xs) (k : Q (.int xs.length) H) : rLenQ K [.ref a] H Q := ⟨a, xs, rfl, .inr h, k⟩
theorem g_lenS {s : Str} (h : s.length ≤ sizeLine) (k : Q (.int s.length) H) : rLenS [.str s] H Q := ⟨s, rfl, h, k⟩
theorem g_abs {i : Int} (k : ∀ j : Int, 0 ≤ j → (j = i ∨ j = -i) → Q (.int j) H) : rAbs [.int i] H Q := ⟨i, rfl, k _ (by split <;> omega) (by split <;> omega)⟩
theorem g_int {i : Int} (k : Q (.int i) H) : rInt1 [.int i] H Q := .inl ⟨i, rfl, k⟩
theorem g_ixL {xs : List V} {i : Int} (h : SqL K H a xs) (ha : atI xs i = some v) (k : Q v H) : rIxL K (.ref a) (.int i) H Q := ⟨a, xs, i, v, rfl, rfl, h, ha, k⟩
theorem g_ixT {xs : List V} {i : Int} (h : SqT K H a xs) (ha : atI xs i = some v) (k : Q v H) : rIxT K (.ref a) (.int i) H Q := ⟨a, xs, i, v, rfl, rfl, h, ha, k⟩
theorem g_setL {xs : List V} {i : Int} {j : Nat} {S : Hp → Prop} (h : H a = some (.lst xs)) (hi : ixN xs.length i = some j) (k : S (L2.upd H a (.lst (xs.set j v)))) : rSetL (.ref a) (.int i) v H S := ⟨a, xs, i, j, rfl, rfl, h, hi, k⟩
theorem g_catS {s t : Str} (h : s.length + t.length ≤ sizeLine) (k : Q (.str (s ++ t)) H) : rCatS (.str s) (.str t) H Q := ⟨s, t, rfl, rfl, h, k⟩
theorem g_insg {c : Nat} {s : Str} (k : Q (.bl (decide (c ∈ s.cps.toList))) H) : rInSg (.str ⟨#[c]⟩) (.str s) H Q := ⟨c, s, rfl, rfl, k⟩
theorem g_ninsg {c : Nat} {s : Str} (k : Q (.bl (!decide (c ∈ s.cps.toList))) H) : rNinSg (.str ⟨#[c]⟩) (.str s) H Q := ⟨c, s, rfl, rfl, k⟩
theorem g_isN (k : Q (.bl (decide (x = .non))) H) : rIsNn x .non H Q := ⟨rfl, k⟩
theorem g_notN (k : Q (.bl (!decide (x = .non))) H) : rNotNn x .non H Q := ⟨rfl, k⟩
theorem g_lst {L : TA} (k : L σ H fun xs H1 => xs.length ≤ sizeLine ∧ ∀ p, H1 p = none → Q (.ref p) (L2.upd H1 p (.lst xs))) : tLst L σ H Q := k
theorem g_tup {L : TA} (k : L σ H fun xs H1 => xs.length ≤ sizeLine ∧ ∀ p, H1 p = none → Q (.ref p) (L2.upd H1 p (.tup xs))) : tTup L σ H Q := k
theorem g_app {xs : List V} (h : H a = some (.lst xs)) (hl : xs.length < sizeLine) (k : Q .non (L2.upd H a (.lst (xs ++ [y])))) : rAppend (.ref a) [y] H Q := ⟨a, xs, y, rfl, rfl, h, hl, k⟩
theorem g_pop {xs : List V} (h : H a = some (.lst (xs ++ [y]))) (k : Q y (L2.upd H a (.lst xs))) : rPop (.ref a) [] H Q :=
  ⟨a, xs ++ [y], y, rfl, rfl, h, by rw [List.length_append, List.length_singleton, Nat.add_sub_cancel, List.getElem?_append_right (Nat.le_refl _), Nat.sub_self]; rfl, by rw [List.dropLast_concat]; exact k⟩
theorem g_ext {b : Addr} {xs zs : List V} (h : H a = some (.lst xs)) (h2 : H b = some (.lst zs)) (hl : xs.length + zs.length ≤ sizeLine) (k : Q .non (L2.upd H a (.lst (xs ++ zs)))) : rExtend (.ref a) [.ref b] H Q := ⟨a, b, xs, zs, rfl, rfl, h, h2, hl, k⟩
theorem g_BM {T : String} {r : V → List V → Hp → VK → Prop} (k : ta σ H fun x H1 => tyV K T x H1 ∧ tl σ H1 fun xs H2 => r x xs H2 Q) : tBM K T r ta tl σ H Q := k
theorem g_BM0 {T : String} {r : V → List V → Hp → VK → Prop} (k : ta σ H fun x H1 => tyV K T x H1 ∧ r x [] H1 Q) : tBM0 K T r ta σ H Q := k
theorem g_M1 {r : V → List V → Hp → VK → Prop} (k : ta σ H fun x H1 => (∃ a, x = .str a) ∧ te σ H1 fun y H2 => r x [y] H2 Q) : tM1 r ta te σ H Q := k
theorem g_isS {s : Str} {A : Prop} (k : A) : (∃ a, V.str s = V.str a) ∧ A := ⟨⟨s, rfl⟩, k⟩
theorem g_tyS {s : Str} {A : Prop} (k : A) : tyV K "str" (.str s) H ∧ A := ⟨rfl, k⟩
theorem g_tyL {xs : List V} {A : Prop} (h : H a = some (.lst xs)) (k : A) : tyV K "list" (.ref a) H ∧ A := ⟨.inl ⟨rfl, xs, SqL.of h⟩, k⟩
theorem g_join {s : Str} {ys : List Str} (h : SqL K H a (ys.map V.str)) (hl : (ys.map (·.length)).sum + ys.length * s.length ≤ 16777216) (k : Q (.str (Txt.join s ys)) H) : rJoin K (.str s) [.ref a] H Q := ⟨s, a, ys, rfl, rfl, .inl h, hl, k⟩
theorem g_cat {b : Addr} {xs zs : List V} (h : H a = some (.lst xs)) (h2 : H b = some (.lst zs)) (hl : xs.length + zs.length ≤ sizeLine) (k : ∀ p, H p = none → Q (.ref p) (L2.upd H p (.lst (xs ++ zs)))) : rCat (.ref a) (.ref b) H Q := ⟨a, b, xs, zs, rfl, rfl, h, h2, hl, k⟩
theorem g_starts {s t : Str} (k : Q (.bl (Txt.startswith s t)) H) : rStarts (.str s) [.str t] H Q := ⟨s, t, rfl, rfl, k⟩
theorem g_rstrip {s t : Str} (h : s.length ≤ sizeLine) (k : Q (.str (Txt.rstripChars s t)) H) : rRstrip (.str s) [.str t] H Q := ⟨s, t, rfl, rfl, h, k⟩
theorem g_chain {r r' : R2} (k : ta σ H fun x H1 => tb σ H1 fun y H2 => r x y H2 fun z H3 => ∃ k, z = .bl k ∧ (if k = true then tc σ H3 fun w' H4 => r' y w' H4 Q else Q (.bl false) H3)) : tChain r r' ta tb tc σ H Q := k
theorem g_sl {r : V → Option Int → Option Int → Hp → VK → Prop} {lo hi : TO} (k : ta σ H fun x H1 => lo σ H1 fun l H2 => hi σ H2 fun u H3 => r x l u H3 Q) : tSl r ta lo hi σ H Q := k
theorem g_nopart {Q : Option Int → Hp → Prop} (k : Q none H) : tNoPart σ H Q := k
theorem g_part {Q : Option Int → Hp → Prop} (k : te σ H fun x H1 => ∃ i, x = .int i ∧ Q (some i) H1) : tPart te σ H Q := k
theorem g_isI {i : Int} {A : Int → Prop} (k : A i) : ∃ j, V.int i = V.int j ∧ A j := ⟨i, rfl, k⟩
theorem g_inT {xs : List V} (h : SqT K H a xs) (hx : flatV x = true) (ha : xs.all flatV = true) (k : Q (.bl (inV x xs)) H) : rIn K false x (.ref a) H Q := ⟨a, xs, rfl, .inr h, hx, ha, by rw [if_neg Bool.false_ne_true]; exact k⟩
theorem g_ninT {xs : List V} (h : SqT K H a xs) (hx : flatV x = true) (ha : xs.all flatV = true) (k : Q (.bl (!inV x xs)) H) : rIn K true x (.ref a) H Q := ⟨a, xs, rfl, .inr h, hx, ha, by rw [if_pos rfl]; exact k⟩
theorem g_inL {xs : List V} (h : SqL K H a xs) (hx : flatV x = true) (ha : xs.all flatV = true) (k : Q (.bl (inV x xs)) H) : rIn K false x (.ref a) H Q := ⟨a, xs, rfl, .inl h, hx, ha, by rw [if_neg Bool.false_ne_true]; exact k⟩
theorem g_isi {c : V} {t u : Value} {b : Bool} (hc : ClsV c u) (ht : TyX K H x t) (hk : PySem.W.kitOne K t u = some b) (k : Q (.bl b) H) : rIsi K [x, c] H Q := ⟨x, c, t, u, b, rfl, hc, ht, hk, k⟩
theorem g_tru (k : ta σ H fun x H' => rTru K x H' R) : tTruQ K ta σ H R := k
theorem g_truL {xs : List V} (h : SqL K H a xs) (k : R (!xs.isEmpty) H) : rTru K (.ref a) H R := ⟨_, .inl ⟨xs, h, rfl⟩, k⟩
theorem g_while {tb : TS} (W : Nat → L2.St → Hp → Prop) (m0 : Nat) (h0 : W m0 σ H) (hs : ∀ m σ' H', W m σ' H' → c σ' H' fun b H1 => if b = true then ∃ N : L2.St → Hp → Prop, (∀ σ' H', N σ' H' → ∃ m', m' < m ∧ W m' σ' H') ∧ tb { D with nx := N, ct := N, bk := D.nx } σ' H1 else D.nx σ' H1) : tWhile c tb D σ H := ⟨W, ⟨m0, h0⟩, hs⟩
theorem ty_l {xs : List V} (h : H a = some (.lst xs)) : tyV K "list" (.ref a) H := .inl ⟨rfl, xs, SqL.of h⟩
theorem iteD {c A B : Prop} [Decidable c] (h1 : c → A) (h2 : ¬ c → B) : if decide c = true then A else B := by
  by_cases h : c
  · rw [decide_eq_true h]; exact h1 h
  · rw [decide_eq_false h]; exact h2 h
theorem iteND {c A B : Prop} [Decidable c] (h1 : ¬ c → A) (h2 : c → B) : if (!decide c) = true then A else B := by
  by_cases h : c
  · rw [decide_eq_true h]; exact h2 h
  · rw [decide_eq_false h]; exact h1 h
theorem iteDT {c A B : Prop} [Decidable c] (h : c) (k : A) : if decide c = true then A else B := by rw [decide_eq_true h]; exact k
theorem iteDF {c A B : Prop} [Decidable c] (h : ¬ c) (k : B) : if decide c = true then A else B := by rw [decide_eq_false h]; exact k
theorem iteNT {A B : Prop} (h : B) : if (!true) = true then A else B := h
theorem iteNF {A B : Prop} (h : A) : if (!false) = true then A else B := h
theorem iteB {b : Bool} {A B : Prop} (h1 : b = true → A) (h2 : b = false → B) : if b = true then A else B := by
  cases b
  · exact h2 rfl
  · exact h1 rfl
end
/-- [e for x in range(n)]: behind the range's argument -/
def rLcR (j : Nat) (te : TE) (vs : List Nat) (σ : L2.St) (xs : List V) (H : Hp) (Q : VK) : Prop := ∃ n : Int, xs = [.int n] ∧ -(2 ^ 62) ≤ n ∧ n < 2 ^ 62 ∧ ∀ D, H D = none → ∃ W : Nat → Nat → Hp → Prop, (∃ m, W 0 m (L2.upd H D (.lst []))) ∧ ∀ i m H, W i m H →
  ((Itr 0 n.toNat).stop i H ∧ Q (.ref D) H) ∨ ((Itr 0 n.toNat).go i H ∧ ∃ Nx : Hp → Prop, (∀ H', Nx H' → ∃ m', m' < m ∧ W (i + 1) m' H') ∧ ∀ x H', (Itr 0 n.toNat).yld i H x H' → gName j x (wipe σ vs) H' fun σ2 H2 => wipe σ2 vs = wipe σ vs ∧ tYes σ2 H2 fun b H3 =>
    if b = true then te σ2 H3 fun y H4 => ∃ acc, H4 D = some (.lst acc) ∧ acc.length < sizeLine ∧ Nx (L2.upd H4 D (.lst (acc ++ [y]))) else Nx H3)
theorem g_lcR {σ : L2.St} {H : Hp} {Q : VK} {tl : TA} {te : TE} {j : Nat} {vs : List Nat} (k : tl σ H fun xs H1 => rLcR j te vs σ xs H1 Q) : tLc (iRng1 tl) (gName j) tYes te vs σ H Q := k
/-- the tuples stay -/
def Tps (H H' : Hp) : Prop := ∀ b xs, H b = some (.tup xs) → H' b = some (.tup xs)
theorem Tps.refl (H : Hp) : Tps H H := fun _ _ h => h
theorem Tps.trans {H H1 H2 : Hp} (a : Tps H H1) (b : Tps H1 H2) : Tps H H2 := fun x xs h => b x xs (a x xs h)
theorem Tps.new {H : Hp} {p : Addr} {o : HO} (h : H p = none) : Tps H (L2.upd H p o) := fun b ys e => Same.upd h b _ e
theorem Tps.lst {H : Hp} {p : Addr} {o : HO} {xs : List V} (h : H p = some (.lst xs)) : Tps H (L2.upd H p o) := fun b ys e => by
  rw [upd_ne (ne_of e h (by intro z; cases z))]
  exact e
theorem Same.mut {H H' : Hp} {p : Addr} {o : HO} (s : Same H H') (h : H p = none) : Same H (L2.upd H' p o) := fun b u e => by
  rw [upd_ne (ne_of_none e h)]
  exact s b u e
theorem Tps.same {H H' : Hp} (s : Same H H') : Tps H H' := fun b xs h => s b _ h
/-- a turn's end: the new item stands behind those so far -/
def lcPost (J : Addr → Nat → List V → Hp → Prop) (D : Addr) (i : Nat) : VK := fun y H => ∃ acc, H D = some (.lst acc) ∧ acc.length < sizeLine ∧ ∃ acc', (L2.upd H D (.lst (acc ++ [y]))) D = some (.lst acc') ∧ acc'.length = i + 1 ∧ J D (i + 1) acc' (L2.upd H D (.lst (acc ++ [y])))
theorem lcPost.of {J : Addr → Nat → List V → Hp → Prop} {D : Addr} {i : Nat} {acc : List V} {y : V} {H : Hp} (h : H D = some (.lst acc)) (hl : acc.length = i) (hi : i < 1000000) (k : J D (i + 1) (acc ++ [y]) (L2.upd H D (.lst (acc ++ [y])))) : lcPost J D i y H :=
  ⟨acc, h, by rw [sizeLine_eq]; omega, acc ++ [y], upd_same, by rw [List.length_append, hl]; rfl, k⟩
/-- the walk of rLcR: J says what the turns so far have left -/
theorem r_lcR {σ : L2.St} {H : Hp} {Q : VK} {te : TE} {j : Nat} {n : Int} {vs : List Nat} (J : Addr → Nat → List V → Hp → Prop) (hn : 0 ≤ n ∧ n < 1000000) (hw : ∀ x, wipe ((wipe σ vs).set j (some x)) vs = wipe σ vs)
    (h0 : ∀ D, H D = none → J D 0 [] (L2.upd H D (.lst [])))
    (hs : ∀ (D : Addr) (i : Nat) (acc : List V) (H2 : Hp), H D = none → (i : Int) < n → H2 D = some (.lst acc) → acc.length = i → J D i acc H2 → te ((wipe σ vs).set j (some (.int (i : Int)))) H2 (lcPost J D i))
    (hd : ∀ D acc H2, H D = none → H2 D = some (.lst acc) → (acc.length : Int) = n → J D n.toNat acc H2 → Q (.ref D) H2) : rLcR j te vs σ [.int n] H Q := by
  refine ⟨n, rfl, by omega, by omega, fun D hD => ?_⟩
  refine lc_range (lo := 0) (n := n.toNat) (fun i H2 => ∃ acc, H2 D = some (.lst acc) ∧ acc.length = i ∧ J D i acc H2) ⟨[], upd_same, rfl, h0 D hD⟩ (fun i H2 hi p => ?_) (fun H2 p => ?_)
  · obtain ⟨acc, h1, h2, h3⟩ := p
    have e0 : (0 : Int) + (i : Int) = (i : Int) := Int.zero_add _
    have r := hs D i acc H2 hD (by omega) h1 h2 h3
    rw [← e0] at r
    exact ⟨hw _, r⟩
  · obtain ⟨acc, h1, h2, h3⟩ := p
    exact hd D acc H2 hD h1 (by omega) h3
theorem len_le {cs : List Nat} (h : cs.length < 1000000) : (SX.S cs).length ≤ sizeLine := by rw [SX.S_len, sizeLine_eq]; omega
/-! ### comprehensions over the signs of a text, whose tests and items change nothing -/
def rLcS (j : Nat) (tt : TT) (te : TE) (vs : List Nat) (σ : L2.St) (v : V) (H : Hp) (Q : VK) : Prop := ∃ x : Str, v = .str x ∧ ∀ D, H D = none → ∃ W : Nat → Nat → Hp → Prop, (∃ m, W 0 m (L2.upd H D (.lst []))) ∧ ∀ i m H, W i m H →
  ((Its x).stop i H ∧ Q (.ref D) H) ∨ ((Its x).go i H ∧ ∃ Nx : Hp → Prop, (∀ H', Nx H' → ∃ m', m' < m ∧ W (i + 1) m' H') ∧ ∀ x' H', (Its x).yld i H x' H' → gName j x' (wipe σ vs) H' fun σ2 H2 => wipe σ2 vs = wipe σ vs ∧ tt σ2 H2 fun b H3 =>
    if b = true then te σ2 H3 fun y H4 => ∃ acc, H4 D = some (.lst acc) ∧ acc.length < sizeLine ∧ Nx (L2.upd H4 D (.lst (acc ++ [y]))) else Nx H3)
theorem g_lcS {σ : L2.St} {H : Hp} {Q : VK} {tl : TE} {tt : TT} {te : TE} {j : Nat} {vs : List Nat} (k : tl σ H fun v H1 => rLcS j tt te vs σ v H1 Q) : tLc (iStr tl) (gName j) tt te vs σ H Q := k
theorem r_lcS {σ : L2.St} {H : Hp} {Q : VK} {tt : TT} {te : TE} {j : Nat} {cs : List Nat} {vs : List Nat} (b : Nat → Bool) (f : Nat → V) (hn : cs.length < 1000000) (hw : ∀ x, wipe ((wipe σ vs).set j (some x)) vs = wipe σ vs)
    (ht : ∀ c H2 (R : Bool → Hp → Prop), c ∈ cs → Same H H2 → R (b c) H2 → tt ((wipe σ vs).set j (some (.str (SX.S [c])))) H2 R)
    (he : ∀ c H2 (R : VK), c ∈ cs → b c = true → Same H H2 → R (f c) H2 → te ((wipe σ vs).set j (some (.str (SX.S [c])))) H2 R)
    (k : ∀ D, H D = none → Q (.ref D) (L2.upd H D (.lst ((cs.filter b).map f)))) : rLcS j tt te vs σ (.str (SX.S cs)) H Q := by
  refine ⟨SX.S cs, rfl, fun D hD => ?_⟩
  have hsz : (SX.S cs).cps.size = cs.length := by simp [SX.S]
  refine ⟨fun i m H2 => m = cs.length - i ∧ i ≤ cs.length ∧ H2 = L2.upd H D (.lst (((cs.take i).filter b).map f)), ⟨cs.length, by simp, Nat.zero_le _, rfl⟩, ?_⟩
  rintro i m H2 ⟨rfl, hi, rfl⟩
  by_cases hlt : i < cs.length
  · refine .inr ⟨?_, fun H' => H' = L2.upd H D (.lst (((cs.take (i + 1)).filter b).map f)), fun H' e => ⟨cs.length - (i + 1), by omega, rfl, by omega, e⟩, ?_⟩
    · show i < (SX.S cs).cps.size
      rw [hsz]; exact hlt
    · rintro x' H' ⟨rfl, c, hc, rfl⟩
      have hc' : cs[i]? = some c := by
        have : (SX.S cs).cps[i]? = cs[i]? := by simp [SX.S]
        rw [← this]; exact hc
      have hget : cs[i] = c := by
        rw [List.getElem?_eq_getElem hlt] at hc'
        exact Option.some.inj hc'
      have hmem : c ∈ cs := hget ▸ List.getElem_mem hlt
      have htk : cs.take (i + 1) = cs.take i ++ [c] := by rw [List.take_succ, hc']; rfl
      have hS : Same H (L2.upd H D (.lst (((cs.take i).filter b).map f))) := Same.upd hD
      refine ⟨hw _, ?_⟩
      refine ht c _ _ hmem hS ?_
      cases hb : b c with
      | false =>
        rw [if_neg Bool.false_ne_true, htk, List.filter_append, List.filter_cons, if_neg (by rw [hb]; decide), List.filter_nil, List.append_nil]
      | true =>
        rw [if_pos rfl]
        refine he c _ _ hmem hb hS ⟨_, upd_same, ?_, ?_⟩
        · rw [List.length_map, sizeLine_eq]
          have := List.length_filter_le b (cs.take i)
          rw [List.length_take] at this
          omega
        · rw [upd_upd, htk, List.filter_append, List.filter_cons, if_pos hb, List.filter_nil, List.map_append]
          rfl
  · have e : i = cs.length := by omega
    refine .inl ⟨by show (SX.S cs).cps.size ≤ i; rw [hsz]; omega, ?_⟩
    rw [e, List.take_length]
    exact k D hD
/-- .. without a test -/
theorem r_lcS1 {σ : L2.St} {H : Hp} {Q : VK} {te : TE} {j : Nat} {cs : List Nat} {vs : List Nat} (f : Nat → V) (hn : cs.length < 1000000) (hw : ∀ x, wipe ((wipe σ vs).set j (some x)) vs = wipe σ vs)
    (he : ∀ c H2 (R : VK), c ∈ cs → Same H H2 → R (f c) H2 → te ((wipe σ vs).set j (some (.str (SX.S [c])))) H2 R)
    (k : ∀ D, H D = none → Q (.ref D) (L2.upd H D (.lst (cs.map f)))) : rLcS j tYes te vs σ (.str (SX.S cs)) H Q :=
  r_lcS (fun _ => true) f hn hw (fun c H2 R _ _ r => r) (fun c H2 R h1 _ h3 => he c H2 R h1 h3) (fun D hD => by
    have e : cs.filter (fun _ => true) = cs := List.filter_eq_self.mpr fun _ _ => rfl
    rw [e]
    exact k D hD)
def rAllQ (K : PySem.W.Frag) : List V → Hp → VK → Prop := rAll K
theorem g_all {K : PySem.W.Frag} {H : Hp} {Q : VK} {a : Addr} {bs : List Bool} (h : SqL K H a (bs.map V.bl)) (k : Q (.bl (bs.all id)) H) : rAll K [.ref a] H Q := ⟨a, bs, rfl, h, k⟩
theorem g_any {K : PySem.W.Frag} {H : Hp} {Q : VK} {a : Addr} {bs : List Bool} (h : SqL K H a (bs.map V.bl)) (k : Q (.bl (bs.any id)) H) : rAny K [.ref a] H Q := ⟨a, bs, rfl, h, k⟩
theorem g_slX {H : Hp} {Q : VK} {z : Str} {lo hi : Option Int} (h : z.length ≤ sizeLine) (k : Q (.str (Txt.slice z lo hi)) H) : C8.rSlX (.str z) lo hi H Q := ⟨z, rfl, h, k⟩
/-! ### list(text) -/
theorem vals_of_get : ∀ {xs : List V} {us : List Value}, xs.length = us.length → (∀ (j : Nat) (x : V) (u : Value), xs[j]? = some x → us[j]? = some u → RelV x u) → Vals xs us
  | [], [], _, _ => .nil
  | [], _ :: _, h, _ => by simp at h
  | _ :: _, [], h, _ => by simp at h
  | x :: xs, u :: us, h, k => .cons (k 0 x u rfl rfl) (vals_of_get (by simpa using h) fun j y z h1 h2 => k (j + 1) y z (by simpa using h1) (by simpa using h2))
def rListS : List V → Hp → VK → Prop := fun xs H Q => ∃ cs : List Nat, xs = [.str (SX.S cs)] ∧ cs.length ≤ 1000000 ∧ ∀ l, H l = none → Q (.ref l) (L2.upd H l (.lst (cs.map fun c => .str (SX.S [c]))))
theorem cq_list_str {X : Cx} (hc : X.calm = true) : CallR X (.type "list") rListS := by
  intro pins s σ H xs us Q I r h
  obtain ⟨cs, rfl, hl, q⟩ := h
  obtain ⟨u, rfl, t, rfl⟩ := vals1 r
  have hsz : (SX.S cs).cps.size = cs.length := by simp [SX.S]
  refine call_list_str (I.ok.hd hc) (SX.S cs) t (fun h' tk acc' c' kp e items => ?_) (by rw [hsz, sizeLine_eq]; omega)
  have rv : Vals (cs.map fun c => V.str (SX.S [c])) acc'.toList := by
    have h0 : acc'.toList.length = cs.length := by rw [← hsz, ← items.1]; simp
    refine vals_of_get (by rw [List.length_map, h0]) fun j x u h1 h2 => ?_
    obtain ⟨c, tk2, hc1, rfl⟩ := items.2 j u (by simpa using h2)
    have hc2 : cs[j]? = some c := by
      have : (SX.S cs).cps[j]? = cs[j]? := by simp [SX.S]
      rw [← this]; exact hc1
    rw [List.getElem?_map, hc2] at h1
    have e2 : V.str (SX.S [c]) = x := Option.some.inj h1
    rw [← e2]
    exact ⟨tk2, rfl⟩
  exact ⟨.ref s.heap.objs.size, _, I.laid (t' := tk) kp (Nat.le_refl _) (show ObjOk X.prog X.w _ h' _ (.lst _) from ⟨by rw [List.length_map, sizeLine_eq]; omega, acc'.toList, c', rv, by simpa using e⟩), rfl, q _ (I.hok.fresh (Nat.le_refl _))⟩
end Op

namespace Op
open PySem PySem.Spec PyProof.Rows L2
local macro_rules | `(tactic| walk_at "go1") => `(tactic| first
  | ((with_reducible refine' g_var ?h ?_); (case h => rfl)) | with_reducible refine' g_c ?_ | with_reducible refine' g_op ?_ | with_reducible refine' g_un ?_ | with_reducible refine' g_if ?_ | with_reducible refine' g_test ?_ | with_reducible refine' g_B ?_ | with_reducible refine' g_bl ?_
  | with_reducible refine' g_not ?_ | with_reducible refine' g_and ?_ | with_reducible refine' g_or ?_ | with_reducible refine' g_andV ?_ | with_reducible refine' g_orV ?_ | with_reducible refine' g_notV ?_ | with_reducible refine' g_nil ?_ | with_reducible refine' g_cons ?_ | with_reducible refine' g_CB ?_ | with_reducible refine' g_ca ?_
  | with_reducible refine' g_seq ?_ | with_reducible refine' g_next ?_ | with_reducible refine' g_asg ?_ | with_reducible refine' g_name ?_ | with_reducible refine' g_ret ?_ | with_reducible refine' g_retN ?_ | with_reducible refine' g_drop ?_ | with_reducible refine' g_ifS ?_ | with_reducible refine' g_sub ?_
  | with_reducible refine' g_I0 ?_ | with_reducible refine' g_U ?_ | ((with_reducible refine' g_eq ?h ?_); (case h => rfl)) | ((with_reducible refine' g_ne ?h ?_); (case h => rfl))
  | ((with_reducible refine' g_lenL ?h ?_); (case h => first | assumption | exact SqL.of (by assumption) | exact SqL.of upd_same)) | ((with_reducible refine' g_lenT ?h ?_); (case h => first | assumption | exact SqT.of (by assumption) | exact SqT.of upd_same))
  | ((with_reducible refine' g_ixL ?h ?ha ?_); (case h => first | assumption | exact SqL.of (by assumption) | exact SqL.of upd_same); (case ha => rfl)) | ((with_reducible refine' g_ixT ?h ?ha ?_); (case h => first | assumption | exact SqT.of (by assumption) | exact SqT.of upd_same); (case ha => rfl))
  | ((with_reducible refine' g_I ?h ?_); (case h => first | decide | omega | (first | refine' ⟨?_, ?_, ?_⟩ | refine' ⟨?_, ?_⟩ | refine' Or.inl ⟨?_, ?_⟩) <;> omega | (refine' Or.inr ⟨?_, ?_⟩ <;> omega)))
  | ((with_reducible refine' g_setL ?h ?ha ?_); (case h => first | assumption | exact upd_same); (case ha => rfl))
  | with_reducible refine' g_lcR ?_
  | with_reducible refine' g_M1 ?_ | with_reducible refine' g_isS ?_ | with_reducible refine' g_tyS ?_ | ((with_reducible refine' g_tyL ?h ?_); (case h => first | assumption | exact upd_same))
  | ((with_reducible refine' g_cat ?h ?h2 ?hl ?_); (case h => first | assumption | exact upd_same); (case h2 => first | assumption | exact upd_same); (case hl => first | decide | (simp; omega)))
  | with_reducible refine' g_lcS ?_
  | with_reducible refine' g_starts ?_ | with_reducible refine' g_chain ?_
  | ((with_reducible refine' g_lenS ?h ?_); (case h => first | exact len_le (by assumption) | exact len_le (by omega))) | ((with_reducible refine' g_rstrip ?h ?_); (case h => first | exact len_le (by assumption) | exact len_le (by omega))) | ((with_reducible refine' g_slX ?h ?_); (case h => first | exact len_le (by assumption) | exact len_le (by omega)))
  | with_reducible refine' g_sl ?_ | with_reducible refine' g_nopart ?_ | with_reducible refine' g_part ?_ | with_reducible refine' g_isI ?_
  | with_reducible refine' g_tru ?_
  | with_reducible refine' iteT ?_ | with_reducible refine' iteF ?_ | with_reducible refine' iteNT ?_ | with_reducible refine' iteNF ?_
  | with_reducible refine' g_int ?_ | with_reducible refine' g_insg ?_ | with_reducible refine' g_ninsg ?_ | with_reducible refine' g_isN ?_ | with_reducible refine' g_notN ?_ | with_reducible refine' g_lst ?_ | with_reducible refine' g_tup ?_ | with_reducible refine' g_BM ?_ | with_reducible refine' g_BM0 ?_)
local macro_rules | `(tactic| walk_at "go") => `(tactic| repeat' walk_at "go1")
/-! ## the law's stream of draws -/
/-- at st a stream that has been asked at most n times -/
def StAt (H : Hp) (st : Addr) (n : Nat) : Prop := ∃ a b c : Int, H st = some (.lst [.int a, .int b, .int c]) ∧ 0 ≤ a ∧ 0 ≤ b ∧ b < 4294967296 ∧ 0 ≤ c ∧ c ≤ (n : Int)
theorem StAt.mono {H : Hp} {st : Addr} {n m : Nat} (h : StAt H st n) (l : n ≤ m) : StAt H st m := by
  obtain ⟨a, b, c, h0, h1, h2, h3, h4, h5⟩ := h
  exact ⟨a, b, c, h0, h1, h2, h3, h4, by omega⟩
theorem StAt.same {H H' : Hp} {st : Addr} {n : Nat} (h : StAt H st n) (s : Same H H') : StAt H' st n := by
  obtain ⟨a, b, c, h0, h1⟩ := h
  exact ⟨a, b, c, s _ _ h0, h1⟩
theorem StAt.ne {H : Hp} {st p : Addr} {n : Nat} (h : StAt H st n) (hp : H p = none) : st ≠ p := by
  obtain ⟨a, b, c, h0, _⟩ := h
  exact ne_of_none h0 hp
/-- _law_stream(script, k) -/
def spStream (K : PySem.W.Frag) : Sp := fun vs H Q _ => ∃ (a : Addr) (ns : List Int) (k : Nat), vs = [.ref a, .int (k : Int)] ∧ SqL K H a (ns.map V.int) ∧ k < 64 ∧
  ∀ H' st, H st = none → Same H H' → StAt H' st 0 → Q (.ref st) H'
/-- _law_draw(stream, many) -/
def spDraw : Sp := fun vs H Q _ => ∃ (st : Addr) (m n : Nat), vs = [.ref st, .int (m : Int)] ∧ 0 < m ∧ m < 1000000 ∧ StAt H st n ∧ n < 1000000000000 ∧
  ∀ H' (d : Nat), d < m → But st H H' → StAt H' st (n + 1) → Q (.int (d : Int)) H'
/-- _law_pick(stream, things) -/
def spPick (K : PySem.W.Frag) : Sp := fun vs H Q _ => ∃ (st l : Addr) (xs : List V) (n : Nat), vs = [.ref st, .ref l] ∧ SqL K H l xs ∧ l ≠ st ∧ 0 < xs.length ∧ xs.length < 1000000 ∧ StAt H st n ∧ n < 1000000000000 ∧
  ∀ H' v, v ∈ xs → But st H H' → StAt H' st (n + 1) → Q v H'
theorem SqL.but {K : PySem.W.Frag} {H H' : Hp} {a st : Addr} {xs : List V} (h : SqL K H a xs) (n : a ≠ st) (b : But st H H') : SqL K H' a xs := by
  rcases h with (h | ⟨o, h⟩) | h
  · exact .inl (.inl (b _ _ n h))
  · exact .inl (.inr ⟨o, b _ _ n h⟩)
  · exact .inr h
section
variable {P : Program} {w : World} {K : PySem.W.Frag} {mg : Str → Option Value} {base : Heap}
theorem ca_stream (T : Bl K mg) (D : Df K mg "_law_stream" s_law_stream p_law_stream) : Ca P w K mg base 1 "_law_stream" (spStream K) := by
  refine ca_n D sc_law_stream (fun vs H Q E h => ?_) (fun f cdv A outer s H vs Q E hr h => ?_)
  · obtain ⟨a, ns, k, rfl, _⟩ := h
    rfl
  · obtain ⟨a, ns, k, rfl, hS, hk, q⟩ := h
    refine ⟨_, (C8.pss_cut (ps_set (i := 2) sc_law_stream.nd rfl (Or.inl rfl) (pe_ifExp (pt_cmpR op_lt (pv 1) (pe_callB cq_len (by rfl) T.b_len (by decide +kernel) (pa_cons (pv 0) pa_nil)) (nomark _)) (pe_callB cq_abs (by rfl) T.b_abs (by decide +kernel) (pa_cons (pe_ix ix_list (pv 0) (pv 1) (fun _ _ => rfl)) pa_nil)) pe_int))
  (pss_one (ps_ret (pe_lst (pa_cons (pe_ifExp (pt_cmpR op_ge (pv 2) (pe_op op_pow pe_int pe_int) (nomark _)) (pv 2) pe_int) (pa_cons (pe_op op_add (pe_op op_mod (pe_callTy cq_int (by rfl) T.b_int (by decide +kernel) (pa_cons (pv 2) pa_nil)) pe_int) (pe_op op_mul pe_int (pv 1))) (pa_cons pe_int pa_nil))))))), ?_⟩
    refine ⟨fun σ' H' => ∃ z : Int, 0 ≤ z ∧ σ' = [some (.ref a), some (.int (k : Int)), some (.int z)] ∧ H' = H, ?_, ?_⟩
    · walk_at "go"
      refine iteD (fun h => ?_) (fun h => ?_)
      · rw [List.length_map] at h
        have hk2 : k < ns.length := by omega
        have ha : atI (ns.map V.int) ((k : Nat) : Int) = some (.int ns[k]) := atI_nat (by rw [List.getElem?_map, List.getElem?_eq_getElem hk2]; rfl)
        walk_at "go"
        refine g_ixL hS ha ?_
        walk_at "go"
        refine g_abs fun j hj _ => ?_
        walk_at "go"
        exact ⟨j, hj, rfl, rfl⟩
      · walk_at "go"
        exact ⟨0, Int.le_refl _, rfl, rfl⟩
    · rintro σ' H' ⟨z, hz, rfl, rfl⟩
      walk_at "go"
      have e1 : z % 2147483647 < 2147483647 := Int.emod_lt_of_pos z (by decide)
      have e2 : 0 ≤ z % 2147483647 := Int.emod_nonneg z (by decide)
      refine iteD (fun h => ?_) (fun h => ?_)
      all_goals
        walk_at "go"
        refine ⟨by show 3 ≤ sizeLine; decide, fun p hp => ?_⟩
        refine q _ p hp (Same.upd hp) ?_
      · exact ⟨z, _, 0, upd_same, hz, by omega, by omega, by omega, by omega⟩
      · exact ⟨0, _, 0, upd_same, by omega, by omega, by omega, by omega, by omega⟩
theorem fdiv_nonneg {a : Int} {m : Nat} (ha : 0 ≤ a) : 0 ≤ a.fdiv (m : Int) := by
  rw [Int.fdiv_eq_ediv_of_nonneg _ (by omega)]
  exact Int.ediv_nonneg ha (by omega)
theorem ca_draw (T : Bl K mg) (D : Df K mg "_law_draw" s_law_draw p_law_draw) : Ca P w K mg base 1 "_law_draw" spDraw := by
  refine ca_n D sc_law_draw (fun vs H Q E h => ?_) (fun f cdv A outer s H vs Q E hr h => ?_)
  · obtain ⟨st, m, n, rfl, _⟩ := h
    rfl
  · obtain ⟨st, m, n, rfl, hm, hm2, ⟨a, b, c, hs, ha, hb, hb2, hc, hc2⟩, hn, q⟩ := h
    refine ⟨_, (pss_cons (ps_if (pt_cmpR op_gt (pe_ix ix_list (pv 0) pe_int (fun _ _ => rfl)) pe_int (nomark _))
  (pss_cons (ps_set (i := 2) sc_law_draw.nd rfl (Or.inl rfl) (pe_op op_mod (pe_callTy cq_int (by rfl) T.b_int (by decide +kernel) (pa_cons (pe_ix ix_list (pv 0) pe_int (fun _ _ => rfl)) pa_nil)) (pv 1)))
  (pss_cons (ps_asg (pe_op op_fdivN (pe_ix ix_list (pv 0) pe_int (fun _ _ => rfl)) (pv 1)) (pg_sub (pv 0) pe_int set_list))
  (pss_one (ps_ret (pv 2)))))
  pss_nil)
  (pss_cons (ps_asg (pe_op op_add (pe_ix ix_list (pv 0) pe_int (fun _ _ => rfl)) pe_int) (pg_sub (pv 0) pe_int set_list))
  (pss_cons (ps_set (i := 3) sc_law_draw.nd rfl (Or.inl rfl) (pe_op op_mod (pe_op op_pow (pe_callTy cq_int (by rfl) T.b_int (by decide +kernel) (pa_cons (pe_op op_add (pe_op op_add (pe_ix ix_list (pv 0) pe_int (fun _ _ => rfl)) (pe_op op_mul pe_int (pe_ix ix_list (pv 0) pe_int (fun _ _ => rfl)))) pe_int) pa_nil)) pe_int) pe_int))
  (pss_one (ps_ret (pe_op op_mod (pe_op op_fdivN (pe_op op_mod (pe_callTy cq_int (by rfl) T.b_int (by decide +kernel) (pa_cons (pe_op op_mul (pe_op op_add (pv 3) (pe_ix ix_list (pv 0) pe_int (fun _ _ => rfl))) pe_int) pa_nil)) pe_int) pe_int) (pv 1))))))), ?_⟩
    walk_at "go"
    refine iteD (fun h => ?_) (fun h => ?_)
    · walk_at "go"
      have e1 : a % (m : Int) < (m : Int) := Int.emod_lt_of_pos a (by omega)
      have e2 : 0 ≤ a % (m : Int) := Int.emod_nonneg a (by omega)
      have e3 : (((a % (m : Int)).toNat : Nat) : Int) = a % (m : Int) := Int.toNat_of_nonneg e2
      have r := q (L2.upd H st (.lst [.int (a.fdiv (m : Int)), .int b, .int c])) (a % (m : Int)).toNat (by omega) But.upd ⟨_, b, c, upd_same, fdiv_nonneg ha, hb, hb2, hc, by omega⟩
      rw [e3] at r
      exact r
    · walk_at "go"
      generalize hX : ((b + 7919 * (c + 1) + 104729) ^ Int.toNat 5 % 2147483647 + (c + 1)) * 40692 % 2147483629 = X
      have e1 : X.fdiv 7 % (m : Int) < (m : Int) := Int.emod_lt_of_pos _ (by omega)
      have e2 : 0 ≤ X.fdiv 7 % (m : Int) := Int.emod_nonneg _ (by omega)
      have e3 : (((X.fdiv 7 % (m : Int)).toNat : Nat) : Int) = X.fdiv 7 % (m : Int) := Int.toNat_of_nonneg e2
      have r := q (L2.upd H st (.lst [.int a, .int b, .int (c + 1)])) (X.fdiv 7 % (m : Int)).toNat (by omega) But.upd ⟨a, b, c + 1, upd_same, ha, hb, hb2, by omega, by omega⟩
      rw [e3] at r
      exact r
/-- a draw, its many told -/
theorem g_draw {st : Addr} {n m : Nat} {z : Int} {H : Hp} {Q : VK} (hz : z = (m : Int)) (h0 : 0 < m) (h1 : m < 1000000) (hst : StAt H st n) (hn : n < 1000000000000) (k : ∀ H' (d : Nat), d < m → But st H H' → StAt H' st (n + 1) → Q (.int (d : Int)) H') :
    spDraw [.ref st, .int z] H Q E0 := by
  subst hz
  exact ⟨st, m, n, rfl, h0, h1, hst, hn, k⟩
theorem at_lt {xs : List V} {d : Nat} (h : d < xs.length) : ∃ v, v ∈ xs ∧ atI xs ((d : Nat) : Int) = some v := ⟨xs[d], List.getElem_mem h, atI_nat (List.getElem?_eq_getElem h)⟩
theorem ca_pick (T : Bl K mg) (D : Df K mg "_law_pick" s_law_pick p_law_pick) (c_law_draw : Ca P w K mg base 1 "_law_draw" spDraw) : Ca P w K mg base 2 "_law_pick" (spPick K) := by
  refine ca_n D sc_law_pick (fun vs H Q E h => ?_) (fun f cdv A outer s H vs Q E hr h => ?_)
  · obtain ⟨st, l, xs, n, rfl, _⟩ := h
    rfl
  · obtain ⟨st, l, xs, n, rfl, hS, hne, h0, h1, hst, hn, q⟩ := h
    refine ⟨_, (pss_one (ps_ret (pe_ix ix_list (pv 1) (pe_ca c_law_draw hr (by decide) (by rfl) (pa_cons (pv 0) (pa_cons (pe_callB cq_len (by rfl) T.b_len (by decide +kernel) (pa_cons (pv 1) pa_nil)) pa_nil))) (fun _ _ => rfl)))), ?_⟩
    walk_at "go"
    refine ⟨st, xs.length, n, rfl, h0, h1, hst, hn, fun H' d hd hb hst' => ?_⟩
    obtain ⟨v, hv, ha⟩ := at_lt hd
    refine g_ixL (SqL.but hS hne hb) ha ?_
    exact q H' v hv hb hst'
/-- things[draw(stream, n)], the things written there -/
theorem g_pick {st p : Addr} {n : Nat} {xs : List V} {z : Int} {H : Hp} {Q : VK} (hz : z = ((xs.length : Nat) : Int)) (hp : H p = none) (hst : StAt H st n) (hn : n < 1000000000000) (h0 : 0 < xs.length) (h1 : xs.length < 1000000) (k : ∀ H' v, v ∈ xs → But st H H' → StAt H' st (n + 1) → Q v H') :
    spDraw [.ref st, .int z] (L2.upd H p (.lst xs)) (fun y H2 => rIxL K (.ref p) y H2 Q) E0 := by
  subst hz
  refine ⟨st, xs.length, n, rfl, h0, h1, hst.same (Same.upd hp), hn, fun H1 d hd b1 s1 => ?_⟩
  obtain ⟨v, hv, ha⟩ := at_lt hd
  refine g_ixL (SqL.of (b1 _ _ (hst.ne hp).symm upd_same)) ha ?_
  exact k H1 v hv ((But.of (Same.upd hp)).trans b1) s1
end
end Op

namespace Op
open PySem PySem.Spec PyProof.Rows L2 SX
local macro_rules | `(tactic| walk_at "go1") => `(tactic| first
  | ((with_reducible refine' g_var ?h ?_); (case h => rfl)) | with_reducible refine' g_c ?_ | with_reducible refine' g_op ?_ | with_reducible refine' g_un ?_ | with_reducible refine' g_if ?_ | with_reducible refine' g_test ?_ | with_reducible refine' g_B ?_ | with_reducible refine' g_bl ?_
  | with_reducible refine' g_not ?_ | with_reducible refine' g_and ?_ | with_reducible refine' g_or ?_ | with_reducible refine' g_andV ?_ | with_reducible refine' g_orV ?_ | with_reducible refine' g_notV ?_ | with_reducible refine' g_nil ?_ | with_reducible refine' g_cons ?_ | with_reducible refine' g_CB ?_ | with_reducible refine' g_ca ?_
  | with_reducible refine' g_seq ?_ | with_reducible refine' g_next ?_ | with_reducible refine' g_asg ?_ | with_reducible refine' g_name ?_ | with_reducible refine' g_ret ?_ | with_reducible refine' g_retN ?_ | with_reducible refine' g_drop ?_ | with_reducible refine' g_ifS ?_ | with_reducible refine' g_sub ?_
  | with_reducible refine' g_I0 ?_ | with_reducible refine' g_U ?_ | ((with_reducible refine' g_eq ?h ?_); (case h => rfl)) | ((with_reducible refine' g_ne ?h ?_); (case h => rfl))
  | ((with_reducible refine' g_lenL ?h ?_); (case h => first | assumption | exact SqL.of (by assumption) | exact SqL.of upd_same)) | ((with_reducible refine' g_lenT ?h ?_); (case h => first | assumption | exact SqT.of (by assumption) | exact SqT.of upd_same))
  | ((with_reducible refine' g_ixL ?h ?ha ?_); (case h => first | assumption | exact SqL.of (by assumption) | exact SqL.of upd_same); (case ha => rfl)) | ((with_reducible refine' g_ixT ?h ?ha ?_); (case h => first | assumption | exact SqT.of (by assumption) | exact SqT.of upd_same); (case ha => rfl))
  | ((with_reducible refine' g_I ?h ?_); (case h => first | decide | omega | (first | refine' ⟨?_, ?_, ?_⟩ | refine' ⟨?_, ?_⟩ | refine' Or.inl ⟨?_, ?_⟩) <;> omega | (refine' Or.inr ⟨?_, ?_⟩ <;> omega)))
  | ((with_reducible refine' g_setL ?h ?ha ?_); (case h => first | assumption | exact upd_same); (case ha => rfl))
  | with_reducible refine' g_lcR ?_
  | with_reducible refine' g_M1 ?_ | with_reducible refine' g_isS ?_ | with_reducible refine' g_tyS ?_ | ((with_reducible refine' g_tyL ?h ?_); (case h => first | assumption | exact upd_same))
  | ((with_reducible refine' g_cat ?h ?h2 ?hl ?_); (case h => first | assumption | exact upd_same); (case h2 => first | assumption | exact upd_same); (case hl => first | decide | (simp; omega)))
  | with_reducible refine' g_lcS ?_
  | with_reducible refine' g_starts ?_ | with_reducible refine' g_chain ?_
  | ((with_reducible refine' g_lenS ?h ?_); (case h => first | exact len_le (by assumption) | exact len_le (by omega))) | ((with_reducible refine' g_rstrip ?h ?_); (case h => first | exact len_le (by assumption) | exact len_le (by omega))) | ((with_reducible refine' g_slX ?h ?_); (case h => first | exact len_le (by assumption) | exact len_le (by omega)))
  | with_reducible refine' g_sl ?_ | with_reducible refine' g_nopart ?_ | with_reducible refine' g_part ?_ | with_reducible refine' g_isI ?_
  | with_reducible refine' g_tru ?_
  | with_reducible refine' iteT ?_ | with_reducible refine' iteF ?_ | with_reducible refine' iteNT ?_ | with_reducible refine' iteNF ?_
  | with_reducible refine' g_int ?_ | with_reducible refine' g_insg ?_ | with_reducible refine' g_ninsg ?_ | with_reducible refine' g_isN ?_ | with_reducible refine' g_notN ?_ | with_reducible refine' g_lst ?_ | with_reducible refine' g_tup ?_ | with_reducible refine' g_BM ?_ | with_reducible refine' g_BM0 ?_)
local macro_rules | `(tactic| walk_at "go") => `(tactic| repeat' walk_at "go1")
/-! ## drawn words and names -/
/-- all signs in a .. b -/
def Signs (a b : Nat) (cs : List Nat) : Prop := ∀ c ∈ cs, a ≤ c ∧ c ≤ b
def isWordL (cs : List Nat) : Prop := 1 ≤ cs.length ∧ cs.length ≤ 8 ∧ Signs 97 122 cs
def isNameL (cs : List Nat) : Prop := ∃ as bs, cs = as ++ bs ∧ 1 ≤ as.length ∧ cs.length ≤ 8 ∧ Signs 65 90 as ∧ Signs 48 57 bs
def spWord : Sp := fun vs H Q _ => ∃ (st : Addr) (n : Nat), vs = [.ref st] ∧ StAt H st n ∧ n + 9 ≤ 1000000000000 ∧
  ∀ H' cs, isWordL cs → But st H H' → StAt H' st (n + 9) → Q (.str (S cs)) H'
def spName : Sp := fun vs H Q _ => ∃ (st : Addr) (n : Nat), vs = [.ref st] ∧ StAt H st n ∧ n + 11 ≤ 1000000000000 ∧
  ∀ H' cs, isNameL cs → But st H H' → StAt H' st (n + 11) → Q (.str (S cs)) H'
theorem g_ixS {K : PySem.W.Frag} {H : Hp} {Q : VK} {z : Str} {i : Int} {c : Nat} (h : z.length ≤ sizeLine) (ha : atI z.cps.toList i = some c) (k : Q (.str (S [c])) H) : rIxS (.str z) (.int i) H Q := ⟨z, i, c, rfl, rfl, h, ha, k⟩
theorem at_ltL {α : Type} {xs : List α} {d : Nat} (h : d < xs.length) : ∃ v, v ∈ xs ∧ atI xs ((d : Nat) : Int) = some v := ⟨xs[d], List.getElem_mem h, atI_nat (List.getElem?_eq_getElem h)⟩
theorem joinL_signs : ∀ cs : List Nat, TL.joinL [] (cs.map fun c => [c]) = cs
  | [] => rfl
  | [c] => rfl
  | c :: d :: r => by
    have ih := joinL_signs (d :: r)
    show [c] ++ ([] ++ TL.joinL [] ((d :: r).map fun c => [c])) = c :: d :: r
    rw [ih]
    rfl
theorem signs_map (cs : List Nat) : (cs.map fun c => V.str (S [c])) = ((cs.map fun c => [c]).map S).map V.str := by rw [List.map_map, List.map_map]; rfl
theorem join_signs (cs : List Nat) : Txt.join (Str.ofString "") ((cs.map fun c => [c]).map S) = S cs := by
  rw [show Str.ofString "" = S [] by decide +kernel, join_S, joinL_signs]
theorem sum_ones : ∀ cs : List Nat, (((cs.map fun c => [c]).map S).map (·.length)).sum = cs.length
  | [] => rfl
  | c :: r => by
    have ih := sum_ones r
    show (S [c]).length + (((r.map fun c => [c]).map S).map (·.length)).sum = r.length + 1
    rw [ih, S_len]
    show 1 + r.length = r.length + 1
    omega
/-- [sign of the alphabet, drawn, for k in range(n)] -/
theorem lc_signs {σ : L2.St} {H1 : Hp} {Q : VK} {j m n lo hi : Nat} {vs : List Nat} {st : Addr} {z : Str} {zm N : Int} (hm : zm = (m : Int)) (hz : z.cps.toList.length = m) (hl : z.length ≤ sizeLine) (h0 : 0 < m) (h1 : m < 1000000) (hr : ∀ c ∈ z.cps.toList, lo ≤ c ∧ c ≤ hi) (hN : 0 ≤ N ∧ N < 1000000)
    (hw : ∀ x, wipe ((wipe σ vs).set j (some x)) vs = wipe σ vs) (hs0 : ∀ x, ((wipe σ vs).set j (some x))[0]? = some (some (V.ref st))) (hst : StAt H1 st n) (hn : n + N.toNat ≤ 1000000000000)
    (k : ∀ D H2 cs, H1 D = none → But st H1 H2 → StAt H2 st (n + N.toNat) → H2 D = some (.lst (cs.map fun c => V.str (S [c]))) → (cs.length : Int) = N → Signs lo hi cs → Q (.ref D) H2) :
    rLcR j (tOp rIxS (tC (.str z)) (tCa spDraw (tCons (tVar 0) (tCons (tC (.int zm)) tNil)))) vs σ [.int N] H1 Q := by
  refine r_lcR (fun D i acc H2 => But st H1 H2 ∧ StAt H2 st (n + i) ∧ ∃ cs, acc = cs.map (fun c => V.str (S [c])) ∧ Signs lo hi cs) hN hw (fun D hD => ?_) (fun D i acc H2 hD hi hacc hlen J => ?_) (fun D acc H2 hD hacc hlen J => ?_)
  · exact ⟨But.of (Same.upd hD), hst.same (Same.upd hD), [], rfl, fun c hc => nomatch hc⟩
  · obtain ⟨b2, s2, cs, rfl, hcs⟩ := J
    refine g_op (g_c (g_ca (g_cons (g_var (hs0 _) (g_cons (g_c (g_nil ?_)))))))
    refine g_draw hm h0 h1 s2 (by omega) fun H3 d hd b3 s3 => ?_
    obtain ⟨c, hc, ha⟩ := at_ltL (xs := z.cps.toList) (d := d) (by omega)
    have nD : D ≠ st := (hst.ne hD).symm
    refine g_ixS (K := []) hl ha (lcPost.of (b3 _ _ nD hacc) hlen (by omega) ⟨fun b o hb e => ?_, ?_, cs ++ [c], by rw [List.map_append]; rfl, fun y hy => ?_⟩)
    · rw [upd_ne (ne_of_none e hD)]
      exact b3 _ _ hb (b2 _ _ hb e)
    · obtain ⟨a1, a2, a3, e, r⟩ := s3
      exact ⟨a1, a2, a3, by rw [upd_ne nD.symm]; exact e, r⟩
    · rcases List.mem_append.mp hy with hy | hy
      · exact hcs y hy
      · rw [List.mem_singleton.mp hy]
        exact hr c hc
  · obtain ⟨b2, s2, cs, rfl, hcs⟩ := J
    exact k D H2 cs hD b2 s2 hacc (by rw [List.length_map] at hlen; exact hlen) hcs
section
variable {P : Program} {w : World} {K : PySem.W.Frag} {mg : Str → Option Value} {base : Heap}
theorem ca_word (T : Bl K mg) (D : Df K mg "_law_word" s_law_word p_law_word) (c_law_draw : Ca P w K mg base 1 "_law_draw" spDraw) : Ca P w K mg base 2 "_law_word" spWord := by
  refine ca_n D sc_law_word (fun vs H Q E h => ?_) (fun f cdv A outer s H vs Q E hr h => ?_)
  · obtain ⟨st, n, rfl, _⟩ := h
    rfl
  · obtain ⟨st, n, rfl, hst, hn, q⟩ := h
    refine ⟨_, (pss_cons (ps_set (i := 1) sc_law_word.nd rfl (Or.inl rfl) (pe_ix ix_list (pe_lst (pa_cons pe_int (pa_cons pe_int (pa_cons pe_int (pa_cons pe_int (pa_cons pe_int (pa_cons pe_int pa_nil))))))) (pe_ca c_law_draw hr (by decide) (by rfl) (pa_cons (pv 0) (pa_cons pe_int pa_nil))) (fun _ _ => rfl)))
  (pss_one (ps_ret (pq_join pe_str (pe_lc (own := [("_law_k", 2)]) (g := gName 2) (tt := tYes) rfl sc_law_word.nd (pi_range1 rfl T.b_range (pa_cons (pv 1) pa_nil)) (blkOk_by (own := [("_law_k", 2)]) (N := N_law_word) (sc := defScope s_law_word) (by decide +kernel)) (fun _ _ _ _ _ => pg_name (i := 2) sc_law_word.nd rfl (Or.inl rfl)) (fun _ _ _ _ _ => pts_nil) (fun _ _ _ _ _ => (pe_ix ix_str pe_str (pe_ca c_law_draw hr (by decide) (by rfl) (pa_cons (pv 0) (pa_cons pe_int pa_nil))) (fun _ _ => rfl)))))))), ?_⟩
    walk_at "go"
    refine ⟨by show 6 ≤ sizeLine; decide, fun p hp => ?_⟩
    walk_at "go"
    refine' g_pick ?hz hp hst ?hn ?h0 ?h1 ?_
    case hz => rfl
    case hn => omega
    case h0 => decide
    case h1 => decide
    intro H1 v hv b1 s1
    obtain ⟨z, rfl, hz1, hz2⟩ : ∃ z : Int, v = .int z ∧ 1 ≤ z ∧ z ≤ 8 := by
      simp only [List.mem_cons, List.not_mem_nil, or_false] at hv
      rcases hv with rfl | rfl | rfl | rfl | rfl | rfl <;> exact ⟨_, rfl, by decide, by decide⟩
    walk_at "go"
    refine lc_signs (m := 26) (lo := 97) (hi := 122) (n := n + 1) rfl (by decide +kernel) (by decide +kernel) (by decide) (by decide) (by decide +kernel) ⟨by omega, by omega⟩ (fun _ => rfl) (fun _ => rfl) s1 (by omega) fun D H2 cs hD b2 s2 hacc hlen hcs => ?_
    refine g_join (by rw [← signs_map]; exact SqL.of hacc) ?_ ?_
    · rw [sum_ones, List.length_map, List.length_map, show (Str.ofString "").length = 0 by decide +kernel]
      omega
    · rw [join_signs]
      exact q _ cs ⟨by omega, by omega, hcs⟩ (b1.trans b2) (s2.mono (by omega))
theorem ca_name (T : Bl K mg) (D : Df K mg "_law_name" s_law_name p_law_name) (c_law_draw : Ca P w K mg base 1 "_law_draw" spDraw) : Ca P w K mg base 2 "_law_name" spName := by
  refine ca_n D sc_law_name (fun vs H Q E h => ?_) (fun f cdv A outer s H vs Q E hr h => ?_)
  · obtain ⟨st, n, rfl, _⟩ := h
    rfl
  · obtain ⟨st, n, rfl, hst, hn, q⟩ := h
    refine ⟨_, (pss_cons (ps_set (i := 1) sc_law_name.nd rfl (Or.inl rfl) (pe_ix ix_list (pe_lst (pa_cons pe_int (pa_cons pe_int (pa_cons pe_int (pa_cons pe_int (pa_cons pe_int (pa_cons pe_int pa_nil))))))) (pe_ca c_law_draw hr (by decide) (by rfl) (pa_cons (pv 0) (pa_cons pe_int pa_nil))) (fun _ _ => rfl)))
  (pss_cons (ps_set (i := 2) sc_law_name.nd rfl (Or.inl rfl) (pe_ix ix_list (pe_lst (pa_cons pe_int (pa_cons pe_int (pa_cons pe_int (pa_cons pe_int (pa_cons pe_int pa_nil)))))) (pe_ca c_law_draw hr (by decide) (by rfl) (pa_cons (pv 0) (pa_cons pe_int pa_nil))) (fun _ _ => rfl)))
  (pss_cons (ps_setLc (i := 3) (own := [("_law_k", 4)]) (g := gName 4) (tt := tYes) rfl sc_law_name.nd rfl rfl (sw_true rfl rfl rfl (by decide +kernel)) (pi_range1 rfl T.b_range (pa_cons (pe_callB (cr_max rfl) (by rfl) T.b_max (by decide +kernel) (pa_cons (pe_lst (pa_cons pe_int (pa_cons (pe_op op_sub (pv 1) (pv 2)) pa_nil))) pa_nil)) pa_nil)) (blkOk_by (own := [("_law_k", 4)]) (N := N_law_name) (sc := defScope s_law_name) (by decide +kernel)) (fun _ _ _ _ _ => pg_name (i := 4) sc_law_name.nd rfl (Or.inl rfl)) (fun _ _ _ _ _ => pts_nil) (fun _ _ _ _ _ => (pe_ix ix_str pe_str (pe_ca c_law_draw hr (by decide) (by rfl) (pa_cons (pv 0) (pa_cons pe_int pa_nil))) (fun _ _ => rfl))))
  (pss_one (ps_ret (pq_join pe_str (pe_op op_cat (pv 3) (pe_lc (own := [("_law_k", 4)]) (g := gName 4) (tt := tYes) rfl sc_law_name.nd (pi_range1 rfl T.b_range (pa_cons (pe_op op_sub (pv 1) (pe_callB cq_len (by rfl) T.b_len (by decide +kernel) (pa_cons (pv 3) pa_nil))) pa_nil)) (blkOk_by (own := [("_law_k", 4)]) (N := N_law_name) (sc := defScope s_law_name) (by decide +kernel)) (fun _ _ _ _ _ => pg_name (i := 4) sc_law_name.nd rfl (Or.inl rfl)) (fun _ _ _ _ _ => pts_nil) (fun _ _ _ _ _ => (pe_ix ix_str pe_str (pe_ca c_law_draw hr (by decide) (by rfl) (pa_cons (pv 0) (pa_cons pe_int pa_nil))) (fun _ _ => rfl))))))))))), ?_⟩
    walk_at "go"
    refine ⟨by show 6 ≤ sizeLine; decide, fun p hp => ?_⟩
    walk_at "go"
    refine' g_pick ?hz hp hst ?hn ?h0 ?h1 ?_
    case hz => rfl
    case hn => omega
    case h0 => decide
    case h1 => decide
    intro H1 v hv b1 s1
    obtain ⟨z, rfl, hz1, hz2⟩ : ∃ z : Int, v = .int z ∧ 1 ≤ z ∧ z ≤ 8 := by
      simp only [List.mem_cons, List.not_mem_nil, or_false] at hv
      rcases hv with rfl | rfl | rfl | rfl | rfl | rfl <;> exact ⟨_, rfl, by decide, by decide⟩
    walk_at "go"
    refine ⟨by show 5 ≤ sizeLine; decide, fun p2 hp2 => ?_⟩
    walk_at "go"
    refine' g_pick ?hz hp2 s1 ?hn ?h0 ?h1 ?_
    case hz => rfl
    case hn => omega
    case h0 => decide
    case h1 => decide
    intro H2 v hv b2 s2
    obtain ⟨y, rfl, hy1, hy2⟩ : ∃ z : Int, v = .int z ∧ 0 ≤ z ∧ z ≤ 2 := by
      simp only [List.mem_cons, List.not_mem_nil, or_false] at hv
      rcases hv with rfl | rfl | rfl | rfl | rfl <;> exact ⟨_, rfl, by decide, by decide⟩
    walk_at "go"
    refine ⟨by show 2 ≤ sizeLine; decide, fun p3 hp3 => ?_⟩
    refine ⟨p3, [1, z - y], rfl, SqL.of upd_same, Nat.zero_lt_succ _, fun m hm1 hm2 => ?_⟩
    have m1 : 1 ≤ m := hm2 1 (List.mem_cons_self ..)
    have m2 : z - y ≤ m := hm2 _ (List.mem_cons_of_mem _ (List.mem_cons_self ..))
    have m3 : m = 1 ∨ m = z - y := by
      simp only [List.mem_cons, List.not_mem_nil, or_false] at hm1
      exact hm1
    walk_at "go"
    refine lc_signs (m := 26) (lo := 65) (hi := 90) (n := n + 1 + 1) rfl (by decide +kernel) (by decide +kernel) (by decide) (by decide) (by decide +kernel) ⟨by omega, by omega⟩ (fun _ => rfl) (fun _ => rfl) (s2.same (Same.upd hp3)) (by omega) fun D3 H3 as hD3 b3 s3 hacc3 hlen3 has => ?_
    walk_at "go"
    have nD3 : D3 ≠ st := ((s2.same (Same.upd hp3)).ne hD3).symm
    have eN : (((as.map fun c => V.str (S [c])).length : Nat) : Int) = m := by rw [List.length_map]; exact hlen3
    rw [eN]
    refine lc_signs (m := 10) (lo := 48) (hi := 57) (n := n + 1 + 1 + m.toNat) rfl (by decide +kernel) (by decide +kernel) (by decide) (by decide) (by decide +kernel) ⟨by omega, by omega⟩ (fun _ => rfl) (fun _ => rfl) s3 (by omega) fun D4 H4 bs hD4 b4 s4 hacc4 hlen4 hbs => ?_
    refine g_cat (b4 _ _ nD3 hacc3) hacc4 (by rw [List.length_map, List.length_map, sizeLine_eq]; omega) fun p5 hp5 => ?_
    rw [← List.map_append]
    refine g_join (by rw [← signs_map]; exact SqL.of upd_same) ?_ ?_
    · rw [sum_ones, List.length_map, List.length_map, List.length_append, show (Str.ofString "").length = 0 by decide +kernel]
      omega
    · rw [join_signs]
      have b5 : But st H2 H4 := (But.of (Same.upd hp3)).trans (b3.trans b4)
      exact q _ (as ++ bs) ⟨as, bs, rfl, by omega, by rw [List.length_append]; omega, has, hbs⟩ ((b1.trans (b2.trans b5)).trans (But.of (Same.upd hp5))) ((s4.same (Same.upd hp5)).mono (by omega))
end
end Op

namespace Op
open PySem PySem.Spec PyProof.Rows L2 SX
local macro_rules | `(tactic| walk_at "go1") => `(tactic| first
  | ((with_reducible refine' g_var ?h ?_); (case h => rfl)) | with_reducible refine' g_c ?_ | with_reducible refine' g_op ?_ | with_reducible refine' g_un ?_ | with_reducible refine' g_if ?_ | with_reducible refine' g_test ?_ | with_reducible refine' g_B ?_ | with_reducible refine' g_bl ?_
  | with_reducible refine' g_not ?_ | with_reducible refine' g_and ?_ | with_reducible refine' g_or ?_ | with_reducible refine' g_andV ?_ | with_reducible refine' g_orV ?_ | with_reducible refine' g_notV ?_ | with_reducible refine' g_nil ?_ | with_reducible refine' g_cons ?_ | with_reducible refine' g_CB ?_ | with_reducible refine' g_ca ?_
  | with_reducible refine' g_seq ?_ | with_reducible refine' g_next ?_ | with_reducible refine' g_asg ?_ | with_reducible refine' g_name ?_ | with_reducible refine' g_ret ?_ | with_reducible refine' g_retN ?_ | with_reducible refine' g_drop ?_ | with_reducible refine' g_ifS ?_ | with_reducible refine' g_sub ?_
  | with_reducible refine' g_I0 ?_ | with_reducible refine' g_U ?_ | ((with_reducible refine' g_eq ?h ?_); (case h => rfl)) | ((with_reducible refine' g_ne ?h ?_); (case h => rfl))
  | ((with_reducible refine' g_lenL ?h ?_); (case h => first | assumption | exact SqL.of (by assumption) | exact SqL.of upd_same)) | ((with_reducible refine' g_lenT ?h ?_); (case h => first | assumption | exact SqT.of (by assumption) | exact SqT.of upd_same))
  | ((with_reducible refine' g_ixL ?h ?ha ?_); (case h => first | assumption | exact SqL.of (by assumption) | exact SqL.of upd_same); (case ha => rfl)) | ((with_reducible refine' g_ixT ?h ?ha ?_); (case h => first | assumption | exact SqT.of (by assumption) | exact SqT.of upd_same); (case ha => rfl))
  | ((with_reducible refine' g_I ?h ?_); (case h => first | decide | omega | (first | refine' ⟨?_, ?_, ?_⟩ | refine' ⟨?_, ?_⟩ | refine' Or.inl ⟨?_, ?_⟩) <;> omega | (refine' Or.inr ⟨?_, ?_⟩ <;> omega)))
  | ((with_reducible refine' g_setL ?h ?ha ?_); (case h => first | assumption | exact upd_same); (case ha => rfl))
  | with_reducible refine' g_lcR ?_
  | with_reducible refine' g_M1 ?_ | with_reducible refine' g_isS ?_ | with_reducible refine' g_tyS ?_ | ((with_reducible refine' g_tyL ?h ?_); (case h => first | assumption | exact upd_same))
  | ((with_reducible refine' g_cat ?h ?h2 ?hl ?_); (case h => first | assumption | exact upd_same); (case h2 => first | assumption | exact upd_same); (case hl => first | decide | (simp; omega)))
  | with_reducible refine' g_lcS ?_
  | with_reducible refine' g_starts ?_ | with_reducible refine' g_chain ?_
  | ((with_reducible refine' g_lenS ?h ?_); (case h => first | exact len_le (by assumption) | exact len_le (by omega))) | ((with_reducible refine' g_rstrip ?h ?_); (case h => first | exact len_le (by assumption) | exact len_le (by omega))) | ((with_reducible refine' g_slX ?h ?_); (case h => first | exact len_le (by assumption) | exact len_le (by omega)))
  | with_reducible refine' g_sl ?_ | with_reducible refine' g_nopart ?_ | with_reducible refine' g_part ?_ | with_reducible refine' g_isI ?_
  | with_reducible refine' g_tru ?_
  | with_reducible refine' iteT ?_ | with_reducible refine' iteF ?_ | with_reducible refine' iteNT ?_ | with_reducible refine' iteNF ?_
  | with_reducible refine' g_int ?_ | with_reducible refine' g_insg ?_ | with_reducible refine' g_ninsg ?_ | with_reducible refine' g_isN ?_ | with_reducible refine' g_notN ?_ | with_reducible refine' g_lst ?_ | with_reducible refine' g_tup ?_ | with_reducible refine' g_BM ?_ | with_reducible refine' g_BM0 ?_)
local macro_rules | `(tactic| walk_at "go") => `(tactic| repeat' walk_at "go1")
/-! ## the program's atoms -/
def smallL : List Nat := (Str.ofString "abcdefghijklmnopqrstuvwxyz").cps.toList
def capL : List Nat := (Str.ofString "ABCDEFGHIJKLMNOPQRSTUVWXYZ").cps.toList
def digL : List Nat := (Str.ofString "0123456789").cps.toList
theorem small_S : Str.ofString "abcdefghijklmnopqrstuvwxyz" = S smallL := (S_tl _).symm
theorem cap_S : Str.ofString "ABCDEFGHIJKLMNOPQRSTUVWXYZ" = S capL := (S_tl _).symm
theorem dig_S : Str.ofString "0123456789" = S digL := (S_tl _).symm
def allIn (cs ss : List Nat) : Bool := cs.all fun c => decide (c ∈ ss)
/-- cs without the digits at its end -/
def noDig (cs : List Nat) : List Nat := (cs.reverse.dropWhile fun c => digL.contains c).reverse
def isWordB (cs : List Nat) : Bool := decide (1 ≤ cs.length) && (decide (cs.length ≤ 8) && allIn cs smallL)
def isNameB (cs : List Nat) : Bool := decide (1 ≤ (noDig cs).length) && (decide (cs.length ≤ 8) && allIn (noDig cs) capL)
def isUnkB (cs : List Nat) : Bool := decide (1 ≤ cs.length) && (decide (cs.length ≤ 7) && allIn cs smallL)
abbrev kWord : Str := Str.ofString "word"
abbrev kName : Str := Str.ofString "name"
abbrev kUnk : Str := Str.ofString "unknown"
/-- the atom with this text: its kind, its own text -/
def kindOf (cs : List Nat) : Option (Str × List Nat) :=
  if isWordB cs then some (kWord, cs) else if isNameB cs then some (kName, cs) else if cs.head? = some 63 ∧ isUnkB cs.tail = true then some (kUnk, cs.tail) else none
theorem starts_q (cs : List Nat) : Txt.startswith (S cs) (Str.ofString "?") = decide (cs.head? = some 63) := by
  rw [show Str.ofString "?" = S [63] by decide +kernel]
  unfold Txt.startswith Builtin.Str.subAt
  rw [S_len, S_len]
  cases cs with
  | nil => rfl
  | cons c r =>
    have e : (S (c :: r)).cps.extract 0 (0 + [63].length) = [c].toArray := by simp [S]
    rw [e]
    show (decide (0 + 1 ≤ (c :: r).length) && ([c].toArray == [63].toArray)) = decide (some c = some 63)
    by_cases h : c = 63
    · subst h; simp
    · simp [h]
theorem take_drop {p : Nat → Bool} (cs : List Nat) : cs.take (cs.length - (cs.reverse.takeWhile p).length) = (cs.reverse.dropWhile p).reverse := by
  have h : cs.reverse.takeWhile p ++ cs.reverse.dropWhile p = cs.reverse := List.takeWhile_append_dropWhile
  have h2 : cs = (cs.reverse.dropWhile p).reverse ++ (cs.reverse.takeWhile p).reverse := by
    rw [← List.reverse_append, h, List.reverse_reverse]
  have hl : cs.length = (cs.reverse.dropWhile p).length + (cs.reverse.takeWhile p).length := by
    have := congrArg List.length h2
    rw [List.length_append, List.length_reverse, List.length_reverse] at this
    exact this
  have e : cs.length - (cs.reverse.takeWhile p).length = (cs.reverse.dropWhile p).reverse.length := by rw [List.length_reverse]; omega
  rw [e]
  generalize (cs.reverse.dropWhile p).reverse = X at h2 ⊢
  rw [h2]
  exact List.take_left
theorem rstrip_dig (cs : List Nat) : Txt.rstripChars (S cs) (Str.ofString "0123456789") = S (noDig cs) := by
  have hc : (Str.ofString "0123456789").cps.contains = fun c => digL.contains c := by
    funext c
    show (Str.ofString "0123456789").cps.contains c = (Str.ofString "0123456789").cps.toList.contains c
    rw [Bool.eq_iff_iff]
    simp
  have h1 : stripLo (fun c => digL.contains c) false (S cs) = 0 := rfl
  have h2 : stripHi (fun c => digL.contains c) true (S cs) 0 = cs.length - (cs.reverse.takeWhile fun c => digL.contains c).length := by
    unfold stripHi
    rw [if_pos rfl, S_len]
    rfl
  have h3 := take_drop (p := fun c => digL.contains c) cs
  unfold Txt.rstripChars Txt.stripBy
  rw [hc]
  unfold stripSame stripped
  rw [h1, h2, S_len]
  unfold noDig
  rw [← h3]
  generalize cs.length - (cs.reverse.takeWhile fun c => digL.contains c).length = m
  by_cases e : m = cs.length
  · rw [if_pos (by simp [e]), e, List.take_length]
  · rw [if_neg (by simp [e])]
    unfold Builtin.Str.strSub
    exact TL.ext_tl (by show ((S cs).cps.extract 0 _).toList = _; simp [S])
def spMadeOf : Sp := fun vs H Q _ => ∃ cs ss : List Nat, vs = [.str (S cs), .str (S ss)] ∧ cs.length < 1000000 ∧ ∀ H', Same H H' → Q (.bl (allIn cs ss)) H'
def spTextB (p : List Nat → Bool) : Sp := fun vs H Q _ => ∃ cs : List Nat, vs = [.str (S cs)] ∧ cs.length < 1000000 ∧ ∀ H', Same H H' → Q (.bl (p cs)) H'
section
variable {P : Program} {w : World} {K : PySem.W.Frag} {mg : Str → Option Value} {base : Heap}
theorem all_map_bl (cs : List Nat) (p : Nat → Bool) : (cs.map fun c => V.bl (p c)) = (cs.map p).map V.bl := by rw [List.map_map]; rfl
theorem ca_made_of (T : Bl K mg) (D : Df K mg "made_of" s_made_of p_made_of) : Ca P w K mg base 1 "made_of" spMadeOf := by
  refine ca_n D sc_made_of (fun vs H Q E h => ?_) (fun f cdv A outer s H vs Q E hr h => ?_)
  · obtain ⟨cs, ss, rfl, _⟩ := h
    rfl
  · obtain ⟨cs, ss, rfl, hl, q⟩ := h
    refine ⟨_, (pss_one (ps_ret (pe_callB (cr_all rfl) (by rfl) T.b_all (by decide +kernel) (pa_cons (pe_lc (own := [("sign", 2)]) (g := gName 2) (tt := tYes) rfl sc_made_of.nd (pi_str (pv 0)) (blkOk_by (own := [("sign", 2)]) (N := N_made_of) (sc := defScope s_made_of) (by decide +kernel)) (fun _ _ _ _ _ => pg_name (i := 2) sc_made_of.nd rfl (Or.inl rfl)) (fun _ _ _ _ _ => pts_nil) (fun _ _ _ _ _ => (pe_cmpR oq_insg (pv 2) (pv 1) rfl))) pa_nil)))), ?_⟩
    walk_at "go"
    refine r_lcS1 (fun c => .bl (decide (c ∈ ss))) hl (fun _ => rfl) (fun c H2 R hc hS r => ?_) fun D hD => ?_
    · walk_at "go"
      exact r
    · rw [all_map_bl]
      refine g_all (SqL.of upd_same) ?_
      rw [List.all_map]
      exact q _ (Same.upd hD)
theorem ca_is_word (T : Bl K mg) (D : Df K mg "is_word" s_is_word p_is_word) (c_made_of : Ca P w K mg base 1 "made_of" spMadeOf) : Ca P w K mg base 2 "is_word" (spTextB isWordB) := by
  refine ca_n D sc_is_word (fun vs H Q E h => ?_) (fun f cdv A outer s H vs Q E hr h => ?_)
  · obtain ⟨cs, rfl, _⟩ := h
    rfl
  · obtain ⟨cs, rfl, hl, q⟩ := h
    refine ⟨_, (pss_one (ps_ret (pe_and (pe_chain op_le op_le pe_int (pe_callB cq_lens (by rfl) T.b_len (by decide +kernel) (pa_cons (pv 0) pa_nil)) pe_int) (pe_one (pe_ca c_made_of hr (by decide) (by rfl) (pa_cons (pv 0) (pa_cons (C8.pe_gc (by rfl) T.c_SMALL) pa_nil))))))), ?_⟩
    walk_at "go"
    rw [S_len]
    refine iteD (fun h1 => ?_) (fun h1 => ?_)
    · walk_at "go"
      refine iteD (fun h2 => ?_) (fun h2 => ?_)
      · walk_at "go"
        rw [small_S]
        refine ⟨cs, smallL, rfl, hl, fun H' hS => ?_⟩
        have e : isWordB cs = allIn cs smallL := by unfold isWordB; rw [decide_eq_true (by omega : 1 ≤ cs.length), decide_eq_true (by omega : cs.length ≤ 8)]; rfl
        rw [← e]
        exact q _ hS
      · have e : isWordB cs = false := by unfold isWordB; rw [decide_eq_false (by omega : ¬ cs.length ≤ 8), Bool.false_and, Bool.and_false]
        rw [← e]
        exact q _ (Same.refl _)
    · walk_at "go"
      have e : isWordB cs = false := by unfold isWordB; rw [decide_eq_false (by omega : ¬ 1 ≤ cs.length), Bool.false_and]
      rw [← e]
      exact q _ (Same.refl _)
theorem ca_is_unknown (T : Bl K mg) (D : Df K mg "is_unknown" s_is_unknown p_is_unknown) (c_made_of : Ca P w K mg base 1 "made_of" spMadeOf) : Ca P w K mg base 2 "is_unknown" (spTextB isUnkB) := by
  refine ca_n D sc_is_unknown (fun vs H Q E h => ?_) (fun f cdv A outer s H vs Q E hr h => ?_)
  · obtain ⟨cs, rfl, _⟩ := h
    rfl
  · obtain ⟨cs, rfl, hl, q⟩ := h
    refine ⟨_, (pss_one (ps_ret (pe_and (pe_chain op_le op_le pe_int (pe_callB cq_lens (by rfl) T.b_len (by decide +kernel) (pa_cons (pv 0) pa_nil)) pe_int) (pe_one (pe_ca c_made_of hr (by decide) (by rfl) (pa_cons (pv 0) (pa_cons (C8.pe_gc (by rfl) T.c_SMALL) pa_nil))))))), ?_⟩
    walk_at "go"
    rw [S_len]
    refine iteD (fun h1 => ?_) (fun h1 => ?_)
    · walk_at "go"
      refine iteD (fun h2 => ?_) (fun h2 => ?_)
      · walk_at "go"
        rw [small_S]
        refine ⟨cs, smallL, rfl, hl, fun H' hS => ?_⟩
        have e : isUnkB cs = allIn cs smallL := by unfold isUnkB; rw [decide_eq_true (by omega : 1 ≤ cs.length), decide_eq_true (by omega : cs.length ≤ 7)]; rfl
        rw [← e]
        exact q _ hS
      · have e : isUnkB cs = false := by unfold isUnkB; rw [decide_eq_false (by omega : ¬ cs.length ≤ 7), Bool.false_and, Bool.and_false]
        rw [← e]
        exact q _ (Same.refl _)
    · walk_at "go"
      have e : isUnkB cs = false := by unfold isUnkB; rw [decide_eq_false (by omega : ¬ 1 ≤ cs.length), Bool.false_and]
      rw [← e]
      exact q _ (Same.refl _)
theorem noDig_len (cs : List Nat) : (noDig cs).length ≤ cs.length := by
  unfold noDig
  rw [List.length_reverse, ← List.length_reverse (as := cs)]
  exact List.Sublist.length_le (List.dropWhile_sublist _)
theorem ca_is_name (T : Bl K mg) (D : Df K mg "is_name" s_is_name p_is_name) (c_made_of : Ca P w K mg base 1 "made_of" spMadeOf) : Ca P w K mg base 2 "is_name" (spTextB isNameB) := by
  refine ca_n D sc_is_name (fun vs H Q E h => ?_) (fun f cdv A outer s H vs Q E hr h => ?_)
  · obtain ⟨cs, rfl, _⟩ := h
    rfl
  · obtain ⟨cs, rfl, hl, q⟩ := h
    refine ⟨_, (pss_cons (ps_set (i := 1) sc_is_name.nd rfl (Or.inl rfl) (pe_bm PySem.F.plainAttrs_str PySem.F.slot_str_rstrip PySem.F.type_str_rstrip mq_rstrip (pv 0) (pa_cons (C8.pe_gc (by rfl) T.c_DIGITS) pa_nil)))
  (pss_one (ps_ret (pe_and (pe_cmpR op_le pe_int (pe_callB cq_lens (by rfl) T.b_len (by decide +kernel) (pa_cons (pv 1) pa_nil)) (nomark _)) (pe_and (pe_cmpR op_le (pe_callB cq_lens (by rfl) T.b_len (by decide +kernel) (pa_cons (pv 0) pa_nil)) pe_int (nomark _)) (pe_one (pe_ca c_made_of hr (by decide) (by rfl) (pa_cons (pv 1) (pa_cons (C8.pe_gc (by rfl) T.c_CAPITALS) pa_nil))))))))), ?_⟩
    walk_at "go"
    rw [rstrip_dig]
    have hl2 := Nat.lt_of_le_of_lt (noDig_len cs) hl
    walk_at "go"
    rw [S_len]
    refine iteD (fun h1 => ?_) (fun h1 => ?_)
    · walk_at "go"
      rw [S_len]
      refine iteD (fun h2 => ?_) (fun h2 => ?_)
      · walk_at "go"
        rw [cap_S]
        refine ⟨noDig cs, capL, rfl, hl2, fun H' hS => ?_⟩
        have e : isNameB cs = allIn (noDig cs) capL := by unfold isNameB; rw [decide_eq_true (by omega : 1 ≤ (noDig cs).length), decide_eq_true (by omega : cs.length ≤ 8)]; rfl
        rw [← e]
        exact q _ hS
      · have e : isNameB cs = false := by unfold isNameB; rw [decide_eq_false (by omega : ¬ cs.length ≤ 8), Bool.false_and, Bool.and_false]
        rw [← e]
        exact q _ (Same.refl _)
    · have e : isNameB cs = false := by unfold isNameB; rw [decide_eq_false (by omega : ¬ 1 ≤ (noDig cs).length), Bool.false_and]
      rw [← e]
      exact q _ (Same.refl _)
/-- None, or the tuple of an atom -/
def AtomV (H : Hp) : Option (Str × List Nat) → V → Prop
  | none, v => v = .non
  | some (k, t), v => ∃ p, v = .ref p ∧ H p = some (.tup [.str k, .str (S t)])
def spAtomForm : Sp := fun vs H Q _ => ∃ cs : List Nat, vs = [.str (S cs)] ∧ cs.length < 1000000 ∧ ∀ H' v, Same H H' → AtomV H' (kindOf cs) v → Q v H'
theorem slice_one {cs : List Nat} : Txt.slice (S cs) (some 1) none = S cs.tail := by
  rw [slice_from (by decide)]
  show S (cs.drop 1) = S cs.tail
  rw [List.drop_one]
theorem ca_atom_form (T : Bl K mg) (D : Df K mg "atom_form" s_atom_form p_atom_form) (c_is_word : Ca P w K mg base 2 "is_word" (spTextB isWordB)) (c_is_name : Ca P w K mg base 2 "is_name" (spTextB isNameB)) (c_is_unknown : Ca P w K mg base 2 "is_unknown" (spTextB isUnkB)) :
    Ca P w K mg base 3 "atom_form" spAtomForm := by
  refine ca_n D sc_atom_form (fun vs H Q E h => ?_) (fun f cdv A outer s H vs Q E hr h => ?_)
  · obtain ⟨cs, rfl, _⟩ := h
    rfl
  · obtain ⟨cs, rfl, hl, q⟩ := h
    refine ⟨_, (pss_cons (ps_if (pt_val (pe_ca c_is_word hr (by decide) (by rfl) (pa_cons (pv 0) pa_nil)))
  (pss_one (ps_ret (pe_tup (pa_cons pe_str (pa_cons (pv 0) pa_nil)))))
  pss_nil)
  (pss_cons (ps_if (pt_val (pe_ca c_is_name hr (by decide) (by rfl) (pa_cons (pv 0) pa_nil)))
  (pss_one (ps_ret (pe_tup (pa_cons pe_str (pa_cons (pv 0) pa_nil)))))
  pss_nil)
  (pss_cons (ps_if (PW.pt (pw_and (pt_val (pe_m1 PySem.F.slot_str_startswith PySem.F.type_str_startswith mq_starts (pv 0) pe_str)) (pw_and1 (pt_val (pe_ca c_is_unknown hr (by decide) (by rfl) (pa_cons (pe_slice C8.sl_txt (pv 0) (po_some pe_int) po_none) pa_nil))))))
  (pss_one (ps_ret (pe_tup (pa_cons pe_str (pa_cons (pe_slice C8.sl_txt (pv 0) (po_some pe_int) po_none) pa_nil)))))
  pss_nil)
  (pss_one (ps_ret pe_non))))), ?_⟩
    walk_at "go"
    refine ⟨cs, rfl, hl, fun H1 e1 => ?_⟩
    walk_at "go"
    refine iteB (fun h1 => ?_) (fun h1 => ?_)
    · walk_at "go"
      refine ⟨by show 2 ≤ sizeLine; decide, fun p hp => ?_⟩
      refine q _ _ (e1.trans (Same.upd hp)) ?_
      unfold kindOf
      rw [if_pos h1]
      exact ⟨p, rfl, upd_same⟩
    walk_at "go"
    refine ⟨cs, rfl, hl, fun H2 e2 => ?_⟩
    walk_at "go"
    refine iteB (fun h2 => ?_) (fun h2 => ?_)
    · walk_at "go"
      refine ⟨by show 2 ≤ sizeLine; decide, fun p hp => ?_⟩
      refine q _ _ ((e1.trans e2).trans (Same.upd hp)) ?_
      unfold kindOf
      rw [if_neg (by rw [h1]; decide), if_pos h2]
      exact ⟨p, rfl, upd_same⟩
    walk_at "go"
    rw [starts_q]
    refine iteD (fun h3 => ?_) (fun h3 => ?_)
    · walk_at "go"
      rw [slice_one]
      refine ⟨cs.tail, rfl, by rw [List.length_tail]; omega, fun H3 e3 => ?_⟩
      walk_at "go"
      refine iteB (fun h4 => ?_) (fun h4 => ?_)
      · walk_at "go"
        rw [slice_one]
        refine ⟨by show 2 ≤ sizeLine; decide, fun p hp => ?_⟩
        refine q _ _ (((e1.trans e2).trans e3).trans (Same.upd hp)) ?_
        unfold kindOf
        rw [if_neg (by rw [h1]; decide), if_neg (by rw [h2]; decide), if_pos ⟨h3, h4⟩]
        exact ⟨p, rfl, upd_same⟩
      · walk_at "go"
        refine q _ _ ((e1.trans e2).trans e3) ?_
        unfold kindOf
        rw [if_neg (by rw [h1]; decide), if_neg (by rw [h2]; decide), if_neg (fun z => by rw [h4] at z; exact absurd z.2 (by decide))]
        rfl
    · walk_at "go"
      refine q _ _ (e1.trans e2) ?_
      unfold kindOf
      rw [if_neg (by rw [h1]; decide), if_neg (by rw [h2]; decide), if_neg (fun z => h3 z.1)]
      rfl
end
theorem dig_cap : ∀ c ∈ digL, c ∉ capL := by decide +kernel
theorem cap_dig {c : Nat} (h : c ∈ capL) : digL.contains c = false := by
  cases e : digL.contains c with
  | false => rfl
  | true => exact absurd h (dig_cap c (List.contains_iff_mem.mp e))
theorem allIn_mem {cs ss : List Nat} (h : allIn cs ss = true) : ∀ c ∈ cs, c ∈ ss := fun c hc => of_decide_eq_true (List.all_eq_true.mp h c hc)
theorem allIn_of {cs ss : List Nat} (h : ∀ c ∈ cs, c ∈ ss) : allIn cs ss = true := List.all_eq_true.mpr fun c hc => decide_eq_true (h c hc)
theorem tw_all {p : Nat → Bool} : ∀ (l : List Nat), ∀ c ∈ l.takeWhile p, p c = true
  | [], c, h => by simp at h
  | a :: r, c, h => by
    rw [List.takeWhile_cons] at h
    split at h
    · rename_i ha
      rcases List.mem_cons.mp h with e | h
      · rw [e]; exact ha
      · exact tw_all r c h
    · simp at h
theorem noDig_split (cs : List Nat) : ∃ ds, cs = noDig cs ++ ds ∧ ∀ c ∈ ds, c ∈ digL := by
  refine ⟨(cs.reverse.takeWhile fun c => digL.contains c).reverse, ?_, fun c hc => ?_⟩
  · unfold noDig
    rw [← List.reverse_append, List.takeWhile_append_dropWhile, List.reverse_reverse]
  · exact List.contains_iff_mem.mp (tw_all _ c (List.mem_reverse.mp hc))
theorem noDig_of {as ds : List Nat} (ha : ∀ c ∈ as, c ∈ capL) (hd : ∀ c ∈ ds, c ∈ digL) : noDig (as ++ ds) = as := by
  unfold noDig
  rw [List.reverse_append, List.dropWhile_append_of_pos fun c hc => List.contains_iff_mem.mpr (hd c (List.mem_reverse.mp hc))]
  cases e : as.reverse with
  | nil =>
    have : as = [] := List.reverse_eq_nil_iff.mp e
    rw [this]; rfl
  | cons c r =>
    have hc : c ∈ as := List.mem_reverse.mp (by rw [e]; exact List.mem_cons_self ..)
    rw [List.dropWhile_cons, if_neg (by rw [cap_dig (ha c hc)]; decide), ← e, List.reverse_reverse]
theorem filter_of {as ds : List Nat} (ha : ∀ c ∈ as, c ∈ capL) (hd : ∀ c ∈ ds, c ∈ digL) : (as ++ ds).filter (fun c => decide (c ∈ capL)) = as := by
  rw [List.filter_append, List.filter_eq_self.mpr fun c hc => decide_eq_true (ha c hc), List.filter_eq_nil_iff.mpr fun c hc => by simpa using dig_cap c (hd c hc), List.append_nil]
theorem name_iff {cs : List Nat} (h8 : cs.length ≤ 8) : isNameB cs = true ↔ 0 < (cs.filter fun c => decide (c ∈ capL)).length ∧ allIn (cs.take (cs.filter fun c => decide (c ∈ capL)).length) capL = true ∧ allIn (cs.drop (cs.filter fun c => decide (c ∈ capL)).length) digL = true := by
  constructor
  · intro h
    simp only [isNameB, Bool.and_eq_true, decide_eq_true_eq] at h
    obtain ⟨h1, _, h2⟩ := h
    obtain ⟨ds, e, hd⟩ := noDig_split cs
    have ha := allIn_mem h2
    generalize noDig cs = as at e ha h1 h2
    subst e
    rw [filter_of ha hd, List.take_left, List.drop_left]
    exact ⟨h1, h2, allIn_of hd⟩
  · rintro ⟨h1, h2, h3⟩
    have e := (List.take_append_drop (cs.filter fun c => decide (c ∈ capL)).length cs).symm
    have hn : noDig cs = cs.take (cs.filter fun c => decide (c ∈ capL)).length := by
      conv => lhs; rw [e]
      exact noDig_of (allIn_mem h2) (allIn_mem h3)
    have hl : (cs.filter fun c => decide (c ∈ capL)).length ≤ cs.length := List.length_filter_le _ _
    simp only [isNameB, Bool.and_eq_true, decide_eq_true_eq]
    rw [hn]
    exact ⟨by rw [List.length_take]; omega, h8, h2⟩
theorem name_head {cs : List Nat} (h : isNameB cs = true) : ∃ c r, cs = c :: r ∧ c ∈ capL := by
  simp only [isNameB, Bool.and_eq_true, decide_eq_true_eq] at h
  obtain ⟨h1, _, h2⟩ := h
  obtain ⟨ds, e, _⟩ := noDig_split cs
  cases q : noDig cs with
  | nil => rw [q] at h1; exact absurd h1 (by decide)
  | cons c r =>
    rw [q] at e h2
    exact ⟨c, r ++ ds, e, allIn_mem h2 c (List.mem_cons_self ..)⟩
end Op

namespace Op
open PySem PySem.Spec PyProof.Rows L2 SX
local macro_rules | `(tactic| walk_at "go1") => `(tactic| first
  | ((with_reducible refine' g_var ?h ?_); (case h => rfl)) | with_reducible refine' g_c ?_ | with_reducible refine' g_op ?_ | with_reducible refine' g_un ?_ | with_reducible refine' g_if ?_ | with_reducible refine' g_test ?_ | with_reducible refine' g_B ?_ | with_reducible refine' g_bl ?_
  | with_reducible refine' g_not ?_ | with_reducible refine' g_and ?_ | with_reducible refine' g_or ?_ | with_reducible refine' g_andV ?_ | with_reducible refine' g_orV ?_ | with_reducible refine' g_notV ?_ | with_reducible refine' g_nil ?_ | with_reducible refine' g_cons ?_ | with_reducible refine' g_CB ?_ | with_reducible refine' g_ca ?_
  | with_reducible refine' g_seq ?_ | with_reducible refine' g_next ?_ | with_reducible refine' g_asg ?_ | with_reducible refine' g_name ?_ | with_reducible refine' g_ret ?_ | with_reducible refine' g_retN ?_ | with_reducible refine' g_drop ?_ | with_reducible refine' g_ifS ?_ | with_reducible refine' g_sub ?_
  | with_reducible refine' g_I0 ?_ | with_reducible refine' g_U ?_ | ((with_reducible refine' g_eq ?h ?_); (case h => rfl)) | ((with_reducible refine' g_ne ?h ?_); (case h => rfl))
  | ((with_reducible refine' g_lenL ?h ?_); (case h => first | assumption | exact SqL.of (by assumption) | exact SqL.of upd_same)) | ((with_reducible refine' g_lenT ?h ?_); (case h => first | assumption | exact SqT.of (by assumption) | exact SqT.of upd_same))
  | ((with_reducible refine' g_ixL ?h ?ha ?_); (case h => first | assumption | exact SqL.of (by assumption) | exact SqL.of upd_same); (case ha => rfl)) | ((with_reducible refine' g_ixT ?h ?ha ?_); (case h => first | assumption | exact SqT.of (by assumption) | exact SqT.of upd_same); (case ha => rfl))
  | ((with_reducible refine' g_I ?h ?_); (case h => first | decide | omega | (first | refine' ⟨?_, ?_, ?_⟩ | refine' ⟨?_, ?_⟩ | refine' Or.inl ⟨?_, ?_⟩) <;> omega | (refine' Or.inr ⟨?_, ?_⟩ <;> omega)))
  | ((with_reducible refine' g_setL ?h ?ha ?_); (case h => first | assumption | exact upd_same); (case ha => rfl))
  | with_reducible refine' g_lcR ?_
  | with_reducible refine' g_M1 ?_ | with_reducible refine' g_isS ?_ | with_reducible refine' g_tyS ?_ | ((with_reducible refine' g_tyL ?h ?_); (case h => first | assumption | exact upd_same))
  | ((with_reducible refine' g_cat ?h ?h2 ?hl ?_); (case h => first | assumption | exact upd_same); (case h2 => first | assumption | exact upd_same); (case hl => first | decide | (simp; omega)))
  | with_reducible refine' g_lcS ?_
  | with_reducible refine' g_starts ?_ | with_reducible refine' g_chain ?_
  | ((with_reducible refine' g_lenS ?h ?_); (case h => first | exact len_le (by assumption) | exact len_le (by omega))) | ((with_reducible refine' g_rstrip ?h ?_); (case h => first | exact len_le (by assumption) | exact len_le (by omega))) | ((with_reducible refine' g_slX ?h ?_); (case h => first | exact len_le (by assumption) | exact len_le (by omega)))
  | with_reducible refine' g_sl ?_ | with_reducible refine' g_nopart ?_ | with_reducible refine' g_part ?_ | with_reducible refine' g_isI ?_
  | with_reducible refine' g_tru ?_
  | with_reducible refine' iteT ?_ | with_reducible refine' iteF ?_ | with_reducible refine' iteNT ?_ | with_reducible refine' iteNF ?_
  | with_reducible refine' g_int ?_ | with_reducible refine' g_insg ?_ | with_reducible refine' g_ninsg ?_ | with_reducible refine' g_isN ?_ | with_reducible refine' g_notN ?_ | with_reducible refine' g_lst ?_ | with_reducible refine' g_tup ?_ | with_reducible refine' g_BM ?_ | with_reducible refine' g_BM0 ?_)
local macro_rules | `(tactic| walk_at "go") => `(tactic| repeat' walk_at "go1")
/-! ## forms -/
/-- a form: an atom with its text, one or two inner forms -/
inductive Fm where
  | atm (k : Str) (t : List Nat) | un (k : Str) (a : Fm) | bi (k : Str) (a b : Fm)
/-- the form stands at v, of tuples -/
inductive FmAt (H : Hp) : V → Fm → Prop where
  | atm {p : Addr} {k : Str} {t : List Nat} : H p = some (.tup [.str k, .str (S t)]) → FmAt H (.ref p) (.atm k t)
  | un {p : Addr} {k : Str} {v : V} {a : Fm} : H p = some (.tup [.str k, v]) → FmAt H v a → FmAt H (.ref p) (.un k a)
  | bi {p : Addr} {k : Str} {v u : V} {a b : Fm} : H p = some (.tup [.str k, v, u]) → FmAt H v a → FmAt H u b → FmAt H (.ref p) (.bi k a b)
theorem FmAt.tps {H H' : Hp} (s : Tps H H') : ∀ {v : V} {a : Fm}, FmAt H v a → FmAt H' v a := by
  intro v a h
  induction h with
  | atm h => exact .atm (s _ _ h)
  | un h _ ih => exact .un (s _ _ h) ih
  | bi h _ _ ih1 ih2 => exact .bi (s _ _ h) ih1 ih2
theorem FmAt.same {H H' : Hp} {v : V} {a : Fm} (h : FmAt H v a) (s : Same H H') : FmAt H' v a := h.tps (Tps.same s)
abbrev kMark : Str := Str.ofString "mark"
abbrev kOpen : Str := Str.ofString "open"
abbrev kOwn : Str := Str.ofString "own"
abbrev kPair : Str := Str.ofString "pair"
abbrev kSeal : Str := Str.ofString "seal"
abbrev kLock : Str := Str.ofString "lock"
def unK (k : Str) : Bool := k == kMark || k == kOpen || k == kOwn
def biK (k : Str) : Bool := k == kPair || k == kSeal || k == kLock
def atK (k : Str) : Bool := k == kWord || k == kName || k == kUnk
def Fm.head : Fm → Str
  | .atm k _ => k
  | .un k _ => k
  | .bi k _ _ => k
/-- the form's words are of the right kind -/
def Fm.kin : Fm → Bool
  | .atm k _ => atK k
  | .un k a => unK k && a.kin
  | .bi k a b => biK k && (a.kin && b.kin)
def Fm.isKey : Fm → Bool
  | .un k _ => k == kOpen || k == kOwn
  | _ => false
/-- a form, as the document says -/
def Fm.ok : Fm → Bool
  | .atm k t => (k == kWord && isWordB t) || ((k == kName && isNameB t) || (k == kUnk && isUnkB t))
  | .un k a => unK k && a.ok
  | .bi k a b => biK k && ((!(k == kLock) || b.isKey) && (a.ok && b.ok))
theorem Fm.ok_kin : ∀ {a : Fm}, a.ok = true → a.kin = true
  | .atm k t, h => by
    simp only [Fm.ok, Bool.or_eq_true, Bool.and_eq_true] at h
    simp only [Fm.kin, atK, Bool.or_eq_true]
    rcases h with h | h | h
    · exact .inl (.inl h.1)
    · exact .inl (.inr h.1)
    · exact .inr h.1
  | .un k a, h => by
    simp only [Fm.ok, Bool.and_eq_true] at h
    simp only [Fm.kin, Bool.and_eq_true]
    exact ⟨h.1, Fm.ok_kin h.2⟩
  | .bi k a b, h => by
    simp only [Fm.ok, Bool.and_eq_true] at h
    simp only [Fm.kin, Bool.and_eq_true]
    exact ⟨h.1, Fm.ok_kin h.2.2.1, Fm.ok_kin h.2.2.2⟩
/-- how many forms stand in it -/
def Fm.size : Fm → Nat
  | .atm _ _ => 1
  | .un _ a => a.size + 1
  | .bi _ a b => a.size + b.size + 1
theorem Fm.size_pos : ∀ a : Fm, 0 < a.size
  | .atm _ _ => Nat.one_pos
  | .un _ _ => Nat.succ_pos _
  | .bi _ _ _ => Nat.succ_pos _
/-- the text of an atom -/
def atTxt (k : Str) (t : List Nat) : List Nat := if k = kUnk then 63 :: t else t
/-- the written letter -/
def Fm.txt : Fm → List Nat
  | .atm k t => atTxt k t
  | .un k a => k.cps.toList ++ [40] ++ a.txt ++ [41]
  | .bi k a b => k.cps.toList ++ [40] ++ a.txt ++ [44, 32] ++ b.txt ++ [41]
/-- every text in it is short -/
def Fm.small : Fm → Prop
  | .atm k t => t.length ≤ 8
  | .un _ a => a.small
  | .bi _ a b => a.small ∧ b.small
theorem Fm.ok_small : ∀ {a : Fm}, a.ok = true → a.small
  | .atm k t, h => by
    simp only [Fm.ok, Bool.or_eq_true, Bool.and_eq_true, isWordB, isNameB, isUnkB, decide_eq_true_eq] at h
    show t.length ≤ 8
    omega
  | .un k a, h => by
    simp only [Fm.ok, Bool.and_eq_true] at h
    show a.small
    exact Fm.ok_small h.2
  | .bi k a b, h => by
    simp only [Fm.ok, Bool.and_eq_true] at h
    exact ⟨Fm.ok_small h.2.2.1, Fm.ok_small h.2.2.2⟩
/-! what stands on form_text's stack -/
inductive It2 where
  | s (z : List Nat) | f (a : Fm)
def It2.txt : It2 → List Nat
  | .s z => z
  | .f a => a.txt
def Fm.wt : Fm → Nat
  | .atm _ _ => 1
  | .un _ a => a.wt + 3
  | .bi _ a b => a.wt + b.wt + 5
def It2.wt : It2 → Nat
  | .s _ => 1
  | .f a => a.wt
def It2.good : It2 → Prop
  | .s _ => True
  | .f a => a.kin = true ∧ a.small
def ItAt (H : Hp) (v : V) : It2 → Prop
  | .s z => v = .str (S z)
  | .f a => FmAt H v a
theorem ItAt.tps {H H' : Hp} {v : V} {x : It2} (t : Tps H H') (h : ItAt H v x) : ItAt H' v x := by
  cases x with
  | s z => exact h
  | f a => exact FmAt.tps t h
theorem Fm.wt_pos (a : Fm) : 0 < a.wt := by cases a <;> simp [Fm.wt]
theorem Fm.wt_le : ∀ a : Fm, a.wt ≤ 5 * a.size
  | .atm _ _ => by simp [Fm.wt, Fm.size]
  | .un _ a => by have := Fm.wt_le a; simp only [Fm.wt, Fm.size]; omega
  | .bi _ a b => by have := Fm.wt_le a; have := Fm.wt_le b; simp only [Fm.wt, Fm.size]; omega
theorem unK_len {k : Str} (h : unK k = true) : k.cps.toList.length ≤ 7 := by
  simp only [unK, Bool.or_eq_true, beq_iff_eq] at h
  rcases h with (rfl | rfl) | rfl <;> decide +kernel
theorem biK_len {k : Str} (h : biK k = true) : k.cps.toList.length ≤ 7 := by
  simp only [biK, Bool.or_eq_true, beq_iff_eq] at h
  rcases h with (rfl | rfl) | rfl <;> decide +kernel
theorem atTxt_len {k : Str} {t : List Nat} : (atTxt k t).length ≤ t.length + 1 := by
  unfold atTxt
  split
  · simp
  · omega
theorem Fm.txt_len : ∀ {a : Fm}, a.kin = true → a.small → a.txt.length ≤ 20 * a.size
  | .atm k t, _, h => by
    have h' : t.length ≤ 8 := h
    have := atTxt_len (k := k) (t := t)
    show (atTxt k t).length ≤ 20 * 1
    omega
  | .un k a, h, hs => by
    simp only [Fm.kin, Bool.and_eq_true] at h
    have hs' : a.small := hs
    have h1 := unK_len h.1
    have h2 := Fm.txt_len h.2 hs'
    simp only [Fm.txt, Fm.size, List.length_append, List.length_cons, List.length_nil]
    omega
  | .bi k a b, h, hs => by
    simp only [Fm.kin, Bool.and_eq_true] at h
    have hs' : a.small ∧ b.small := hs
    have h1 := biK_len h.1
    have h2 := Fm.txt_len h.2.1 hs'.1
    have h3 := Fm.txt_len h.2.2 hs'.2
    simp only [Fm.txt, Fm.size, List.length_append, List.length_cons, List.length_nil]
    omega
theorem joinL_nil : ∀ zs : List (List Nat), TL.joinL [] zs = zs.flatten
  | [] => rfl
  | [p] => by simp [TL.joinL]
  | p :: q :: r => by
    have ih := joinL_nil (q :: r)
    show p ++ ([] ++ TL.joinL [] (q :: r)) = p ++ (q :: r).flatten
    rw [ih]
    rfl
theorem join_flat (zs : List (List Nat)) : Txt.join (Str.ofString "") (zs.map S) = S zs.flatten := by
  rw [show Str.ofString "" = S [] by decide +kernel, join_S, joinL_nil]
theorem sum_flat : ∀ zs : List (List Nat), ((zs.map S).map (·.length)).sum = zs.flatten.length
  | [] => rfl
  | z :: r => by
    have ih := sum_flat r
    show (S z).length + ((r.map S).map (·.length)).sum = (z ++ r.flatten).length
    rw [ih, S_len, List.length_append]
/-- the loop's word: zs the pieces, st the stack from its top -/
def FtW (H0 : Hp) (v : V) (a : Fm) (pp pl : Addr) (m : Nat) (σ : L2.St) (H : Hp) : Prop := ∃ (zs : List (List Nat)) (st : List (V × It2)) (px : Option V), σ = [some v, some (.ref pp), some (.ref pl), px] ∧ Same H0 H ∧
  H pp = some (.lst (zs.map fun z => .str (S z))) ∧ H pl = some (.lst (st.map (·.1)).reverse) ∧ (∀ x ∈ st, ItAt H x.1 x.2 ∧ x.2.good) ∧
  zs.flatten ++ (st.map fun x => x.2.txt).flatten = a.txt ∧ m = (st.map fun x => x.2.wt).sum ∧ zs.length + m ≤ a.wt
def spAtomText : Sp := fun vs H Q _ => ∃ (p : Addr) (k : Str) (t : List Nat), vs = [.ref p] ∧ H p = some (.tup [.str k, .str (S t)]) ∧ t.length < 1000000 ∧ Q (.str (S (atTxt k t))) H
def spFormText : Sp := fun vs H Q _ => ∃ (v : V) (a : Fm), vs = [v] ∧ FmAt H v a ∧ a.kin = true ∧ a.small ∧ a.size ≤ 10000 ∧ ∀ H', Same H H' → Q (.str (S a.txt)) H'
section
variable {P : Program} {w : World} {K : PySem.W.Frag} {mg : Str → Option Value} {base : Heap}
theorem ca_atom_text (T : Bl K mg) (D : Df K mg "atom_text" s_atom_text p_atom_text) : Ca P w K mg base 1 "atom_text" spAtomText := by
  refine ca_n D sc_atom_text (fun vs H Q E h => ?_) (fun f cdv A outer s H vs Q E hr h => ?_)
  · obtain ⟨p, k, t, rfl, _⟩ := h
    rfl
  · obtain ⟨p, k, t, rfl, hp, hl, q⟩ := h
    refine ⟨_, (pss_cons (ps_if (pt_cmpR op_eq (pe_ix ix_tup (pv 0) pe_int (fun _ _ => rfl)) pe_str (nomark _))
  (pss_one (ps_ret (pe_op oq_adds pe_str (pe_ix ix_tup (pv 0) pe_int (fun _ _ => rfl)))))
  pss_nil)
  (pss_one (ps_ret (pe_ix ix_tup (pv 0) pe_int (fun _ _ => rfl))))), ?_⟩
    walk_at "go"
    refine iteD (fun h => ?_) (fun h => ?_)
    · walk_at "go"
      refine g_catS (by rw [S_len, sizeLine_eq]; exact Nat.le_trans (Nat.add_le_add_left (Nat.le_of_lt hl) _) (by decide +kernel)) ?_
      have e : k = kUnk := V.str.inj h
      have e2 : Str.ofString "?" ++ S t = S (atTxt k t) := by
        unfold atTxt
        rw [if_pos e, show Str.ofString "?" = S [63] by decide +kernel, S_cat]
        rfl
      rw [e2]
      exact q
    · walk_at "go"
      have e2 : S t = S (atTxt k t) := by
        unfold atTxt
        rw [if_neg fun z => h (congrArg V.str z)]
      rw [e2]
      exact q
theorem FtW.piece {H0 H1 : Hp} {v : V} {a : Fm} {pp pl : Addr} {m : Nat} {zs : List (List Nat)} {r : List (V × It2)} {px : Option V} {x : It2} {z : List Nat} {ys : List V} (sH : Same H0 H1) (hpp : H0 pp = none) (hpl : H0 pl = none) (npl : pp ≠ pl)
    (h1 : H1 pp = some (.lst (zs.map fun z => .str (S z)))) (h2 : H1 pl = some (.lst ys)) (h3 : ∀ y ∈ r, ItAt H1 y.1 y.2 ∧ y.2.good) (h4 : zs.flatten ++ (x.txt ++ (r.map fun x => x.2.txt).flatten) = a.txt) (hz : x.txt = z) (hw : 0 < x.wt)
    (h5 : m = x.wt + (r.map fun x => x.2.wt).sum) (h6 : zs.length + m ≤ a.wt) :
    ∃ m', m' < m ∧ FtW H0 v a pp pl m' [some v, some (.ref pp), some (.ref pl), px] (L2.upd (L2.upd H1 pl (.lst (r.map (·.1)).reverse)) pp (.lst ((zs.map fun z => .str (S z)) ++ [.str (S z)]))) := by
  have t1 : Tps H1 (L2.upd H1 pl (.lst (r.map (·.1)).reverse)) := Tps.lst h2
  have hp1 : L2.upd H1 pl (.lst (r.map (·.1)).reverse) pp = some (.lst (zs.map fun z => .str (S z))) := by rw [upd_ne npl]; exact h1
  refine ⟨(r.map fun x => x.2.wt).sum, by omega, zs ++ [z], r, _, rfl, Same.mut (Same.mut sH hpl) hpp, ?_, ?_, fun y hy => ⟨ItAt.tps (t1.trans (Tps.lst hp1)) (h3 y hy).1, (h3 y hy).2⟩, ?_, rfl, ?_⟩
  · rw [upd_same, List.map_append]; rfl
  · rw [upd_ne npl.symm, upd_same]
  · rw [← h4, ← hz]; simp
  · rw [List.length_append, List.length_singleton]
    omega
/-- .. where the part opened is put back in pieces -/
theorem FtW.open {H0 H1 H2 : Hp} {v : V} {a : Fm} {pp pl : Addr} {m : Nat} {zs : List (List Nat)} {r st : List (V × It2)} {px : Option V} {x : It2} (sH : Same H0 H2) (t : Tps H1 H2)
    (h1 : H2 pp = some (.lst (zs.map fun z => .str (S z)))) (h2 : H2 pl = some (.lst (st.map (·.1)).reverse)) (hst : ∀ y ∈ st, y ∈ r ∨ (ItAt H2 y.1 y.2 ∧ y.2.good)) (h3 : ∀ y ∈ r, ItAt H1 y.1 y.2 ∧ y.2.good) (h4 : zs.flatten ++ (x.txt ++ (r.map fun x => x.2.txt).flatten) = a.txt)
    (hz : (st.map fun x => x.2.txt).flatten = x.txt ++ (r.map fun x => x.2.txt).flatten) (hw : (st.map fun x => x.2.wt).sum + 1 ≤ x.wt + (r.map fun x => x.2.wt).sum) (h5 : m = x.wt + (r.map fun x => x.2.wt).sum) (h6 : zs.length + m ≤ a.wt) :
    ∃ m', m' < m ∧ FtW H0 v a pp pl m' [some v, some (.ref pp), some (.ref pl), px] H2 := by
  refine ⟨(st.map fun x => x.2.wt).sum, by omega, zs, st, _, rfl, sH, h1, h2, fun y hy => ?_, by rw [hz, h4], rfl, by omega⟩
  rcases hst y hy with q | q
  · exact ⟨ItAt.tps t (h3 y q).1, (h3 y q).2⟩
  · exact q
theorem It2.wt_pos (x : It2) : 0 < x.wt := by
  cases x with
  | s z => exact Nat.one_pos
  | f a => exact Fm.wt_pos a
theorem wt_len : ∀ r : List (V × It2), r.length ≤ (r.map fun x => x.2.wt).sum
  | [] => Nat.le_refl _
  | x :: r => by
    have ih := wt_len r
    have h := It2.wt_pos x.2
    show r.length + 1 ≤ x.2.wt + (r.map fun x => x.2.wt).sum
    omega
theorem len_lp : (Str.ofString "(").length = 1 := by decide +kernel
theorem unK_at {k : Str} (h : unK k = true) : atK k = false := by
  simp only [unK, Bool.or_eq_true, beq_iff_eq] at h
  rcases h with (rfl | rfl) | rfl <;> decide +kernel
theorem biK_at {k : Str} (h : biK k = true) : atK k = false := by
  simp only [biK, Bool.or_eq_true, beq_iff_eq] at h
  rcases h with (rfl | rfl) | rfl <;> decide +kernel
theorem str_len (k : Str) : k.length = k.cps.toList.length := by simp [Str.length]
theorem paren (k : Str) : k ++ Str.ofString "(" = S (k.cps.toList ++ [40]) := by
  rw [show Str.ofString "(" = S [40] by decide +kernel, ← S_cat, S_tl]
theorem inV_atoms (k : Str) : inV (.str k) [V.str kWord, V.str kName, V.str kUnk] = atK k := by
  show (eqV (.str kWord) (.str k) || (eqV (.str kName) (.str k) || (eqV (.str kUnk) (.str k) || false))) = _
  show ((kWord == k) || ((kName == k) || ((kUnk == k) || false))) = ((k == kWord || k == kName) || k == kUnk)
  rw [Bool.or_false, Bool.or_assoc, BEq.comm (a := kWord), BEq.comm (a := kName), BEq.comm (a := kUnk)]
theorem ca_form_text (T : Bl K mg) (D : Df K mg "form_text" s_form_text p_form_text) (c_atom_text : Ca P w K mg base 1 "atom_text" spAtomText) : Ca P w K mg base 2 "form_text" spFormText := by
  obtain ⟨aA, hA, tA⟩ := T.t_ATOMS
  have c_ATOMS : ∃ u, mg "ATOMS" = some u ∧ RelV (.ref aA) u := ⟨_, hA, rfl⟩
  refine ca_n D sc_form_text (fun vs H Q E h => ?_) (fun f cdv A outer s H vs Q E hr h => ?_)
  · obtain ⟨v, a, rfl, _⟩ := h
    rfl
  · obtain ⟨v, a, rfl, ha, hk, hs, hz, q⟩ := h
    refine ⟨_, (pss_cons (ps_set (i := 1) sc_form_text.nd rfl (Or.inl rfl) (pe_lst pa_nil))
  (pss_cons (ps_set (i := 2) sc_form_text.nd rfl (Or.inl rfl) (pe_lst (pa_cons (pv 0) pa_nil)))
  (pss_cons (ps_while PassesOwn.never (pq_truth (pv 2) (by intro _; rfl))
  (pss_cons (ps_set (i := 3) sc_form_text.nd rfl (Or.inl rfl) (pe_bm0 PySem.F.plainAttrs_list PySem.F.slot_list_pop PySem.F.type_list_pop mt_pop (pv 2)))
  (pss_one (ps_if (pt_val (pe_callB call_isi (by rfl) T.b_isinstance (by decide +kernel) (pa_cons (pv 3) (pa_cons (pe_bltn (v := .ty "str") (u := .type "str") (by rfl) T.b_str (by decide +kernel) rfl) pa_nil))))
  (pss_one (ps_expr (pe_bm PySem.F.plainAttrs_list PySem.F.slot_list_append PySem.F.type_list_append mt_append (pv 1) (pa_cons (pv 3) pa_nil))))
  (pss_one (ps_if (pt_cmpR op_in_seq (pe_ix ix_tup (pv 3) pe_int (fun _ _ => rfl)) (C8.pe_gc (by rfl) c_ATOMS) rfl)
  (pss_one (ps_expr (pe_bm PySem.F.plainAttrs_list PySem.F.slot_list_append PySem.F.type_list_append mt_append (pv 1) (pa_cons (pe_ca c_atom_text hr (by decide) (by rfl) (pa_cons (pv 3) pa_nil)) pa_nil))))
  (pss_cons (ps_expr (pe_bm PySem.F.plainAttrs_list PySem.F.slot_list_append PySem.F.type_list_append mt_append (pv 2) (pa_cons pe_str pa_nil)))
  (pss_cons (ps_if (pt_cmpR op_eq (pe_callB cq_len (by rfl) T.b_len (by decide +kernel) (pa_cons (pv 3) pa_nil)) pe_int (nomark _))
  (pss_one (ps_expr (pe_bm PySem.F.plainAttrs_list PySem.F.slot_list_extend PySem.F.type_list_extend mt_extend (pv 2) (pa_cons (pe_lst (pa_cons (pe_ix ix_tup (pv 3) pe_int (fun _ _ => rfl)) (pa_cons pe_str pa_nil))) pa_nil))))
  pss_nil)
  (pss_one (ps_expr (pe_bm PySem.F.plainAttrs_list PySem.F.slot_list_extend PySem.F.type_list_extend mt_extend (pv 2) (pa_cons (pe_lst (pa_cons (pe_ix ix_tup (pv 3) pe_int (fun _ _ => rfl)) (pa_cons (pe_op oq_adds (pe_ix ix_tup (pv 3) pe_int (fun _ _ => rfl)) pe_str) pa_nil))) pa_nil))))))))))))
  (pss_one (ps_ret (pq_join pe_str (pv 1))))))), ?_⟩
    walk_at "go"
    refine ⟨Nat.zero_le _, fun pp hpp => ?_⟩
    walk_at "go"
    refine ⟨by show 1 ≤ sizeLine; decide, fun pl hpl => ?_⟩
    walk_at "go"
    have hpl0 : H pl = none := (But.none (a := pp) But.upd hpl (fun e => by rw [e, upd_same] at hpl; cases hpl))
    have npl : pp ≠ pl := fun e => by rw [← e, upd_same] at hpl; cases hpl
    refine g_while (FtW H v a pp pl) a.wt ⟨[], [(v, .f a)], none, rfl, (Same.upd hpp).trans (Same.upd hpl), by rw [upd_ne npl, upd_same]; rfl, upd_same, ?_, by simp [It2.txt], by simp [It2.wt], Nat.le_of_eq (Nat.zero_add _)⟩ ?_
    · intro x hx
      rw [List.mem_singleton.mp hx]
      exact ⟨ha.tps ((Tps.new hpp).trans (Tps.new hpl)), hk, hs⟩
    · rintro m σ' H1 ⟨zs, st, px, rfl, sH, h1, h2, h3, h4, h5, h6⟩
      walk_at "go"
      refine g_truL (SqL.of h2) ?_
      cases st with
      | nil =>
        refine iteF ?_
        walk_at "go"
        have e : a.txt = zs.flatten := by rw [← h4]; simp
        have hl : a.txt.length ≤ 20 * a.size := Fm.txt_len hk hs
        refine g_join (ys := zs.map S) (by rw [List.map_map]; exact SqL.of h1) ?_ ?_
        · rw [sum_flat, ← e, show (Str.ofString "").length = 0 by decide +kernel]
          omega
        · rw [join_flat, ← e]
          exact q _ sH
      | cons hd r =>
        obtain ⟨u, x⟩ := hd
        obtain ⟨hx, hg⟩ := h3 (u, x) (List.mem_cons_self ..)
        have h3r : ∀ y ∈ r, ItAt H1 y.1 y.2 ∧ y.2.good := fun y hy => h3 y (List.mem_cons_of_mem _ hy)
        have e0 : (!(List.map (fun x => x.fst) ((u, x) :: r)).reverse.isEmpty) = true := by simp
        rw [e0]
        refine iteT ⟨_, fun _ _ n => n, ?_⟩
        walk_at "go"
        refine g_pop (xs := (r.map (·.1)).reverse) (by rw [h2, List.map_cons, List.reverse_cons]) ?_
        walk_at "go"
        have t1 : Tps H1 (L2.upd H1 pl (.lst (r.map (·.1)).reverse)) := Tps.lst h2
        cases x with
        | s z =>
          have hx' : u = .str (S z) := hx
          subst hx'
          refine g_isi (.ty _) (.base (.str _)) (kit_ty (b := "str") (r := true) (by decide +kernel)) ?_
          have hp1 : L2.upd H1 pl (.lst (r.map (·.1)).reverse) pp = some (.lst (zs.map fun z => .str (S z))) := by rw [upd_ne npl]; exact h1
          walk_at "go"
          refine g_app hp1 (by rw [List.length_map, sizeLine_eq]; have := Fm.wt_le a; omega) ?_
          exact FtW.piece (x := .s z) sH hpp hpl0 npl h1 h2 h3r h4 rfl Nat.one_pos h5 h6
        | f b =>
          have hb : FmAt H1 u b := hx
          have hg' : b.kin = true ∧ b.small := hg
          have hp1 : L2.upd H1 pl (.lst (r.map (·.1)).reverse) pp = some (.lst (zs.map fun z => .str (S z))) := by rw [upd_ne npl]; exact h1
          have hzl : zs.length < 1000000 := by have := Fm.wt_le a; omega
          have hrl : r.length < 1000000 := by
            have := Fm.wt_le a
            have := wt_len ((u, It2.f b) :: r)
            rw [List.length_cons] at this
            omega
          cases hb with
          | @atm p k t ep =>
            have ep1 := t1 _ _ ep
            refine g_isi (.ty _) (.base (.tup ep1)) (kit_ty (b := "str") (r := false) (by decide +kernel)) ?_
            walk_at "go"
            refine g_inT (tA _) rfl rfl ?_
            rw [inV_atoms, show atK k = true from hg'.1]
            walk_at "go"
            have ht : t.length ≤ 8 := hg'.2
            refine ⟨p, k, t, rfl, ep1, by omega, ?_⟩
            walk_at "go"
            refine g_app hp1 (by rw [List.length_map, sizeLine_eq]; omega) ?_
            exact FtW.piece (x := .f (.atm k t)) sH hpp hpl0 npl h1 h2 h3r h4 rfl Nat.one_pos h5 h6
          | @un p k v1 b1 ep hb1 =>
            have ep1 := t1 _ _ ep
            refine g_isi (.ty _) (.base (.tup ep1)) (kit_ty (b := "str") (r := false) (by decide +kernel)) ?_
            walk_at "go"
            refine g_inT (tA _) rfl rfl ?_
            have hk1 : unK k = true ∧ b1.kin = true := by
              have z := hg'.1
              simp only [Fm.kin, Bool.and_eq_true] at z
              exact z
            rw [inV_atoms, unK_at hk1.1]
            walk_at "go"
            refine g_app upd_same (by rw [List.length_reverse, List.length_map, sizeLine_eq]; omega) ?_
            rw [upd_upd]
            have ep2 : L2.upd H1 pl (.lst ((r.map (·.1)).reverse ++ [.str (Str.ofString ")")])) p = some (.tup [.str k, v1]) := Tps.lst h2 _ _ ep
            walk_at "go"
            refine iteD (fun h => absurd (V.int.inj h) (by simp)) (fun _ => ?_)
            walk_at "go"
            refine g_catS (by rw [str_len, sizeLine_eq]; have := unK_len hk1.1; rw [len_lp]; omega) ?_
            walk_at "go"
            refine ⟨by show 2 ≤ sizeLine; decide, fun p2 hp2 => ?_⟩
            walk_at "go"
            have n2 : pl ≠ p2 := fun e => by rw [← e, upd_same] at hp2; cases hp2
            have n3 : H1 p2 = none := by rw [upd_ne n2.symm] at hp2; exact hp2
            refine g_ext (by rw [upd_ne n2]; exact upd_same) upd_same (by rw [List.length_append, List.length_reverse, List.length_map, sizeLine_eq]; show r.length + 1 + 2 ≤ _; omega) ?_
            have tt : Tps H1 (L2.upd (L2.upd (L2.upd H1 pl (.lst ((r.map (·.1)).reverse ++ [.str (Str.ofString ")")]))) p2 (.lst [v1, .str (k ++ Str.ofString "(")])) pl (.lst (((r.map (·.1)).reverse ++ [.str (Str.ofString ")")]) ++ [v1, .str (k ++ Str.ofString "(")]))) :=
              ((Tps.lst h2).trans (Tps.new hp2)).trans (Tps.lst (xs := (r.map (·.1)).reverse ++ [.str (Str.ofString ")")]) (by rw [upd_ne n2]; exact upd_same))
            refine FtW.open (x := .f (.un k b1)) (st := (.str (k ++ Str.ofString "("), .s (k.cps.toList ++ [40])) :: (v1, .f b1) :: (.str (Str.ofString ")"), .s [41]) :: r) (r := r) (Same.mut (Same.mut (Same.mut sH hpl0) (Same.free sH n3)) hpl0) tt ?_ ?_ ?_ h3r h4 ?_ ?_ h5 h6
            · rw [upd_ne npl, upd_ne (fun e => by rw [← e, upd_ne npl, h1] at hp2; cases hp2), upd_ne npl]
              exact h1
            · rw [upd_same]; simp
            · intro y hy
              rcases List.mem_cons.mp hy with rfl | hy
              · exact .inr ⟨by show V.str _ = V.str _; rw [paren], trivial⟩
              rcases List.mem_cons.mp hy with rfl | hy
              · exact .inr ⟨hb1.tps tt, hk1.2, hg'.2⟩
              rcases List.mem_cons.mp hy with rfl | hy
              · exact .inr ⟨by show V.str _ = V.str _; rw [show Str.ofString ")" = S [41] by decide +kernel], trivial⟩
              · exact .inl hy
            · simp [It2.txt, Fm.txt]
            · simp only [List.map_cons, List.sum_cons, It2.wt, Fm.wt]
              omega
          | @bi p k v1 v2 b1 b2 ep hb1 hb2 =>
            have ep1 := t1 _ _ ep
            refine g_isi (.ty _) (.base (.tup ep1)) (kit_ty (b := "str") (r := false) (by decide +kernel)) ?_
            walk_at "go"
            refine g_inT (tA _) rfl rfl ?_
            have hk1 : biK k = true ∧ b1.kin = true ∧ b2.kin = true := by
              have z := hg'.1
              simp only [Fm.kin, Bool.and_eq_true] at z
              exact z
            have hsm : b1.small ∧ b2.small := hg'.2
            rw [inV_atoms, biK_at hk1.1]
            walk_at "go"
            refine g_app upd_same (by rw [List.length_reverse, List.length_map, sizeLine_eq]; omega) ?_
            rw [upd_upd]
            have ep2 : L2.upd H1 pl (.lst ((r.map (·.1)).reverse ++ [.str (Str.ofString ")")])) p = some (.tup [.str k, v1, v2]) := Tps.lst h2 _ _ ep
            walk_at "go"
            refine iteD (fun _ => ?_) (fun h => absurd rfl h)
            walk_at "go"
            refine ⟨by show 2 ≤ sizeLine; decide, fun p2 hp2 => ?_⟩
            walk_at "go"
            have n2 : pl ≠ p2 := fun e => by rw [← e, upd_same] at hp2; cases hp2
            have n3 : H1 p2 = none := by rw [upd_ne n2.symm] at hp2; exact hp2
            refine g_ext (by rw [upd_ne n2]; exact upd_same) upd_same (by rw [List.length_append, List.length_reverse, List.length_map, sizeLine_eq]; show r.length + 1 + 2 ≤ _; omega) ?_
            have tt2 : Tps H1 (L2.upd (L2.upd (L2.upd H1 pl (.lst ((r.map (·.1)).reverse ++ [.str (Str.ofString ")")]))) p2 (.lst [v2, .str (Str.ofString ", ")])) pl (.lst (((r.map (·.1)).reverse ++ [.str (Str.ofString ")")]) ++ [v2, .str (Str.ofString ", ")]))) :=
              ((Tps.lst h2).trans (Tps.new hp2)).trans (Tps.lst (xs := (r.map (·.1)).reverse ++ [.str (Str.ofString ")")]) (by rw [upd_ne n2]; exact upd_same))
            have sH2 : Same H (L2.upd (L2.upd (L2.upd H1 pl (.lst ((r.map (·.1)).reverse ++ [.str (Str.ofString ")")]))) p2 (.lst [v2, .str (Str.ofString ", ")])) pl (.lst (((r.map (·.1)).reverse ++ [.str (Str.ofString ")")]) ++ [v2, .str (Str.ofString ", ")]))) :=
              Same.mut (Same.mut (Same.mut sH hpl0) (Same.free sH n3)) hpl0
            have hpp2 : (L2.upd (L2.upd (L2.upd H1 pl (.lst ((r.map (·.1)).reverse ++ [.str (Str.ofString ")")]))) p2 (.lst [v2, .str (Str.ofString ", ")])) pl (.lst (((r.map (·.1)).reverse ++ [.str (Str.ofString ")")]) ++ [v2, .str (Str.ofString ", ")]))) pp = some (.lst (zs.map fun z => .str (S z))) := by
              rw [upd_ne npl, upd_ne (fun e => by rw [← e, upd_ne npl, h1] at hp2; cases hp2), upd_ne npl]
              exact h1
            generalize hG : L2.upd (L2.upd (L2.upd H1 pl (.lst ((r.map (·.1)).reverse ++ [.str (Str.ofString ")")]))) p2 (.lst [v2, .str (Str.ofString ", ")])) pl (.lst (((r.map (·.1)).reverse ++ [.str (Str.ofString ")")]) ++ [v2, .str (Str.ofString ", ")])) = H2 at tt2 sH2 hpp2 ⊢
            have hpl2 : H2 pl = some (.lst (((r.map (·.1)).reverse ++ [.str (Str.ofString ")")]) ++ [v2, .str (Str.ofString ", ")])) := by rw [← hG, upd_same]
            have ep3 := tt2 _ _ ep
            walk_at "go"
            refine g_catS (by rw [str_len, sizeLine_eq]; have := biK_len hk1.1; rw [len_lp]; omega) ?_
            walk_at "go"
            refine ⟨by show 2 ≤ sizeLine; decide, fun p3 hp3 => ?_⟩
            have m2 : pl ≠ p3 := fun e => by rw [← e, hpl2] at hp3; cases hp3
            have hpl3 : (L2.upd H2 p3 (.lst [v1, .str (k ++ Str.ofString "(")])) pl = some (.lst (((r.map (·.1)).reverse ++ [.str (Str.ofString ")")]) ++ [v2, .str (Str.ofString ", ")])) := by rw [upd_ne m2]; exact hpl2
            walk_at "go"
            refine g_ext hpl3 upd_same (by rw [List.length_append, List.length_append, List.length_reverse, List.length_map, sizeLine_eq]; show r.length + 1 + 2 + 2 ≤ _; omega) ?_
            have tt3 : Tps H2 (L2.upd (L2.upd H2 p3 (.lst [v1, .str (k ++ Str.ofString "(")])) pl (.lst ((((r.map (·.1)).reverse ++ [.str (Str.ofString ")")]) ++ [v2, .str (Str.ofString ", ")]) ++ [v1, .str (k ++ Str.ofString "(")]))) :=
              (Tps.new hp3).trans (Tps.lst hpl3)
            refine FtW.open (x := .f (.bi k b1 b2)) (st := (.str (k ++ Str.ofString "("), .s (k.cps.toList ++ [40])) :: (v1, .f b1) :: (.str (Str.ofString ", "), .s [44, 32]) :: (v2, .f b2) :: (.str (Str.ofString ")"), .s [41]) :: r) (r := r) (Same.mut (Same.mut sH2 (Same.free sH2 hp3)) hpl0) (tt2.trans tt3) ?_ ?_ ?_ h3r h4 ?_ ?_ h5 h6
            · rw [upd_ne npl, upd_ne (fun e => by rw [← e, hpp2] at hp3; cases hp3)]
              exact hpp2
            · rw [upd_same]; simp
            · intro y hy
              rcases List.mem_cons.mp hy with rfl | hy
              · exact .inr ⟨by show V.str _ = V.str _; rw [paren], trivial⟩
              rcases List.mem_cons.mp hy with rfl | hy
              · exact .inr ⟨hb1.tps (tt2.trans tt3), hk1.2.1, hsm.1⟩
              rcases List.mem_cons.mp hy with rfl | hy
              · exact .inr ⟨by show V.str _ = V.str _; rw [show Str.ofString ", " = S [44, 32] by decide +kernel], trivial⟩
              rcases List.mem_cons.mp hy with rfl | hy
              · exact .inr ⟨hb2.tps (tt2.trans tt3), hk1.2.2, hsm.2⟩
              rcases List.mem_cons.mp hy with rfl | hy
              · exact .inr ⟨by show V.str _ = V.str _; rw [show Str.ofString ")" = S [41] by decide +kernel], trivial⟩
              · exact .inl hy
            · simp [It2.txt, Fm.txt]
            · simp only [List.map_cons, List.sum_cons, It2.wt, Fm.wt]
              omega
end
end Op

namespace Op
open PySem PySem.Spec PyProof.Rows L2
/-! ## methods, makings, errors with one field -/
section
variable {X : Cx} {k j : Nat} {C : Addr} {x m : Str} {sp : Sp} {p pos apos : Pos} {e o : Expr} {es : List Expr} {ta : TE} {t : TA}
/-- o.m(..), nothing raised -/
def rCm (C : Addr) (m : Str) (sp : Sp) (t : TA) (σ : L2.St) (x : V) (H1 : Hp) (Q : VK) : Prop := ∃ a dx fs, x = .ref a ∧ H1 a = some (.ins C dx fs) ∧ fs.lookup m = none ∧ t σ H1 fun vs H2 => sp (x :: vs) H2 Q E0
def tCm (C : Addr) (m : Str) (sp : Sp) (ta : TE) (t : TA) : TE := fun σ H Q => ta σ H fun x H1 => rCm C m sp t σ x H1 Q
theorem g_cm {σ : L2.St} {H : Hp} {Q : VK} (k : ta σ H fun x H1 => rCm C m sp t σ x H1 Q) : tCm C m sp ta t σ H Q := k
theorem g_rcm {σ : L2.St} {H : Hp} {Q : VK} {a dx : Addr} {fs : List (Str × V)} (h : H a = some (.ins C dx fs)) (hl : fs.lookup m = none) (k : t σ H fun vs H2 => sp (.ref a :: vs) H2 Q E0) : rCm C m sp t σ (.ref a) H Q := ⟨a, dx, fs, rfl, h, hl, k⟩
theorem tCm_eq : tMeth C m sp [] E0 ta t = tCm C m sp ta t := by
  funext σ H Q
  unfold tMeth tCm rCm
  simp only [List.append_nil]
theorem pe_cm {pl : Sem Bool} (c : Cm X.prog X.w X.K X.mg X.base k C m sp) (cl : Cls X.K C) (hr : Room j X.A) (hk : k ≤ j) (he : PE X o ta) (ha : PA X (e :: es) t)
    (hs1 : starEach (e :: es) X.env = (false, eval e X.env) :: starEach es X.env := by rfl) (hp1 : (backTo pos (starEach es X.env)).any (·.1) = false := by rfl)
    (ht : eval (.Call (.Attribute o m apos) (e :: es) [] pos) X.env = (do
      let ov ← eval o X.env
      standAt apos.atName
      let (g, first) ← holding [ov] (getMethod ov m pl)
      callWith pos g first (backTo pos (starEach (e :: es) X.env)) (backToKw pos (keywordEach [] X.env))) := by rfl) :
    PE X (.Call (.Attribute o m apos) (e :: es) [] pos) (tCm C m sp ta t) := by
  obtain ⟨f, fd, ps, F, hm, b⟩ := c.ex
  rw [← tCm_eq]
  exact pe_meth (pl := pl) he cl hm F (hr.mono hk) b .nil passL ha hs1 hp1 ht
theorem pe_cm0 {pl : Sem Bool} (c : Cm X.prog X.w X.K X.mg X.base k C m sp) (cl : Cls X.K C) (hr : Room j X.A) (hk : k ≤ j) (he : PE X o ta)
    (ht : eval (.Call (.Attribute o m apos) [] [] pos) X.env = (do
      let ov ← eval o X.env
      standAt apos.atName
      let (g, first) ← holding [ov] (getMethod ov m pl)
      callWith pos g first (backTo pos (starEach [] X.env)) (backToKw pos (keywordEach [] X.env))) := by rfl) :
    PE X (.Call (.Attribute o m apos) [] [] pos) (tCm C m sp ta tNil) := by
  obtain ⟨f, fd, ps, F, hm, b⟩ := c.ex
  rw [← tCm_eq]
  exact pe_meth0 (pl := pl) he cl hm F (hr.mono hk) b .nil passL ht
/-- a class of the module that may be made -/
structure Ck (P : Program) (w : World) (K : PySem.W.Frag) (mg : Str → Option Value) (base : Heap) (k : Nat) (x : Str) (C : Addr) (sp : Sp) : Prop where
  ex : ∃ (f : Addr) (fd : FuncData) (ps : List Str), Mk K C f ∧ FnOk P w K mg base (L2.CX P w) k f fd ps sp ∧ mg x = some (.ref C) ∧ Binds K fd ps []
/-- C(..), where what it raises is wished for at the slots -/
def tMk (C : Addr) (sp : Sp) (E : L2.St → XK) (t : TA) : TE := fun σ H Q => t σ H fun vs H1 => ∀ x dx, H1 x = none → H1 dx = none → dx ≠ x →
  sp (.ref x :: vs) (upd (upd H1 dx (.own x)) x (.ins C dx [])) (fun v H2 => v = .non ∧ Q (.ref x) H2) (E σ)
theorem g_mk {E : L2.St → XK} {σ : L2.St} {H : Hp} {Q : VK} (k : t σ H fun vs H1 => ∀ x dx, H1 x = none → H1 dx = none → dx ≠ x → sp (.ref x :: vs) (upd (upd H1 dx (.own x)) x (.ins C dx [])) (fun v H2 => v = .non ∧ Q (.ref x) H2) (E σ)) : tMk C sp E t σ H Q := k
theorem run_mk {pins : List (Addr × Obj)} {σ : L2.St} {H : Hp} {s : Shared} {Q : VK} {E : XK} {us : List Value} {vs : List V} (c : Ck X.prog X.w X.K X.mg X.base k x C sp) (hr : Room (k + 1) X.A) (hx : PassesAt (L2.CX X.prog X.w) X σ E)
    (I : Inv X pins σ H s) (r : Vals vs us) (h : ∀ x dx, H x = none → H dx = none → dx ≠ x → sp (.ref x :: vs) (upd (upd H dx (.own x)) x (.ins C dx [])) (fun v H2 => v = .non ∧ Q (.ref x) H2) E) : wpAny (model X.prog X.w) X.A (call (.ref C) us) (EP X pins σ Q) X.xe s := by
  obtain ⟨f, fd, ps, M, F, hm, b⟩ := c.ex
  have q := h _ _ (I.hok.fresh (Nat.le_succ s.heap.objs.size)) (I.hok.fresh (Nat.le_refl s.heap.objs.size)) (Nat.ne_of_lt (Nat.lt_succ_self _))
  have J : Inv X pins σ _ _ := Inv.made (C := C) I
  have rr : Vals (V.ref (s.heap.objs.size + 1) :: vs) (Value.ref (s.heap.objs.size + 1) :: us) := .cons rfl r
  have hl : (Value.ref (s.heap.objs.size + 1) :: us).length = ps.length := rr.length.symm.trans (F.len _ _ _ _ q)
  have hb := b _ (Value.ref (s.heap.objs.size + 1) :: us) J.kIn (by rw [List.append_nil]; exact hl)
  rw [List.append_nil] at hb
  have run := F.run _ X.stack _ _ ⟨Value.ref (s.heap.objs.size + 1) :: us, []⟩ _ _ _ E (hr.make C us []) (J.env0.make C us []) hb rr q
  refine wpAny_call (make_map (f := f) I.kIn M.makes M.init (beq_iff_eq.mp M.fn) (codeAny_mono run fun r s' hq => ?_))
  match r, hq with
  | .error e, hq => exact hx pins _ _ e s' J hq
  | .ok (.ret u), hq =>
    obtain ⟨v, H', J', rv, ev, q3⟩ := J.after hq
    subst ev
    exact ⟨rv, V.ref (s.heap.objs.size + 1), H', J', rfl, q3⟩
  | .ok .next, hq => exact False.elim hq
  | .ok .brk, hq => exact False.elim hq
  | .ok .cont, hq => exact False.elim hq
theorem pe_mk {E : L2.St → XK} (c : Ck X.prog X.w X.K X.mg X.base k x C sp) (hr : Room j X.A) (hk : k + 1 ≤ j) (hx : ∀ σ, PassesAt (L2.CX X.prog X.w) X σ (E σ)) (hg : Gl X x) (ha : PA X (e :: es) t)
    (hdb : (x == ("__debug__" : Str)) = false := by decide) (hs1 : starEach (e :: es) X.env = (false, eval e X.env) :: starEach es X.env := by rfl) (hp1 : (backTo pos (starEach es X.env)).any (·.1) = false := by rfl) :
    PE X (.Call (.Name x p) (e :: es) [] pos) (tMk C sp E t) := by
  obtain ⟨_, _, _, M, _, hm, _⟩ := c.ex
  refine ⟨fun pins s σ H Q I h => wpAny_Call_Name_kw (ld_glob I hg hm ?_ hdb)⟩
  refine PySem.W.callWith_K (h₀ := X.base) I.ok.mod.kin M.kp ?_ hs1 hp1
  refine thn (ha.run pos pins s σ H _ I h) fun us s1 hh => ?_
  obtain ⟨vs, H1, I1, r, q⟩ := hh
  exact ⟨I1.kIn, run_mk c (hr.mono hk) (hx σ) I1 r q⟩
/-- nothing raised -/
theorem passE0 : ∀ σ : L2.St, PassesAt (L2.CX X.prog X.w) X σ ((fun _ => E0) σ) := fun σ pins H s e s' I h => passL pins σ H s e s' I h
/-! ### an own error class whose __init__ stores its one parameter -/
def spErr (K : PySem.W.Frag) (f : Str) : Sp := fun vs H Q _ => ∃ (a C : Addr) (y : V), vs = [.ref a, y] ∧ OexC K C ∧ PySem.W.findIn K (.ref C) f = some none ∧ H a = some (exo a C none) ∧
  ∀ dx, H dx = none → dx ≠ a → Q .non (upd (upd H dx (exd dx [(f, y)])) a (exo a C (some dx)))
/-- what is known of such a class, named x, with the field f -/
structure Er (P : Program) (w : World) (K : PySem.W.Frag) (mg : Str → Option Value) (base : Heap) (k : Nat) (x : Str) (C : Addr) (f : Str) : Prop where
  ex : ∃ (fI : Addr) (fd : FuncData) (ps : List Str), FnOk P w K mg base (L2.CX P w) k fI fd ps (spErr K f) ∧ PySem.W.findIn K (.ref C) "__init__" = some (some (.ref fI)) ∧ PySem.W.typeIn K (.ref fI) = some (.type "function") ∧ Binds K fd ps []
  oex : OexC K C
  no : PySem.W.findIn K (.ref C) f = some none
  gC : mg x = some (.ref C)
  xf : XfC K C
  te : PySem.W.exmOne K (.ref C) (.ref C) = some true
/-- arguments' reading, closed under what follows -/
def monA (t : TA) : TA := fun σ H Q => ∃ Q1, t σ H Q1 ∧ ∀ vs H', Q1 vs H' → Q vs H'
theorem pa_mon (h : PA X es t) : PA X es (monA t) := ⟨fun pos pins s σ H Q I q => by
  obtain ⟨Q1, h1, h2⟩ := q
  exact thn (h.run pos pins s σ H Q1 I h1) fun us s' z => by
    obtain ⟨vs, H', I', r, q⟩ := z
    exact ⟨vs, H', I', r, h2 _ _ q⟩⟩
/-- raise X(e) -/
def tRz (C : Addr) (f : Str) (W : WX) (ta : TA) : TS := fun _ σ H => ta σ H fun vs H1 => ∃ y, vs = [y] ∧ ∀ d, H1 d = none → W (.ref C) (some d) σ (upd H1 d (.xd [(f, y)]))
theorem del_back {H1 : Hp} {a dx : Addr} {o o2 u v : HO} (ha : H1 a = none) (n : dx ≠ a) : upd (del (upd (upd (upd H1 a o) dx u) a o2) a) dx v = upd H1 dx v := by
  funext b
  by_cases hb : b = dx
  · subst hb; rw [upd_same, upd_same]
  · rw [upd_ne hb, upd_ne hb]
    by_cases hc : b = a
    · subst hc; rw [del_same, ha]
    · rw [del_ne hc, upd_ne hc, upd_ne hb, upd_ne hc]
theorem ps_rz {f : Str} {W : WX} {pos2 : Pos} (hc : X.calm = true) (c : Er X.prog X.w X.K X.mg X.base k x C f) (hr : Room j X.A) (hk : k + 1 ≤ j) (tk : Takes X W) (hg : Gl X x) (ha : PA X (e :: es) t)
    (hdb : (x == ("__debug__" : Str)) = false := by decide) (hs1 : starEach (e :: es) X.env = (false, eval e X.env) :: starEach es X.env := by rfl) (hp1 : (backTo pos (starEach es X.env)).any (·.1) = false := by rfl) :
    PS X (.Raise (some (.Call (.Name x p) (e :: es) [] pos)) none pos2) (tRz C f W t) := by
  obtain ⟨fI, fd, ps, F, iC, tI, b⟩ := c.ex
  have h := ps_raise (pos := pos2) hc tk (pmk_oex (p := p) (pos := pos) c.oex iC tI F (hr.mono hk) b .nil passL hg c.gC (pa_mon ha) hdb hs1 hp1)
  refine ⟨fun pins s σ H D I hh => h.run pins s σ H D I ⟨_, hh, fun vs H1 q => ?_⟩⟩
  obtain ⟨y, rfl, q⟩ := q
  refine ⟨by show 1 ≤ 1000; decide, fun a hn => ⟨a, C, y, rfl, c.oex, c.no, upd_same, fun dx hdx ne => ⟨rfl, dx, [(f, y)], upd_same, ?_, ?_, ?_⟩⟩⟩
  · rw [upd_ne ne, upd_same]
  · rw [upd_ne ne] at hdx
    exact hdx
  · show W (.ref C) (some dx) σ _
    rw [del_back hn ne]
    rw [upd_ne ne] at hdx
    exact q dx hdx
end
section
variable {P : Program} {w : World} {K : PySem.W.Frag} {mg : Str → Option Value} {base : Heap}
/-- self.f = f, all that such an __init__ does -/
theorem err_body {f qual : Str} {st : Stmt} {C : Addr} {p1 p2 p3 p4 : Pos} (hb : defBody st = [.Assign [.Attribute (.Name "self" p1) f p2] (.Name f p3) p4]) (S : FnScope ["self", f] ["self", f] (defScope st)) (v0 : Vis (defScope st) "self") (v1 : Vis (defScope st) f)
    (hd : (f == ("__debug__" : Str)) = false) (hcd : (f == ("__classdict__" : Str)) = false) : BodyN P w K mg base ["self", f] qual st 0 (spErr K f) := by
  intro g cdv A outer s H vs Q E hr h
  obtain ⟨a, C, y, rfl, T, no, ha, q⟩ := h
  rw [hb]
  refine ⟨_, pss_one (ps_ost (pe_var (i := 0) rfl v0) (pe_var (i := 1) rfl v1 hd hcd) (by rfl)), ?_⟩
  exact ⟨y, rfl, .ref a, rfl, a, C, rfl, T, no, .inl ⟨ha, q⟩⟩
end
/-! ### for x in range(n) -/
def rFor (g : TG) (tb : TS) (D : Ends) (σ : L2.St) (xs : List V) (H : Hp) : Prop := ∃ n : Int, xs = [.int n] ∧ -(2 ^ 62) ≤ n ∧ n < 2 ^ 62 ∧ ∃ W : Nat → Nat → L2.St → Hp → Prop, (∃ m, W 0 m σ H) ∧ ∀ i m σ H, W i m σ H →
  ((Itr 0 n.toNat).stop i H ∧ D.nx σ H) ∨ ((Itr 0 n.toNat).go i H ∧ ∃ N : L2.St → Hp → Prop, (∀ σ' H', N σ' H' → ∃ m', m' < m ∧ W (i + 1) m' σ' H') ∧ ∀ x H', (Itr 0 n.toNat).yld i H x H' → g x σ H' fun σ2 H2 => tb { D with nx := N, ct := N, bk := D.nx } σ2 H2)
theorem g_for {tl : TA} {g : TG} {tb : TS} {D : Ends} {σ : L2.St} {H : Hp} (k : tl σ H fun xs H1 => rFor g tb D σ xs H1) : tFor (iRng1 tl) g tb D σ H := k
theorem r_for {j : Nat} {tb : TS} {D : Ends} {σ : L2.St} {n : Int} {H : Hp} (Pv : Nat → L2.St → Hp → Prop) (hn : -(2 ^ 62) ≤ n ∧ n < 2 ^ 62) (h0 : Pv 0 σ H)
    (hs : ∀ (i : Nat) σ' H', i < n.toNat → Pv i σ' H' → tb { D with nx := Pv (i + 1), ct := Pv (i + 1), bk := D.nx } (σ'.set j (some (.int (i : Int)))) H') (hd : ∀ σ' H', Pv n.toNat σ' H' → D.nx σ' H') : rFor (gName j) tb D σ [.int n] H :=
  ⟨n, rfl, hn.1, hn.2, for_range (lo := 0) (n := n.toNat) Pv h0 (fun i σ' H' hi p => by
    have r := hs i σ' H' hi p
    rw [← Int.zero_add (i : Int)] at r
    exact r) hd⟩
theorem g_par {i j : Nat} {ta : TA} {D : Ends} {σ : L2.St} {H : Hp} (k : ta σ H fun vs H1 => ∃ v w, vs = [v, w] ∧ D.nx ((σ.set i (some v)).set j (some w)) H1) : tPar i j ta D σ H := k
end Op

namespace Op
open PySem PySem.Spec PyProof.Rows L2 SX
local macro_rules | `(tactic| walk_at "go1") => `(tactic| first
  | ((with_reducible refine' g_var ?h ?_); (case h => rfl)) | with_reducible refine' g_c ?_ | with_reducible refine' g_op ?_ | with_reducible refine' g_un ?_ | with_reducible refine' g_if ?_ | with_reducible refine' g_test ?_ | with_reducible refine' g_B ?_ | with_reducible refine' g_bl ?_
  | with_reducible refine' g_not ?_ | with_reducible refine' g_and ?_ | with_reducible refine' g_or ?_ | with_reducible refine' g_andV ?_ | with_reducible refine' g_orV ?_ | with_reducible refine' g_notV ?_ | with_reducible refine' g_nil ?_ | with_reducible refine' g_cons ?_ | with_reducible refine' g_CB ?_ | with_reducible refine' g_ca ?_
  | with_reducible refine' g_seq ?_ | with_reducible refine' g_next ?_ | with_reducible refine' g_asg ?_ | with_reducible refine' g_name ?_ | with_reducible refine' g_ret ?_ | with_reducible refine' g_retN ?_ | with_reducible refine' g_drop ?_ | with_reducible refine' g_ifS ?_ | with_reducible refine' g_sub ?_
  | with_reducible refine' g_I0 ?_ | with_reducible refine' g_U ?_ | ((with_reducible refine' g_eq ?h ?_); (case h => rfl)) | ((with_reducible refine' g_ne ?h ?_); (case h => rfl))
  | ((with_reducible refine' g_lenL ?h ?_); (case h => first | assumption | exact SqL.of (by assumption) | exact SqL.of upd_same)) | ((with_reducible refine' g_lenT ?h ?_); (case h => first | assumption | exact SqT.of (by assumption) | exact SqT.of upd_same))
  | ((with_reducible refine' g_ixL ?h ?ha ?_); (case h => first | assumption | exact SqL.of (by assumption) | exact SqL.of upd_same); (case ha => rfl)) | ((with_reducible refine' g_ixT ?h ?ha ?_); (case h => first | assumption | exact SqT.of (by assumption) | exact SqT.of upd_same); (case ha => rfl))
  | ((with_reducible refine' g_I ?h ?_); (case h => first | decide | omega | (first | refine' ⟨?_, ?_, ?_⟩ | refine' ⟨?_, ?_⟩ | refine' Or.inl ⟨?_, ?_⟩) <;> omega | (refine' Or.inr ⟨?_, ?_⟩ <;> omega)))
  | ((with_reducible refine' g_setL ?h ?ha ?_); (case h => first | assumption | exact upd_same); (case ha => rfl))
  | with_reducible refine' g_lcR ?_
  | with_reducible refine' g_M1 ?_ | with_reducible refine' g_isS ?_ | with_reducible refine' g_tyS ?_ | ((with_reducible refine' g_tyL ?h ?_); (case h => first | assumption | exact upd_same))
  | ((with_reducible refine' g_cat ?h ?h2 ?hl ?_); (case h => first | assumption | exact upd_same); (case h2 => first | assumption | exact upd_same); (case hl => first | decide | (simp; omega)))
  | with_reducible refine' g_lcS ?_
  | with_reducible refine' g_starts ?_ | with_reducible refine' g_chain ?_
  | ((with_reducible refine' g_lenS ?h ?_); (case h => first | exact len_le (by assumption) | exact len_le (by omega))) | ((with_reducible refine' g_rstrip ?h ?_); (case h => first | exact len_le (by assumption) | exact len_le (by omega))) | ((with_reducible refine' g_slX ?h ?_); (case h => first | exact len_le (by assumption) | exact len_le (by omega)))
  | with_reducible refine' g_sl ?_ | with_reducible refine' g_nopart ?_ | with_reducible refine' g_part ?_ | with_reducible refine' g_isI ?_
  | with_reducible refine' g_tru ?_
  | with_reducible refine' iteT ?_ | with_reducible refine' iteF ?_ | with_reducible refine' iteNT ?_ | with_reducible refine' iteNF ?_
  | with_reducible refine' g_int ?_ | with_reducible refine' g_insg ?_ | with_reducible refine' g_ninsg ?_ | with_reducible refine' g_isN ?_ | with_reducible refine' g_notN ?_ | with_reducible refine' g_lst ?_ | with_reducible refine' g_tup ?_ | with_reducible refine' g_BM ?_ | with_reducible refine' g_BM0 ?_)
local macro_rules | `(tactic| walk_at "go") => `(tactic| repeat' walk_at "go1")
/-! ## letters -/
theorem atTxt_kind {cs t : List Nat} {k : Str} (h : kindOf cs = some (k, t)) : atTxt k t = cs ∧ atK k = true ∧ t.length ≤ cs.length := by
  unfold kindOf at h
  split at h
  · cases h
    exact ⟨by unfold atTxt; rw [if_neg (by decide +kernel)], by decide +kernel, Nat.le_refl _⟩
  · split at h
    · cases h
      exact ⟨by unfold atTxt; rw [if_neg (by decide +kernel)], by decide +kernel, Nat.le_refl _⟩
    · split at h
      · rename_i hh
        cases h
        refine ⟨?_, by decide +kernel, by rw [List.length_tail]; omega⟩
        unfold atTxt
        rw [if_pos rfl]
        cases cs with
        | nil => cases hh.1
        | cons c r => rw [show c = 63 from Option.some.inj hh.1]; rfl
      · cases h
theorem kind_ok {cs t : List Nat} {k : Str} (h : kindOf cs = some (k, t)) : (Fm.atm k t).ok = true := by
  unfold kindOf at h
  simp only [Fm.ok, Bool.or_eq_true, Bool.and_eq_true, beq_iff_eq]
  split at h
  · rename_i hh
    cases h
    exact .inl ⟨rfl, hh⟩
  · split at h
    · rename_i hh
      cases h
      exact .inr (.inl ⟨rfl, hh⟩)
    · split at h
      · rename_i hh
        cases h
        exact .inr (.inr ⟨rfl, hh.2⟩)
      · cases h
/-- what the written part says of the class -/
structure Lt (K : PySem.W.Frag) (mg : Str → Option Value) (C : Addr) : Prop where
  cl : Cls K C
  no : NoAttr K C "shape"
  mgC : mg "Letter" = some (.ref C)
/-- a letter with this form -/
def LetAt (C : Addr) (H : Hp) (v : V) (a : Fm) : Prop := ∃ x dx u, v = .ref x ∧ H x = some (.ins C dx [("shape", u)]) ∧ FmAt H u a
theorem LetAt.same {C : Addr} {H H' : Hp} {v : V} {a : Fm} (h : LetAt C H v a) (s : Same H H') : LetAt C H' v a := by
  obtain ⟨x, dx, u, rfl, e, f⟩ := h
  exact ⟨x, dx, u, rfl, s _ _ e, f.same s⟩
theorem LetAt.but {C st : Addr} {H H' : Hp} {v : V} {a : Fm} {xs : List V} (h : LetAt C H v a) (hs : H st = some (.lst xs)) (s : But st H H') : LetAt C H' v a := by
  obtain ⟨x, dx, u, rfl, e, f⟩ := h
  exact ⟨x, dx, u, rfl, s _ _ (ne_of e hs (by intro z; cases z)) e, f.tps fun b ys q => s _ _ (ne_of q hs (by intro z; cases z)) q⟩
/-- Letter(atom) of a text -/
def spInit (C CE : Addr) : Sp := fun vs H Q E => ∃ (x dx : Addr) (cs : List Nat), vs = [.ref x, .str (S cs)] ∧ H x = some (.ins C dx []) ∧ cs.length < 1000000 ∧
  (∀ k t H1 H' u, kindOf cs = some (k, t) → Same H H1 → FmAt H1 u (.atm k t) → H' = upd H1 x (.ins C dx [("shape", u)]) → Q .non H') ∧
  (kindOf cs = none → ∀ H1 d, Same H H1 → H1 d = none → E (.ref CE) (some d) (upd H1 d (.xd [("text", .str (S cs))])))
/-- .. of the tuple of a form -/
def spInitT (C : Addr) : Sp := fun vs H Q _ => ∃ (x dx p : Addr) (xs : List V), vs = [.ref x, .ref p] ∧ H x = some (.ins C dx []) ∧ H p = some (.tup xs) ∧ Q .non (upd H x (.ins C dx [("shape", .ref p)]))
def spInit2 (C CE : Addr) : Sp := fun vs H Q E => spInit C CE vs H Q E ∨ spInitT C vs H Q E
def spForm (C : Addr) : Sp := fun vs H Q _ => ∃ (x dx : Addr) (u : V), vs = [.ref x] ∧ H x = some (.ins C dx [("shape", u)]) ∧ Q u H
def spWritten (C : Addr) : Sp := fun vs H Q _ => ∃ (v : V) (a : Fm), vs = [v] ∧ LetAt C H v a ∧ a.kin = true ∧ a.small ∧ a.size ≤ 10000 ∧ ∀ H', Same H H' → Q (.str (S a.txt)) H'
section
variable {P : Program} {w : World} {K : PySem.W.Frag} {mg : Str → Option Value} {base : Heap} {CL CE : Addr}
theorem bd_init (T : Bl K mg) (L : Lt K mg CL) (c_atom_form : Ca P w K mg base 3 "atom_form" spAtomForm) (c_BadAtom : Er P w K mg base 1 "BadAtom" CE "text") :
    BodyX P w K mg base N_Letter___init__ "Letter.__init__" s_Letter___init__ 3 (spInit2 CL CE) := by
  intro f cdv A outer s H vs Q E hr h
  refine ⟨_, (pss_cons (ps_set (i := 2) sc_Letter___init__.nd rfl (Or.inl rfl) (pe_ifExp (pt_val (pe_callB call_isi (by rfl) T.b_isinstance (by decide +kernel) (pa_cons (pv 1) (pa_cons (pe_bltn (v := .ty "tuple") (u := .type "tuple") (by rfl) T.b_tuple (by decide +kernel) rfl) pa_nil)))) (pv 1) (pe_ca c_atom_form hr (by decide) (by rfl) (pa_cons (pv 1) pa_nil))))
  (pss_cons (ps_if (pt_cmpR oq_isN (pv 2) pe_non (nomark _))
  (pss_one (ps_rz rfl c_BadAtom hr (by decide) (takes_of rfl rfl rfl rfl) (by rfl) (pa_cons (pv 1) pa_nil)))
  pss_nil)
  (pss_one (ps_fld (pv 0) (pv 2) rfl)))), ?_⟩
  rcases h with h | h
  · obtain ⟨x, dx, cs, rfl, hx, hl, q1, q2⟩ := h
    walk_at "go"
    refine g_isi (.ty _) (.base (.str _)) (kit_ty (b := "tuple") (r := false) (by decide +kernel)) ?_
    walk_at "go"
    refine ⟨cs, rfl, hl, fun H1 v e1 av => ?_⟩
    walk_at "go"
    cases hk : kindOf cs with
    | none =>
      rw [hk] at av
      have ev : v = .non := av
      subst ev
      walk_at "go"
      refine iteD (fun _ => ?_) (fun h => absurd rfl h)
      exact ⟨_, rfl, _, rfl, fun d hd => q2 hk H1 d e1 hd⟩
    | some kt =>
      obtain ⟨k, t⟩ := kt
      rw [hk] at av
      obtain ⟨p, rfl, ep⟩ := av
      walk_at "go"
      refine iteD (fun h => absurd h (by intro z; cases z)) (fun _ => ?_)
      exact ⟨_, rfl, _, rfl, x, CL, dx, [], rfl, e1 _ _ hx, L.cl, L.no, by decide, q1 k t H1 _ _ hk e1 (.atm ep) rfl⟩
  · obtain ⟨x, dx, p, xs, rfl, hx, hp, q⟩ := h
    walk_at "go"
    refine g_isi (.ty _) (.base (.tup hp)) (kit_ty (b := "tuple") (r := true) (by decide +kernel)) ?_
    walk_at "go"
    refine iteD (fun h => absurd h (by intro z; cases z)) (fun _ => ?_)
    exact ⟨_, rfl, _, rfl, x, CL, dx, [], rfl, hx, L.cl, L.no, by decide, q⟩
theorem init_len : ∀ vs H Q E, spInit2 CL CE vs H Q E → vs.length = p_Letter___init__.length := fun vs H Q E h => by
  rcases h with ⟨x, dx, cs, rfl, _⟩ | ⟨x, dx, p, xs, rfl, _⟩ <;> rfl
theorem cm_form (D : Dm K CL "form" "Letter.form" s_Letter_form p_Letter_form) (L : Lt K mg CL) : Cm P w K mg base 1 CL "form" (spForm CL) := by
  refine cm_n D sc_Letter_form (fun vs H Q E h => ?_) (fun f cdv A outer s H vs Q E hr h => ?_)
  · obtain ⟨x, dx, u, rfl, _⟩ := h
    rfl
  · obtain ⟨x, dx, u, rfl, hx, q⟩ := h
    refine ⟨_, (pss_one (ps_ret (pe_fld (pv 0) rfl))), ?_⟩
    exact ⟨_, rfl, x, CL, dx, _, u, rfl, hx, L.cl, L.no, by simp [List.lookup], q⟩
theorem cm_written (T : Bl K mg) (D : Dm K CL "written" "Letter.written" s_Letter_written p_Letter_written) (L : Lt K mg CL) (c_form_text : Ca P w K mg base 2 "form_text" spFormText) : Cm P w K mg base 3 CL "written" (spWritten CL) := by
  refine cm_n D sc_Letter_written (fun vs H Q E h => ?_) (fun f cdv A outer s H vs Q E hr h => ?_)
  · obtain ⟨v, a, rfl, _⟩ := h
    rfl
  · obtain ⟨v, a, rfl, ⟨x, dx, u, rfl, hx, fa⟩, hk, hs, hz, q⟩ := h
    refine ⟨_, (pss_one (ps_ret (pe_ca c_form_text hr (by decide) (by rfl) (pa_cons (pe_fld (pv 0) rfl) pa_nil)))), ?_⟩
    exact ⟨_, rfl, x, CL, dx, _, u, rfl, hx, L.cl, L.no, by simp [List.lookup], u, a, rfl, fa, hk, hs, hz, q⟩
end
end Op

namespace Op
open PySem PySem.Spec PyProof.Rows L2 SX
/-! ## operators of own instances -/
/-- a method of the class as an operator -/
structure Co (K : PySem.W.Frag) (C : Addr) : Prop where
  first : PySem.W.selfFirst K C = true
/-- x op y, both of the class at C; what is raised is wished for at every slots of the def's length -/
def rOwn (C : Addr) (sp : Sp) (E : XK) : R2 := fun x y H Q => (∃ a dx fs, x = .ref a ∧ H a = some (.ins C dx fs)) ∧ (∃ a dx fs, y = .ref a ∧ H a = some (.ins C dx fs)) ∧ sp [x, y] H Q E
def rOwn1 (C : Addr) (sp : Sp) : V → Hp → VK → Prop := fun x H Q => (∃ a dx fs, x = .ref a ∧ H a = some (.ins C dx fs)) ∧ sp [x] H Q E0
/-- a wish at every slots -/
def allW (n : Nat) (W : WX) : XK := fun cls d H => ∀ σ : L2.St, σ.length = n → W cls d σ H
section
variable {X : Cx} {k j : Nat} {C : Addr} {m : Str} {sp : Sp} {E : XK}
theorem passAll {W : WX} (tk : Takes X W) (σ : L2.St) (hl : σ.length = X.N.length) : PassesAt (L2.CX X.prog X.w) X σ (allW X.N.length W) := fun pins H s e s' I h =>
  passAt tk σ pins H s e s' I (by
    obtain ⟨a, B, H', cls, d, h1, h2, h3, h4, h5, h6, h7, h8⟩ := h
    exact ⟨a, B, H', cls, d, h1, h2, h3, h4, h5, h6, h7, h8 σ hl⟩)
theorem back_of {pins : List (Addr × Obj)} {σ : L2.St} {Q : VK} {u : Value} {s : Shared} (h : EP X pins σ Q u s) : PySem.W.CmpBack (EP X pins σ Q) u s := by
  cases u with
  | notImplemented =>
    obtain ⟨v, H', I, r, q⟩ := h
    cases v <;> first | (cases r; done) | (obtain ⟨t, r⟩ := r; cases r) | (have r' : Value.notImplemented = _ := r; cases r')
  | _ => exact h
theorem op_own {op : Operator} (c : Cm X.prog X.w X.K X.mg X.base k C m sp) (hm : m = PySem.dunder op.info.2) (hf : PySem.W.selfFirst X.K C = true) (hr : Room j X.A) (hk : k ≤ j) (hx : ∀ σ : L2.St, σ.length = X.N.length → PassesAt (L2.CX X.prog X.w) X σ E) :
    OpR X (binaryOp op) (rOwn C sp E) := by
  intro pins s σ H x y v u Q I rx ry h
  obtain ⟨⟨a, dx, fs, rfl, ha⟩, ⟨b, dy, gs, rfl, hb⟩, h⟩ := h
  obtain ⟨f, fd, ps, F, M, bd⟩ := c.ex
  obtain ⟨mA, O1, _⟩ := ins_get I.hok ha
  obtain ⟨od, J1, _⟩ := O1.look
  obtain ⟨mB, O2, _⟩ := ins_get I.hok hb
  obtain ⟨oe, J2, _⟩ := O2.look
  obtain ⟨mf, fr⟩ := I.fr
  cases rx
  cases ry
  subst hm
  refine PySem.W.binop_K fr I.ok.mod.kin J1 J2.type hf M.at_ M.fn ?_
  exact wpAny_mono (run_fnS (E := fun _ => E) F (hr.mono hk) bd (hx σ I.len) I (vs := [.ref a, .ref b]) (.cons (rfl : L2.RelV (.ref a) (.ref a)) (.cons (rfl : L2.RelV (.ref b) (.ref b)) .nil)) h) (fun u s' q => back_of q) fun _ _ z => z
theorem op_own0 {op : Operator} (c : Cm X.prog X.w X.K X.mg X.base k C m sp) (hm : m = PySem.dunder op.info.2) (hf : PySem.W.selfFirst X.K C = true) (hr : Room j X.A) (hk : k ≤ j) : OpR X (binaryOp op) (rOwn C sp E0) :=
  op_own c hm hf hr hk fun σ _ => passE0 σ
theorem un_own {op : UnaryOp} (c : Cm X.prog X.w X.K X.mg X.base k C m sp) (hm : (op = .USub ∧ m = "__neg__") ∨ (op = .UAdd ∧ m = "__pos__") ∨ (op = .Invert ∧ m = "__invert__")) (hr : Room j X.A) (hk : k ≤ j) : UnR X (unaryOp op) (rOwn1 C sp) := by
  intro pins s σ H x v Q I rx h
  obtain ⟨⟨a, dx, fs, rfl, ha⟩, h⟩ := h
  obtain ⟨f, fd, ps, F, M, bd⟩ := c.ex
  obtain ⟨mA, O1, _⟩ := ins_get I.hok ha
  obtain ⟨od, J1, _⟩ := O1.look
  obtain ⟨mf, fr⟩ := I.fr
  cases rx
  have run := run_fnS (E := fun _ => E0) F (hr.mono hk) bd (passE0 σ) I (vs := [.ref a]) (.cons (rfl : L2.RelV (.ref a) (.ref a)) .nil) h
  rcases hm with ⟨rfl, rfl⟩ | ⟨rfl, rfl⟩ | ⟨rfl, rfl⟩
  · exact PySem.W.ksp_neg fr I.ok.mod.kin J1 M.at_ M.fn run
  · exact PySem.W.ksp_pos fr I.ok.mod.kin J1 M.at_ M.fn run
  · exact PySem.W.ksp_inv fr I.ok.mod.kin J1 M.at_ M.fn run
end
def rFld (K : PySem.W.Frag) (f : Str) (x : V) (H1 : Hp) (Q : VK) : Prop := ∃ a C dx fs v, x = .ref a ∧ H1 a = some (.ins C dx fs) ∧ Cls K C ∧ NoAttr K C f ∧ fs.lookup f = some v ∧ Q v H1
theorem g_fld {K : PySem.W.Frag} {f : Str} {ta : TE} {σ : L2.St} {H : Hp} {Q : VK} (k : ta σ H fun x H1 => rFld K f x H1 Q) : tFld K ta f σ H Q := k
theorem g_shape {K : PySem.W.Frag} {H : Hp} {Q : VK} {a C dx : Addr} {u : V} (hc : Cls K C) (hn : NoAttr K C "shape") (h : H a = some (.ins C dx [("shape", u)])) (k : Q u H) : rFld K "shape" (.ref a) H Q :=
  ⟨a, C, dx, _, u, rfl, h, hc, hn, by simp [List.lookup], k⟩
/-! comprehensions over a tuple -/
def rLcT (K : PySem.W.Frag) (j : Nat) (te : TE) (vs : List Nat) (σ : L2.St) (v : V) (H : Hp) (Q : VK) : Prop := ∃ a, v = .ref a ∧ (∃ xs, SqT K H a xs) ∧ ∀ D, H D = none → ∃ W : Nat → Nat → Hp → Prop, (∃ m, W 0 m (upd H D (.lst []))) ∧ ∀ i m H, W i m H →
  ((Itt K a).stop i H ∧ Q (.ref D) H) ∨ ((Itt K a).go i H ∧ ∃ Nx : Hp → Prop, (∀ H', Nx H' → ∃ m', m' < m ∧ W (i + 1) m' H') ∧ ∀ x H', (Itt K a).yld i H x H' → gName j x (wipe σ vs) H' fun σ2 H2 => wipe σ2 vs = wipe σ vs ∧ tYes σ2 H2 fun b H3 =>
    if b = true then te σ2 H3 fun y H4 => ∃ acc, H4 D = some (.lst acc) ∧ acc.length < sizeLine ∧ Nx (upd H4 D (.lst (acc ++ [y]))) else Nx H3)
theorem g_lcT0 {K : PySem.W.Frag} {σ : L2.St} {H : Hp} {Q : VK} {tl : TE} {te : TE} {j : Nat} {vs : List Nat} (k : tl σ H fun v H1 => rLcT K j te vs σ v H1 Q) : tLc (iTup K tl) (gName j) tYes te vs σ H Q := k
end Op

namespace Op
open PySem PySem.Spec PyProof.Rows L2 SX
local macro_rules | `(tactic| walk_at "go1") => `(tactic| first
  | ((with_reducible refine' g_var ?h ?_); (case h => rfl)) | with_reducible refine' g_c ?_ | with_reducible refine' g_op ?_ | with_reducible refine' g_un ?_ | with_reducible refine' g_if ?_ | with_reducible refine' g_test ?_ | with_reducible refine' g_B ?_ | with_reducible refine' g_bl ?_
  | with_reducible refine' g_not ?_ | with_reducible refine' g_and ?_ | with_reducible refine' g_or ?_ | with_reducible refine' g_andV ?_ | with_reducible refine' g_orV ?_ | with_reducible refine' g_notV ?_ | with_reducible refine' g_nil ?_ | with_reducible refine' g_cons ?_ | with_reducible refine' g_CB ?_ | with_reducible refine' g_ca ?_
  | with_reducible refine' g_seq ?_ | with_reducible refine' g_next ?_ | with_reducible refine' g_asg ?_ | with_reducible refine' g_name ?_ | with_reducible refine' g_ret ?_ | with_reducible refine' g_retN ?_ | with_reducible refine' g_drop ?_ | with_reducible refine' g_ifS ?_ | with_reducible refine' g_sub ?_
  | with_reducible refine' g_I0 ?_ | with_reducible refine' g_U ?_ | ((with_reducible refine' g_eq ?h ?_); (case h => rfl)) | ((with_reducible refine' g_ne ?h ?_); (case h => rfl))
  | ((with_reducible refine' g_lenL ?h ?_); (case h => first | assumption | exact SqL.of (by assumption) | exact SqL.of upd_same)) | ((with_reducible refine' g_lenT ?h ?_); (case h => first | assumption | exact SqT.of (by assumption) | exact SqT.of upd_same))
  | ((with_reducible refine' g_ixL ?h ?ha ?_); (case h => first | assumption | exact SqL.of (by assumption) | exact SqL.of upd_same); (case ha => rfl)) | ((with_reducible refine' g_ixT ?h ?ha ?_); (case h => first | assumption | exact SqT.of (by assumption) | exact SqT.of upd_same); (case ha => rfl))
  | ((with_reducible refine' g_I ?h ?_); (case h => first | decide | omega | (first | refine' ⟨?_, ?_, ?_⟩ | refine' ⟨?_, ?_⟩ | refine' Or.inl ⟨?_, ?_⟩) <;> omega | (refine' Or.inr ⟨?_, ?_⟩ <;> omega)))
  | ((with_reducible refine' g_setL ?h ?ha ?_); (case h => first | assumption | exact upd_same); (case ha => rfl))
  | with_reducible refine' g_lcR ?_
  | with_reducible refine' g_M1 ?_ | with_reducible refine' g_isS ?_ | with_reducible refine' g_tyS ?_ | ((with_reducible refine' g_tyL ?h ?_); (case h => first | assumption | exact upd_same))
  | ((with_reducible refine' g_cat ?h ?h2 ?hl ?_); (case h => first | assumption | exact upd_same); (case h2 => first | assumption | exact upd_same); (case hl => first | decide | (simp; omega)))
  | with_reducible refine' g_lcS ?_
  | with_reducible refine' g_starts ?_ | with_reducible refine' g_chain ?_
  | ((with_reducible refine' g_lenS ?h ?_); (case h => first | exact len_le (by assumption) | exact len_le (by omega))) | ((with_reducible refine' g_rstrip ?h ?_); (case h => first | exact len_le (by assumption) | exact len_le (by omega))) | ((with_reducible refine' g_slX ?h ?_); (case h => first | exact len_le (by assumption) | exact len_le (by omega)))
  | with_reducible refine' g_sl ?_ | with_reducible refine' g_nopart ?_ | with_reducible refine' g_part ?_ | with_reducible refine' g_isI ?_
  | with_reducible refine' g_tru ?_
  | with_reducible refine' iteT ?_ | with_reducible refine' iteF ?_ | with_reducible refine' iteNT ?_ | with_reducible refine' iteNF ?_
  | with_reducible refine' g_int ?_ | with_reducible refine' g_insg ?_ | with_reducible refine' g_ninsg ?_ | with_reducible refine' g_isN ?_ | with_reducible refine' g_notN ?_ | with_reducible refine' g_lst ?_ | with_reducible refine' g_tup ?_ | with_reducible refine' g_BM ?_ | with_reducible refine' g_BM0 ?_)
local macro_rules | `(tactic| walk_at "go") => `(tactic| repeat' walk_at "go1")
local macro_rules | `(tactic| walk_at "go2") => `(tactic| repeat' (first | walk_at "go1" | with_reducible refine' g_cm ?_ | with_reducible refine' g_mk ?_ | with_reducible refine' g_for ?_ | ((with_reducible refine' g_rcm ?h ?ha ?_); (case h => first | assumption | exact upd_same); (case ha => first | rfl | decide | simp [List.lookup]))))
/- macro2 -/
local macro_rules | `(tactic| walk_at "go3a") => `(tactic| first
  | walk_at "go1" | with_reducible refine' g_cm ?_ | with_reducible refine' g_mk ?_ | with_reducible refine' g_for ?_ | with_reducible refine' g_fld ?_ | with_reducible refine' g_lcT0 ?_
  | ((with_reducible refine' g_rcm ?h ?ha ?_); (case h => first | assumption | exact upd_same); (case ha => first | rfl | decide | simp [List.lookup]))
  | ((with_reducible refine' g_shape ?hc ?hn ?h ?_); (case hc => assumption); (case hn => assumption); (case h => first | assumption | exact upd_same | (rw [upd_ne (by assumption)]; assumption))))
local macro_rules | `(tactic| walk_at "go3") => `(tactic| repeat' walk_at "go3a")
local macro_rules | `(tactic| walk_at "go4") => `(tactic| repeat' (first
  | walk_at "go3a" | ((with_reducible refine' iteDT ?h ?_); (case h => first | rfl | decide +kernel)) | ((with_reducible refine' iteDF ?h ?_); (case h => decide +kernel))))
/-! ## the operators of letters -/
/-- what isinstance and the operators ask of the class -/
structure Lc (K : PySem.W.Frag) (C : Addr) : Prop where
  first : PySem.W.selfFirst K C = true
  ins : C8.InsC K C
theorem Lc.isi {K : PySem.W.Frag} {C : Addr} (c : Lc K C) {H : Hp} {Q : VK} {a dx : Addr} {fs : List (Str × V)} (h : H a = some (.ins C dx fs)) (k : Q (.bl true) H) : rIsi K [.ref a, .ref C] H Q :=
  g_isi (.own C) (.base (.ins h c.ins.cl c.ins.ha c.ins.hn c.ins.htk c.ins.hm)) c.ins.me k
/-- two letters make a letter of the kind k -/
def spBi (CL : Addr) (k : Str) : Sp := fun vs H Q _ => ∃ (u v : V) (a b : Fm), vs = [u, v] ∧ LetAt CL H u a ∧ LetAt CL H v b ∧ ∀ H' x, Same H H' → LetAt CL H' x (.bi k a b) → Q x H'
def spUn (CL : Addr) (k : Str) : Sp := fun vs H Q _ => ∃ (u : V) (a : Fm), vs = [u] ∧ LetAt CL H u a ∧ ∀ H' x, Same H H' → LetAt CL H' x (.un k a) → Q x H'
/-- the lock: a key, or BadKey with the letter that is none -/
def spXor (CL CX : Addr) : Sp := fun vs H Q E => ∃ (u v : V) (a b : Fm), vs = [u, v] ∧ LetAt CL H u a ∧ LetAt CL H v b ∧ b.kin = true ∧ (b.isKey = true → ∀ H' x, Same H H' → LetAt CL H' x (.bi kLock a b) → Q x H') ∧
  (b.isKey = false → ∀ H' d, Same H H' → H' d = none → E (.ref CX) (some d) (upd H' d (.xd [("key", v)])))
section
variable {P : Program} {w : World} {K : PySem.W.Frag} {mg : Str → Option Value} {base : Heap} {CL CE CX : Addr}
/-- Letter(the tuple at p) -/
theorem mk_tup {H : Hp} {Q : VK} {E : XK} {p : Addr} {xs : List V} (hp : H p = some (.tup xs)) (k : ∀ H' x dx, Same H H' → H' x = some (.ins CL dx [("shape", .ref p)]) → Q (.ref x) H') :
    ∀ x dx, H x = none → H dx = none → dx ≠ x → spInit2 CL CE [.ref x, .ref p] (upd (upd H dx (.own x)) x (.ins CL dx [])) (fun v H2 => v = .non ∧ Q (.ref x) H2) E := by
  intro x dx nx ndx nex
  have s0 : Same H (upd (upd H dx (.own x)) x (.ins CL dx [])) := fun b o e => by
    rw [upd_ne (ne_of_none e nx), upd_ne (ne_of_none e ndx)]
    exact e
  exact .inr ⟨x, dx, p, xs, rfl, upd_same, s0 _ _ hp, rfl, k _ x dx (Same.mut s0 nx) upd_same⟩
theorem cm_add (T : Bl K mg) (L : Lt K mg CL) (LC : Lc K CL) (D : Dm K CL "__add__" "Letter.__add__" s_Letter___add__ p_Letter___add__) (c_Letter : Ck P w K mg base 4 "Letter" CL (spInit2 CL CE)) : Cm P w K mg base 6 CL "__add__" (spBi CL kPair) := by
  refine cm_n D sc_Letter___add__ (fun vs H Q E h => ?_) (fun f cdv A outer s H vs Q E hr h => ?_)
  · obtain ⟨u, v, a, b, rfl, _⟩ := h
    rfl
  · obtain ⟨u, v, a, b, rfl, ⟨x, dx, ua, rfl, hx, fa⟩, ⟨y, dy, ub, rfl, hy, fb⟩, q⟩ := h
    have lcl := L.cl
    have lno := L.no
    refine ⟨_, (pss_cons (ps_if (pt_not (pt_val (pe_callB call_isi (by rfl) T.b_isinstance (by decide +kernel) (pa_cons (pv 1) (pa_cons (C8.pe_gc (v := .ref CL) (by rfl) ⟨_, L.mgC, rfl⟩) pa_nil)))))
  (pss_one ps_never)
  pss_nil)
  (pss_one (ps_ret (pe_mk (E := fun _ => E0) c_Letter hr (by decide) passE0 (by rfl) (pa_cons (pe_tup (pa_cons pe_str (pa_cons (pe_fld (pv 0) rfl) (pa_cons (pe_fld (pv 1) rfl) pa_nil)))) pa_nil))))), ?_⟩
    walk_at "go3"
    refine LC.isi hy ?_
    walk_at "go3"
    refine ⟨by show 3 ≤ sizeLine; decide, fun p hp => ?_⟩
    walk_at "go3"
    refine mk_tup upd_same fun H' z dz s1 hz => ?_
    have sp : Same H (upd H p (.tup [.str kPair, ua, ub])) := Same.upd hp
    exact q _ _ (sp.trans s1) ⟨z, dz, .ref p, rfl, hz, .bi (s1 _ _ upd_same) ((fa.same sp).same s1) ((fb.same sp).same s1)⟩
theorem cm_mul (T : Bl K mg) (L : Lt K mg CL) (LC : Lc K CL) (D : Dm K CL "__mul__" "Letter.__mul__" s_Letter___mul__ p_Letter___mul__) (c_Letter : Ck P w K mg base 4 "Letter" CL (spInit2 CL CE)) : Cm P w K mg base 6 CL "__mul__" (spBi CL kSeal) := by
  refine cm_n D sc_Letter___mul__ (fun vs H Q E h => ?_) (fun f cdv A outer s H vs Q E hr h => ?_)
  · obtain ⟨u, v, a, b, rfl, _⟩ := h
    rfl
  · obtain ⟨u, v, a, b, rfl, ⟨x, dx, ua, rfl, hx, fa⟩, ⟨y, dy, ub, rfl, hy, fb⟩, q⟩ := h
    have lcl := L.cl
    have lno := L.no
    refine ⟨_, (pss_cons (ps_if (pt_not (pt_val (pe_callB call_isi (by rfl) T.b_isinstance (by decide +kernel) (pa_cons (pv 1) (pa_cons (C8.pe_gc (v := .ref CL) (by rfl) ⟨_, L.mgC, rfl⟩) pa_nil)))))
  (pss_one ps_never)
  pss_nil)
  (pss_one (ps_ret (pe_mk (E := fun _ => E0) c_Letter hr (by decide) passE0 (by rfl) (pa_cons (pe_tup (pa_cons pe_str (pa_cons (pe_fld (pv 0) rfl) (pa_cons (pe_fld (pv 1) rfl) pa_nil)))) pa_nil))))), ?_⟩
    walk_at "go3"
    refine LC.isi hy ?_
    walk_at "go3"
    refine ⟨by show 3 ≤ sizeLine; decide, fun p hp => ?_⟩
    walk_at "go3"
    refine mk_tup upd_same fun H' z dz s1 hz => ?_
    have sp : Same H (upd H p (.tup [.str kSeal, ua, ub])) := Same.upd hp
    exact q _ _ (sp.trans s1) ⟨z, dz, .ref p, rfl, hz, .bi (s1 _ _ upd_same) ((fa.same sp).same s1) ((fb.same sp).same s1)⟩
theorem cm_invert (T : Bl K mg) (L : Lt K mg CL) (D : Dm K CL "__invert__" "Letter.__invert__" s_Letter___invert__ p_Letter___invert__) (c_Letter : Ck P w K mg base 4 "Letter" CL (spInit2 CL CE)) : Cm P w K mg base 6 CL "__invert__" (spUn CL kMark) := by
  refine cm_n D sc_Letter___invert__ (fun vs H Q E h => ?_) (fun f cdv A outer s H vs Q E hr h => ?_)
  · obtain ⟨u, a, rfl, _⟩ := h
    rfl
  · obtain ⟨u, a, rfl, ⟨x, dx, ua, rfl, hx, fa⟩, q⟩ := h
    have lcl := L.cl
    have lno := L.no
    refine ⟨_, (pss_one (ps_ret (pe_mk (E := fun _ => E0) c_Letter hr (by decide) passE0 (by rfl) (pa_cons (pe_tup (pa_cons pe_str (pa_cons (pe_fld (pv 0) rfl) pa_nil))) pa_nil)))), ?_⟩
    walk_at "go3"
    refine ⟨by show 2 ≤ sizeLine; decide, fun p hp => ?_⟩
    walk_at "go3"
    refine mk_tup upd_same fun H' z dz s1 hz => ?_
    have sp : Same H (upd H p (.tup [.str kMark, ua])) := Same.upd hp
    exact q _ _ (sp.trans s1) ⟨z, dz, .ref p, rfl, hz, .un (s1 _ _ upd_same) ((fa.same sp).same s1)⟩
theorem cm_pos (T : Bl K mg) (L : Lt K mg CL) (D : Dm K CL "__pos__" "Letter.__pos__" s_Letter___pos__ p_Letter___pos__) (c_Letter : Ck P w K mg base 4 "Letter" CL (spInit2 CL CE)) : Cm P w K mg base 6 CL "__pos__" (spUn CL kOpen) := by
  refine cm_n D sc_Letter___pos__ (fun vs H Q E h => ?_) (fun f cdv A outer s H vs Q E hr h => ?_)
  · obtain ⟨u, a, rfl, _⟩ := h
    rfl
  · obtain ⟨u, a, rfl, ⟨x, dx, ua, rfl, hx, fa⟩, q⟩ := h
    have lcl := L.cl
    have lno := L.no
    refine ⟨_, (pss_one (ps_ret (pe_mk (E := fun _ => E0) c_Letter hr (by decide) passE0 (by rfl) (pa_cons (pe_tup (pa_cons pe_str (pa_cons (pe_fld (pv 0) rfl) pa_nil))) pa_nil)))), ?_⟩
    walk_at "go3"
    refine ⟨by show 2 ≤ sizeLine; decide, fun p hp => ?_⟩
    walk_at "go3"
    refine mk_tup upd_same fun H' z dz s1 hz => ?_
    have sp : Same H (upd H p (.tup [.str kOpen, ua])) := Same.upd hp
    exact q _ _ (sp.trans s1) ⟨z, dz, .ref p, rfl, hz, .un (s1 _ _ upd_same) ((fa.same sp).same s1)⟩
theorem cm_neg (T : Bl K mg) (L : Lt K mg CL) (D : Dm K CL "__neg__" "Letter.__neg__" s_Letter___neg__ p_Letter___neg__) (c_Letter : Ck P w K mg base 4 "Letter" CL (spInit2 CL CE)) : Cm P w K mg base 6 CL "__neg__" (spUn CL kOwn) := by
  refine cm_n D sc_Letter___neg__ (fun vs H Q E h => ?_) (fun f cdv A outer s H vs Q E hr h => ?_)
  · obtain ⟨u, a, rfl, _⟩ := h
    rfl
  · obtain ⟨u, a, rfl, ⟨x, dx, ua, rfl, hx, fa⟩, q⟩ := h
    have lcl := L.cl
    have lno := L.no
    refine ⟨_, (pss_one (ps_ret (pe_mk (E := fun _ => E0) c_Letter hr (by decide) passE0 (by rfl) (pa_cons (pe_tup (pa_cons pe_str (pa_cons (pe_fld (pv 0) rfl) pa_nil))) pa_nil)))), ?_⟩
    walk_at "go3"
    refine ⟨by show 2 ≤ sizeLine; decide, fun p hp => ?_⟩
    walk_at "go3"
    refine mk_tup upd_same fun H' z dz s1 hz => ?_
    have sp : Same H (upd H p (.tup [.str kOwn, ua])) := Same.upd hp
    exact q _ _ (sp.trans s1) ⟨z, dz, .ref p, rfl, hz, .un (s1 _ _ upd_same) ((fa.same sp).same s1)⟩
theorem at0 {v : V} {xs : List V} : atI (v :: xs) (0 : Int) = some v := at_of (j := 0) rfl rfl
theorem inV_keys (k : Str) : inV (.str k) [V.str kOpen, V.str kOwn] = (k == kOpen || k == kOwn) := by
  show ((kOpen == k) || ((kOwn == k) || false)) = _
  rw [Bool.or_false, BEq.comm (a := kOpen), BEq.comm (a := kOwn)]
theorem head_at {H : Hp} {v : V} {a : Fm} (h : FmAt H v a) : ∃ p xs, v = .ref p ∧ H p = some (.tup (.str a.head :: xs)) := by
  cases h with
  | atm h => exact ⟨_, _, rfl, h⟩
  | un h _ => exact ⟨_, _, rfl, h⟩
  | bi h _ _ => exact ⟨_, _, rfl, h⟩
theorem key_head : ∀ {a : Fm}, a.kin = true → (a.head == kOpen || a.head == kOwn) = a.isKey
  | .atm k t, h => by
    simp only [Fm.kin, atK, Bool.or_eq_true, beq_iff_eq] at h
    rcases h with (rfl | rfl) | rfl
    · show (kWord == kOpen || kWord == kOwn) = false
      decide +kernel
    · show (kName == kOpen || kName == kOwn) = false
      decide +kernel
    · show (kUnk == kOpen || kUnk == kOwn) = false
      decide +kernel
  | .un k a, _ => rfl
  | .bi k a b, h => by
    simp only [Fm.kin, biK, Bool.and_eq_true, Bool.or_eq_true, beq_iff_eq] at h
    rcases h.1 with (rfl | rfl) | rfl
    · show (kPair == kOpen || kPair == kOwn) = false
      decide +kernel
    · show (kSeal == kOpen || kSeal == kOwn) = false
      decide +kernel
    · show (kLock == kOpen || kLock == kOwn) = false
      decide +kernel
theorem cm_xor (T : Bl K mg) (L : Lt K mg CL) (LC : Lc K CL) (D : Dm K CL "__xor__" "Letter.__xor__" s_Letter___xor__ p_Letter___xor__) (c_Letter : Ck P w K mg base 4 "Letter" CL (spInit2 CL CE)) (c_BadKey : Er P w K mg base 1 "BadKey" CX "key") : Cm P w K mg base 6 CL "__xor__" (spXor CL CX) := by
  obtain ⟨aK, hK, tK⟩ := T.t_KEYS
  have c_KEYS : ∃ u, mg "KEYS" = some u ∧ RelV (.ref aK) u := ⟨_, hK, rfl⟩
  refine cm_x D sc_Letter___xor__ (fun vs H Q E h => ?_) (fun f cdv A outer s H vs Q E hr h => ?_)
  · obtain ⟨u, v, a, b, rfl, _⟩ := h
    rfl
  · obtain ⟨u, v, a, b, rfl, ⟨x, dx, ua, rfl, hx, fa⟩, ⟨y, dy, ub, rfl, hy, fb⟩, hkin, q1, q2⟩ := h
    have lcl := L.cl
    have lno := L.no
    refine ⟨_, (pss_cons (ps_if (pt_not (pt_val (pe_callB call_isi (by rfl) T.b_isinstance (by decide +kernel) (pa_cons (pv 1) (pa_cons (C8.pe_gc (v := .ref CL) (by rfl) ⟨_, L.mgC, rfl⟩) pa_nil)))))
  (pss_one ps_never)
  pss_nil)
  (pss_cons (ps_if (pt_cmpR op_notIn_seq (pe_ix ix_tup (pe_fld (pv 1) rfl) pe_int (fun _ _ => rfl)) (C8.pe_gc (by rfl) c_KEYS) rfl)
  (pss_one (ps_rz rfl c_BadKey hr (by decide) (takes_of rfl rfl rfl rfl) (by rfl) (pa_cons (pv 1) pa_nil)))
  pss_nil)
  (pss_one (ps_ret (pe_mk (E := fun _ => E0) c_Letter hr (by decide) passE0 (by rfl) (pa_cons (pe_tup (pa_cons pe_str (pa_cons (pe_fld (pv 0) rfl) (pa_cons (pe_fld (pv 1) rfl) pa_nil)))) pa_nil)))))), ?_⟩
    walk_at "go3"
    refine LC.isi hy ?_
    walk_at "go3"
    obtain ⟨p, xs, rfl, ep⟩ := head_at fb
    refine g_ixT (v := .str b.head) (SqT.of ep) at0 ?_
    walk_at "go3"
    refine g_ninT (tK _) rfl rfl ?_
    rw [inV_keys, key_head hkin]
    cases hk : b.isKey with
    | false =>
      walk_at "go3"
      exact ⟨_, rfl, _, rfl, fun d hd => q2 hk H d (Same.refl _) hd⟩
    | true =>
      walk_at "go3"
      refine ⟨by show 3 ≤ sizeLine; decide, fun p2 hp => ?_⟩
      walk_at "go3"
      refine mk_tup upd_same fun H' z dz s1 hz => ?_
      have sp : Same H (upd H p2 (.tup [.str kLock, ua, .ref p])) := Same.upd hp
      exact q1 hk _ _ (sp.trans s1) ⟨z, dz, .ref p2, rfl, hz, .bi (s1 _ _ upd_same) ((fa.same sp).same s1) ((fb.same sp).same s1)⟩
end
end Op

namespace Op
open PySem PySem.Spec PyProof.Rows L2 L2H
/-! ## a def that raises nothing, called within an except suite -/
/-- its promise there; p stands for the exception that is handled -/
structure Fc (P : Program) (w : World) (K : PySem.W.Frag) (mg : Str → Option Value) (base : Heap) (k : Nat) (f : Addr) (fd : FuncData) (ps : List Str) (sp : Sp) : Prop where
  len : ∀ vs H Q E, sp vs H Q E → vs.length = ps.length
  run : ∀ (A : Around) (outer : List Env) (s : Shared) (H : Hp) (us : List Value) (vs : List V) (Q : VK) (p : Addr × Obj), RoomH k A → PinOk outer H s p → Env0 P w K mg base A outer s H → BindsTo s fd ⟨us, []⟩ (ps.zip us) → Vals vs us → sp vs H Q E0 →
    codeAny (model P w) A (.call (.ref f) ⟨us, []⟩) (CR (L2.CX P w) outer P w H s Q E0) s
theorem fc_of {P : Program} {w : World} {K : PySem.W.Frag} {mg : Str → Option Value} {base : Heap} {k : Nat} {f : Addr} {fd : FuncData} {N ps : List Str} {x qual : Str} {st : Stmt} {sp : Sp} (F : Fun K x qual st f fd) (S : FnScope N ps (defScope st)) (len : ∀ vs H Q E, sp vs H Q E → vs.length = ps.length)
    (hb : ∀ (cdv : Value) (A : Around) (outer : List Env) (s : Shared) (H : Hp) (vs : List V) (Q : VK) (p : Addr × Obj), RoomH k (A.deeper (envOfC qual (defScope st) s.heap.objs.size f cdv)) → sp vs H Q E0 →
      ∃ t, PSs (cxH (L2.CX P w) P w K mg base N qual (defScope st) f cdv A outer s H E0 p).nox (defBody st) t ∧ t { nx := fun _ H' => Q .non H', rt := Q } (L2.start N vs) H) : Fc P w K mg base (k + 1) f fd ps sp := by
  obtain ⟨oc, od, kV, doc, pm, an, cdv, ct, osl, rfl, lk, hcd⟩ := F.ex
  refine ⟨len, ?_⟩
  intro A outer s H us vs Q p hr hp e0 bd r hsp
  have old : ∀ b o, base.get? b = some o → s.heap.get? b = some o := fun b o e => (e0.bs b o e).1
  have KX : K.In s.heap := e0.mod.kin.keeps old
  have kinds : ∀ y ∈ ps.zip us, (defScope st).names.lookup y.1 = some .local ∨ ((defScope st).names.lookup y.1 = some .cell ∧ ((cellsFrom (s.heap.objs.size + 1) (defScope st).names []).lookup y.1).isSome = true) := by
    rintro ⟨n, v⟩ hy
    exact (S.par n (List.of_mem_zip hy).1).elim .inl fun q => .inr ⟨q, PySem.W.cellsFrom_some _ _ _ (.inl q)⟩
  refine codeAny_call_function hr.depth (KX _ _ lk) rfl S.co S.gen rfl (PySem.W.codeRec_of KX hcd) (bd _ _ _ _ ?_)
  refine wpAny_newFunctionEnv_cells S.kind kinds fun env he s1 ic => ?_
  subst he
  obtain ⟨t, ht, hq⟩ := hb cdv A outer s H vs Q p (hr.deeper _) hsp
  have J := inv_startH (CX := L2.CX P w) (w := w) (mg := mg) (E := E0) (cd := cdv) S hp e0 (len _ _ _ _ hsp) r ic
  have lim : s.heap.NoLimit := e0.mod.nolimit.keeps old
  refine ⟨lim.keeps ic.toInCall.keep, codeAny_func (wpAny_mono (ht.nox.run [] s1 _ H _ J hq) (fun fl s' h => ?_) fun e s' h => h)⟩
  match fl, h with
  | .ret u, ⟨v, σ', H', J', rv, q⟩ => exact ⟨v, H', J'.os, J'.bare, J'.base, J'.hok, rv, q⟩
  | .next, ⟨σ', H', J', q⟩ => exact ⟨V.non, H', J'.os, J'.bare, J'.base, J'.hok, rfl, q⟩
  | .brk, ⟨_, _, _, q⟩ => exact False.elim q
  | .cont, ⟨_, _, _, q⟩ => exact False.elim q
/-- a method that may be called there -/
structure Mc (P : Program) (w : World) (K : PySem.W.Frag) (mg : Str → Option Value) (base : Heap) (k : Nat) (C : Addr) (m : Str) (sp : Sp) : Prop where
  ex : ∃ (f : Addr) (fd : FuncData) (ps : List Str), Fc P w K mg base k f fd ps sp ∧ Meth K C m f ∧ Binds K fd ps []
section
variable {X : Cx} {k j : Nat} {C a : Addr} {m : Str} {sp : Sp} {pos apos : Pos} {o : Expr} {ta : TE} {oe : Obj} {pn : List (Addr × Obj)}
theorem pe_mc0 {pl : Sem Bool} (c : Mc X.prog X.w X.K X.mg X.base k C m sp) (cl : Cls X.K C) (hr : Room j X.A) (hk : k ≤ j) (he : PE (X.suite a ((a, oe) :: pn)) o ta)
    (ht : eval (.Call (.Attribute o m apos) [] [] pos) X.env = (do
      let ov ← eval o X.env
      standAt apos.atName
      let (g, first) ← holding [ov] (getMethod ov m pl)
      callWith pos g first (backTo pos (starEach [] X.env)) (backToKw pos (keywordEach [] X.env))) := by rfl) :
    PE (X.suite a ((a, oe) :: pn)) (.Call (.Attribute o m apos) [] [] pos) (tCm C m sp ta tNil) := by
  obtain ⟨f, fd, ps, F, M, b⟩ := c.ex
  refine ⟨fun pins s σ H Q I h => ?_⟩
  refine PySem.W.methodCall_KW (pl := pl) (thn (he.run pins s σ H _ I h) fun u s1 hh => ?_) ht
  obtain ⟨x, H1, I1, rx, q, dx, fs, ex, ea, l, q1⟩ := hh
  subst ex
  obtain rfl : u = Value.ref q := rx
  refine getmeth_ok I1 ea cl M l ?_
  refine PySem.W.callWith_K0 (first := [.ref q]) I1.kIn M.kp ?_
  have hroom : RoomH k (X.suite a ((a, oe) :: pn)).A := ⟨(hr.mono hk).dp, (hr.mono hk).un⟩
  obtain ⟨g1, g2, g3, g4, g5⟩ := I1.pin (a, oe) (List.mem_append_left _ List.mem_cons_self)
  have hpin : PinOk (X.suite a ((a, oe) :: pn)).stack H1 s1 (a, oe) := ⟨g1, g2, fun z => (List.mem_cons.mp (I1.stkSub a z)).elim g3 g4, g5⟩
  have rv : Vals [V.ref q] [Value.ref q] := .cons (rfl : L2.RelV (.ref q) (.ref q)) .nil
  have hl : [Value.ref q].length = ps.length := rv.length.symm.trans (F.len _ _ _ _ q1)
  have bd := b s1 [Value.ref q] I1.kIn (by rw [List.append_nil]; exact hl)
  rw [List.append_nil] at bd
  refine wpAny_call (codeAny_mono (F.run (X.suite a ((a, oe) :: pn)).A (X.suite a ((a, oe) :: pn)).stack s1 H1 [.ref q] [.ref q] Q (a, oe) hroom hpin I1.env0 bd rv q1) fun r s' hq => ?_)
  match r, hq with
  | .error e, hq => exact passE0 σ pins H1 s1 e s' I1 hq
  | .ok (.ret u), hq => exact I1.after hq
  | .ok .next, hq => exact False.elim hq
  | .ok .brk, hq => exact False.elim hq
  | .ok .cont, hq => exact False.elim hq
end
end Op

namespace Op
open PySem PySem.Spec PyProof.Rows L2 SX
local macro_rules | `(tactic| walk_at "go1") => `(tactic| first
  | ((with_reducible refine' g_var ?h ?_); (case h => rfl)) | with_reducible refine' g_c ?_ | with_reducible refine' g_op ?_ | with_reducible refine' g_un ?_ | with_reducible refine' g_if ?_ | with_reducible refine' g_test ?_ | with_reducible refine' g_B ?_ | with_reducible refine' g_bl ?_
  | with_reducible refine' g_not ?_ | with_reducible refine' g_and ?_ | with_reducible refine' g_or ?_ | with_reducible refine' g_andV ?_ | with_reducible refine' g_orV ?_ | with_reducible refine' g_notV ?_ | with_reducible refine' g_nil ?_ | with_reducible refine' g_cons ?_ | with_reducible refine' g_CB ?_ | with_reducible refine' g_ca ?_
  | with_reducible refine' g_seq ?_ | with_reducible refine' g_next ?_ | with_reducible refine' g_asg ?_ | with_reducible refine' g_name ?_ | with_reducible refine' g_ret ?_ | with_reducible refine' g_retN ?_ | with_reducible refine' g_drop ?_ | with_reducible refine' g_ifS ?_ | with_reducible refine' g_sub ?_
  | with_reducible refine' g_I0 ?_ | with_reducible refine' g_U ?_ | ((with_reducible refine' g_eq ?h ?_); (case h => rfl)) | ((with_reducible refine' g_ne ?h ?_); (case h => rfl))
  | ((with_reducible refine' g_lenL ?h ?_); (case h => first | assumption | exact SqL.of (by assumption) | exact SqL.of upd_same)) | ((with_reducible refine' g_lenT ?h ?_); (case h => first | assumption | exact SqT.of (by assumption) | exact SqT.of upd_same))
  | ((with_reducible refine' g_ixL ?h ?ha ?_); (case h => first | assumption | exact SqL.of (by assumption) | exact SqL.of upd_same); (case ha => rfl)) | ((with_reducible refine' g_ixT ?h ?ha ?_); (case h => first | assumption | exact SqT.of (by assumption) | exact SqT.of upd_same); (case ha => rfl))
  | ((with_reducible refine' g_I ?h ?_); (case h => first | decide | omega | (first | refine' ⟨?_, ?_, ?_⟩ | refine' ⟨?_, ?_⟩ | refine' Or.inl ⟨?_, ?_⟩) <;> omega | (refine' Or.inr ⟨?_, ?_⟩ <;> omega)))
  | ((with_reducible refine' g_setL ?h ?ha ?_); (case h => first | assumption | exact upd_same); (case ha => rfl))
  | with_reducible refine' g_lcR ?_
  | with_reducible refine' g_M1 ?_ | with_reducible refine' g_isS ?_ | with_reducible refine' g_tyS ?_ | ((with_reducible refine' g_tyL ?h ?_); (case h => first | assumption | exact upd_same))
  | ((with_reducible refine' g_cat ?h ?h2 ?hl ?_); (case h => first | assumption | exact upd_same); (case h2 => first | assumption | exact upd_same); (case hl => first | decide | (simp; omega)))
  | with_reducible refine' g_lcS ?_
  | with_reducible refine' g_starts ?_ | with_reducible refine' g_chain ?_
  | ((with_reducible refine' g_lenS ?h ?_); (case h => first | exact len_le (by assumption) | exact len_le (by omega))) | ((with_reducible refine' g_rstrip ?h ?_); (case h => first | exact len_le (by assumption) | exact len_le (by omega))) | ((with_reducible refine' g_slX ?h ?_); (case h => first | exact len_le (by assumption) | exact len_le (by omega)))
  | with_reducible refine' g_sl ?_ | with_reducible refine' g_nopart ?_ | with_reducible refine' g_part ?_ | with_reducible refine' g_isI ?_
  | with_reducible refine' g_tru ?_
  | with_reducible refine' iteT ?_ | with_reducible refine' iteF ?_ | with_reducible refine' iteNT ?_ | with_reducible refine' iteNF ?_
  | with_reducible refine' g_int ?_ | with_reducible refine' g_insg ?_ | with_reducible refine' g_ninsg ?_ | with_reducible refine' g_isN ?_ | with_reducible refine' g_notN ?_ | with_reducible refine' g_lst ?_ | with_reducible refine' g_tup ?_ | with_reducible refine' g_BM ?_ | with_reducible refine' g_BM0 ?_)
local macro_rules | `(tactic| walk_at "go") => `(tactic| repeat' walk_at "go1")
local macro_rules | `(tactic| walk_at "go2") => `(tactic| repeat' (first | walk_at "go1" | with_reducible refine' g_cm ?_ | with_reducible refine' g_mk ?_ | with_reducible refine' g_for ?_ | ((with_reducible refine' g_rcm ?h ?ha ?_); (case h => first | assumption | exact upd_same); (case ha => first | rfl | decide | simp [List.lookup]))))
/- macro2 -/
local macro_rules | `(tactic| walk_at "go3a") => `(tactic| first
  | walk_at "go1" | with_reducible refine' g_cm ?_ | with_reducible refine' g_mk ?_ | with_reducible refine' g_for ?_ | with_reducible refine' g_fld ?_ | with_reducible refine' g_lcT0 ?_
  | ((with_reducible refine' g_rcm ?h ?ha ?_); (case h => first | assumption | exact upd_same); (case ha => first | rfl | decide | simp [List.lookup]))
  | ((with_reducible refine' g_shape ?hc ?hn ?h ?_); (case hc => assumption); (case hn => assumption); (case h => first | assumption | exact upd_same | (rw [upd_ne (by assumption)]; assumption))))
local macro_rules | `(tactic| walk_at "go3") => `(tactic| repeat' walk_at "go3a")
local macro_rules | `(tactic| walk_at "go4") => `(tactic| repeat' (first
  | walk_at "go3a" | ((with_reducible refine' iteDT ?h ?_); (case h => first | rfl | decide +kernel)) | ((with_reducible refine' iteDF ?h ?_); (case h => decide +kernel))))
/-! ## drawn forms -/
theorem cap_mem {c : Nat} (h : 65 ≤ c ∧ c ≤ 90) : c ∈ capL := by
  have : ∀ c : Fin 128, 65 ≤ c.val ∧ c.val ≤ 90 → c.val ∈ capL := by decide +kernel
  exact this ⟨c, by omega⟩ h
theorem small_mem {c : Nat} (h : 97 ≤ c ∧ c ≤ 122) : c ∈ smallL := by
  have : ∀ c : Fin 128, 97 ≤ c.val ∧ c.val ≤ 122 → c.val ∈ smallL := by decide +kernel
  exact this ⟨c, by omega⟩ h
theorem dig_mem {c : Nat} (h : 48 ≤ c ∧ c ≤ 57) : c ∈ digL := by
  have : ∀ c : Fin 128, 48 ≤ c.val ∧ c.val ≤ 57 → c.val ∈ digL := by decide +kernel
  exact this ⟨c, by omega⟩ h
theorem wordB_of {cs : List Nat} (h : isWordL cs) : isWordB cs = true := by
  simp only [isWordB, Bool.and_eq_true, decide_eq_true_eq]
  exact ⟨h.1, h.2.1, allIn_of fun c hc => small_mem (h.2.2 c hc)⟩
theorem nameB_of {cs : List Nat} (h : isNameL cs) : isNameB cs = true := by
  obtain ⟨as, bs, rfl, h1, h2, h3, h4⟩ := h
  have e : noDig (as ++ bs) = as := noDig_of (fun c hc => cap_mem (h3 c hc)) (fun c hc => dig_mem (h4 c hc))
  simp only [isNameB, Bool.and_eq_true, decide_eq_true_eq]
  rw [e]
  exact ⟨h1, h2, allIn_of fun c hc => cap_mem (h3 c hc)⟩
/-- the law's list of unknowns stands at us -/
def UsAt (H : Hp) (us : Addr) (xs : List (List Nat)) : Prop := H us = some (.lst (xs.map fun x => .str (S x))) ∧ (∀ x ∈ xs, isUnkB x = true) ∧ xs.length < 1000
theorem UsAt.but {H H' : Hp} {us st : Addr} {xs : List (List Nat)} (h : UsAt H us xs) (n : us ≠ st) (b : But st H H') : UsAt H' us xs := ⟨b _ _ n h.1, h.2⟩
theorem UsAt.same {H H' : Hp} {us : Addr} {xs : List (List Nat)} (h : UsAt H us xs) (b : Same H H') : UsAt H' us xs := ⟨b _ _ h.1, h.2⟩
theorem StAt.tps {H H' : Hp} {st : Addr} {n : Nat} (h : StAt H st n) (b : But st H H') : Tps H H' := fun x ys e => by
  obtain ⟨a1, a2, a3, e0, _⟩ := h
  exact b _ _ (ne_of e e0 (by intro z; cases z)) e
def spAtom : Sp := fun vs H Q _ => ∃ (st us : Addr) (xs : List (List Nat)) (n : Nat), vs = [.ref st, .ref us] ∧ UsAt H us xs ∧ us ≠ st ∧ StAt H st n ∧ n + 20 ≤ 1000000000000 ∧
  ∀ H' v k t, (Fm.atm k t).ok = true → But st H H' → StAt H' st (n + 20) → FmAt H' v (.atm k t) → Q v H'
theorem ok_word {t : List Nat} (h : isWordB t = true) : (Fm.atm kWord t).ok = true := by simp [Fm.ok, h]
theorem ok_name {t : List Nat} (h : isNameB t = true) : (Fm.atm kName t).ok = true := by simp [Fm.ok, h]
theorem ok_unk {t : List Nat} (h : isUnkB t = true) : (Fm.atm kUnk t).ok = true := by simp [Fm.ok, h]
theorem unk_str (xs : List (List Nat)) (h : ∀ x ∈ xs, isUnkB x = true) : SeqAt.shaped (.list (xs.map fun x => .str (S x))) = true := by
  have h1 : ∀ x : List Nat, isUnkB x = true → PyData.strOk (S x) = true := fun x hx => by
    simp only [isUnkB, Bool.and_eq_true] at hx
    show (S x).cps.all (· < 0x110000) = true
    rw [← Array.all_toList]
    exact List.all_eq_true.mpr fun c hc => decide_eq_true (by
      have := allIn_mem hx.2.2 c hc
      have : ∀ c ∈ smallL, c < 128 := by decide +kernel
      have := this c (by assumption)
      omega)
  have h2 : PyData.canLayAll0 (xs.map fun x => PyData.str (S x)) = true := by
    induction xs with
    | nil => rfl
    | cons x r ih =>
      show (PyData.strOk (S x) && PyData.canLayAll0 (r.map fun x => PyData.str (S x))) = true
      rw [h1 x (h x (List.mem_cons_self ..)), ih fun y hy => h y (List.mem_cons_of_mem _ hy)]
      rfl
  have h3 : PyData.depthAll (xs.map fun x => PyData.str (S x)) = 0 := by
    clear h h1 h2
    induction xs with
    | nil => rfl
    | cons x r ih =>
      show max 0 (PyData.depthAll (r.map fun x => PyData.str (S x))) = 0
      rw [ih]
      rfl
  show (PyData.canLayAll0 (xs.map fun x => PyData.str (S x)) && decide (PyData.depthAll (xs.map fun x => PyData.str (S x)) + 1 ≤ 64)) = true
  rw [h2, h3]
  rfl
theorem eqv_nil (xs : List (List Nat)) : PyData.eqv (.list (xs.map fun x => .str (S x))) (.list []) = xs.isEmpty := by
  cases xs with
  | nil => rfl
  | cons x r => rfl
theorem dp_strs {K : PySem.W.Frag} {H : Hp} : ∀ xs : List (List Nat), DpAll K H (xs.map fun x => V.str (S x)) (xs.map fun x => PyData.str (S x))
  | [] => .nil
  | x :: r => .cons (.str _) (dp_strs r)
section
variable {P : Program} {w : World} {K : PySem.W.Frag} {mg : Str → Option Value} {base : Heap} {CL CE CX : Addr}
theorem ca_atom (T : Bl K mg) (D : Df K mg "_law_atom" s_law_atom p_law_atom) (c_law_draw : Ca P w K mg base 1 "_law_draw" spDraw) (c_law_pick : Ca P w K mg base 2 "_law_pick" (spPick K)) (c_law_word : Ca P w K mg base 2 "_law_word" spWord) (c_law_name : Ca P w K mg base 2 "_law_name" spName) :
    Ca P w K mg base 3 "_law_atom" spAtom := by
  refine ca_n D sc_law_atom (fun vs H Q E h => ?_) (fun f cdv A outer s H vs Q E hr h => ?_)
  · obtain ⟨st, us, xs, n, rfl, _⟩ := h
    rfl
  · obtain ⟨st, us, xs, n, rfl, hus, hne, hst, hn, q⟩ := h
    refine ⟨_, (pss_cons (ps_set (i := 2) sc_law_atom.nd rfl (Or.inl rfl) (pe_ca c_law_draw hr (by decide) (by rfl) (pa_cons (pv 0) (pa_cons pe_int pa_nil))))
  (C8.pss_cut (ps_if (PW.pt (pw_and (pt_cmpR op_lt (pv 2) pe_int (nomark _)) (pw_and1 (pt_cmpR (op_neD hr.units) (pv 1) (pe_lst pa_nil) (nomark _)))))
  (pss_one (ps_ret (pe_tup (pa_cons pe_str (pa_cons (pe_ca c_law_pick hr (by decide) (by rfl) (pa_cons (pv 0) (pa_cons (pv 1) pa_nil))) pa_nil)))))
  pss_nil)
  (pss_cons (ps_if (pt_cmpR op_lt (pv 2) pe_int (nomark _))
  (pss_one (ps_ret (pe_tup (pa_cons pe_str (pa_cons (pe_ca c_law_pick hr (by decide) (by rfl) (pa_cons (pv 0) (pa_cons (pe_lst (pa_cons pe_str (pa_cons pe_str (pa_cons pe_str (pa_cons pe_str (pa_cons (pe_ca c_law_name hr (by decide) (by rfl) (pa_cons (pv 0) pa_nil)) pa_nil)))))) pa_nil))) pa_nil)))))
  pss_nil)
  (pss_one (ps_ret (pe_tup (pa_cons pe_str (pa_cons (pe_ca c_law_pick hr (by decide) (by rfl) (pa_cons (pv 0) (pa_cons (pe_lst (pa_cons pe_str (pa_cons pe_str (pa_cons pe_str (pa_cons pe_str (pa_cons (pe_ca c_law_word hr (by decide) (by rfl) (pa_cons (pv 0) pa_nil)) pa_nil)))))) pa_nil))) pa_nil)))))))), ?_⟩
    walk_at "go3"
    refine g_draw (m := 6) rfl (by decide) (by decide) hst (by omega) fun H1 d hd b1 s1 => ?_
    have u1 := hus.but hne b1
    walk_at "go3"
    refine ⟨fun σ' H' => σ' = [some (.ref st), some (.ref us), some (.int (d : Int))] ∧ Same H1 H', ?_, ?_⟩
    · walk_at "go3"
      refine iteD (fun h1 => ?_) (fun h1 => ?_)
      · walk_at "go3"
        refine ⟨Nat.zero_le _, fun p hp => ?_⟩
        have u2 := u1.same (Same.upd (o := .lst []) hp)
        refine ⟨.list (xs.map fun x => .str (S x)), .list [], .lst (SqL.of u2.1) (dp_strs xs), .lst (SqL.of upd_same) .nil, unk_str xs u1.2.1, rfl, ?_⟩
        rw [eqv_nil]
        walk_at "go3"
        refine iteB (fun h2 => ?_) (fun h2 => ?_)
        · walk_at "go3"
          have hx : xs ≠ [] := fun z => by rw [z] at h2; cases h2
          refine ⟨st, us, xs.map fun x => .str (S x), n + 1, rfl, SqL.of u2.1, hne, by rw [List.length_map]; exact List.length_pos_iff.mpr hx, by rw [List.length_map]; have := u1.2.2; omega, s1.same (Same.upd hp), by omega, fun H2 v hv b2 s2 => ?_⟩
          obtain ⟨x, hx, rfl⟩ := List.mem_map.mp hv
          walk_at "go3"
          refine ⟨by show 2 ≤ sizeLine; decide, fun p2 hp2 => ?_⟩
          refine q _ _ kUnk x (ok_unk (u1.2.1 x hx)) ((b1.trans ((But.of (Same.upd hp)).trans b2)).trans (But.of (Same.upd hp2))) ((s2.same (Same.upd hp2)).mono (by omega)) (.atm upd_same)
        · walk_at "go3"
          exact ⟨rfl, Same.upd hp⟩
      · walk_at "go3"
        exact ⟨rfl, Same.refl _⟩
    · rintro σ' H2 ⟨rfl, s2⟩
      walk_at "go3"
      refine iteD (fun h1 => ?_) (fun h1 => ?_)
      · walk_at "go3"
        refine ⟨st, n + 1, rfl, s1.same s2, by omega, fun H3 cs hcs b3 s3 => ?_⟩
        walk_at "go3"
        refine ⟨by show 5 ≤ sizeLine; decide, fun p hp => ?_⟩
        walk_at "go3"
        refine ⟨st, p, [.str (Str.ofString "K"), .str (Str.ofString "N"), .str (Str.ofString "S"), .str (Str.ofString "AB"), .str (S cs)], _, rfl, SqL.of upd_same, (s3.ne hp).symm, by show 0 < 5; decide, by show 5 < 1000000; decide, s3.same (Same.upd hp), by omega, fun H4 v hv b4 s4 => ?_⟩
        obtain ⟨t, rfl, ht⟩ : ∃ t, v = .str (S t) ∧ isNameB t = true := by
          simp only [List.mem_cons, List.not_mem_nil, or_false] at hv
          rcases hv with rfl | rfl | rfl | rfl | rfl
          · exact ⟨(Str.ofString "K").cps.toList, by rw [S_tl], by decide +kernel⟩
          · exact ⟨(Str.ofString "N").cps.toList, by rw [S_tl], by decide +kernel⟩
          · exact ⟨(Str.ofString "S").cps.toList, by rw [S_tl], by decide +kernel⟩
          · exact ⟨(Str.ofString "AB").cps.toList, by rw [S_tl], by decide +kernel⟩
          · exact ⟨cs, rfl, nameB_of hcs⟩
        walk_at "go3"
        refine ⟨by show 2 ≤ sizeLine; decide, fun p2 hp2 => ?_⟩
        refine q _ _ kName t (ok_name ht) ((b1.trans (But.of s2)).trans ((b3.trans ((But.of (Same.upd hp)).trans b4)).trans (But.of (Same.upd hp2)))) ((s4.same (Same.upd hp2)).mono (by omega)) (.atm upd_same)
      · walk_at "go3"
        refine ⟨st, n + 1, rfl, s1.same s2, by omega, fun H3 cs hcs b3 s3 => ?_⟩
        walk_at "go3"
        refine ⟨by show 5 ≤ sizeLine; decide, fun p hp => ?_⟩
        walk_at "go3"
        refine ⟨st, p, [.str (Str.ofString "a"), .str (Str.ofString "b"), .str (Str.ofString "yes"), .str (Str.ofString "open"), .str (S cs)], _, rfl, SqL.of upd_same, (s3.ne hp).symm, by show 0 < 5; decide, by show 5 < 1000000; decide, s3.same (Same.upd hp), by omega, fun H4 v hv b4 s4 => ?_⟩
        obtain ⟨t, rfl, ht⟩ : ∃ t, v = .str (S t) ∧ isWordB t = true := by
          simp only [List.mem_cons, List.not_mem_nil, or_false] at hv
          rcases hv with rfl | rfl | rfl | rfl | rfl
          · exact ⟨(Str.ofString "a").cps.toList, by rw [S_tl], by decide +kernel⟩
          · exact ⟨(Str.ofString "b").cps.toList, by rw [S_tl], by decide +kernel⟩
          · exact ⟨(Str.ofString "yes").cps.toList, by rw [S_tl], by decide +kernel⟩
          · exact ⟨(Str.ofString "open").cps.toList, by rw [S_tl], by decide +kernel⟩
          · exact ⟨cs, rfl, wordB_of hcs⟩
        walk_at "go3"
        refine ⟨by show 2 ≤ sizeLine; decide, fun p2 hp2 => ?_⟩
        refine q _ _ kWord t (ok_word ht) ((b1.trans (But.of s2)).trans ((b3.trans ((But.of (Same.upd hp)).trans b4)).trans (But.of (Same.upd hp2)))) ((s4.same (Same.upd hp2)).mono (by omega)) (.atm upd_same)
/-! ### drawn forms of a depth -/
def Fm.dep : Fm → Nat
  | .atm _ _ => 0
  | .un _ a => a.dep + 1
  | .bi _ a b => max a.dep b.dep + 1
/-- draws, sizes at most, by the depth asked -/
def dr : Nat → Nat
  | 0 => 25
  | e + 1 => 2 * dr e + 25
theorem dr_ge : ∀ e, 25 ≤ dr e
  | 0 => Nat.le_refl _
  | e + 1 => by have := dr_ge e; show 25 ≤ 2 * dr e + 25; omega
def szB : Nat → Nat
  | 0 => 1
  | e + 1 => 2 * szB e + 2
def spForm1 (d : Nat) : Sp := fun vs H Q _ => ∃ (st us : Addr) (xs : List (List Nat)) (n e : Nat), vs = [.ref st, .ref us, .int (e : Int)] ∧ e < d ∧ UsAt H us xs ∧ us ≠ st ∧ StAt H st n ∧ n + dr e ≤ 1000000000000 ∧
  ∀ H' v a, a.ok = true → a.dep ≤ 2 * e → a.size ≤ szB e → But st H H' → StAt H' st (n + dr e) → FmAt H' v a → Q v H'
theorem ca_form (T : Bl K mg) (D : Df K mg "_law_form" s_law_form p_law_form) (c_law_draw : Ca P w K mg base 1 "_law_draw" spDraw) (c_law_atom : Ca P w K mg base 3 "_law_atom" spAtom) : ∀ d, Ca P w K mg base (4 + d) "_law_form" (spForm1 d)
  | 0 => by
    refine ca_n D sc_law_form (fun vs H Q E h => ?_) (fun f cdv A outer s H vs Q E hr h => ?_)
    · obtain ⟨st, us, xs, n, e, rfl, _⟩ := h
      rfl
    · obtain ⟨st, us, xs, n, e, rfl, he, _⟩ := h
      exact absurd he (Nat.not_lt_zero _)
  | d + 1 => by
    have c_law_form := ca_form T D c_law_draw c_law_atom d
    refine ca_n (k := 4 + d) D sc_law_form (fun vs H Q E h => ?_) (fun f cdv A outer s H vs Q E hr h => ?_)
    · obtain ⟨st, us, xs, n, e, rfl, _⟩ := h
      rfl
    · obtain ⟨st, us, xs, n, e, rfl, he, hus, hne, hst, hn, q⟩ := h
      refine ⟨_, (C8.pss_cut (ps_set (i := 3) sc_law_form.nd rfl (Or.inl rfl) (pe_ifExp (pt_cmpR op_gt (pv 2) pe_int (nomark _)) (pe_ca c_law_draw hr (by omega) (by rfl) (pa_cons (pv 0) (pa_cons pe_int pa_nil))) pe_int))
  (pss_cons (ps_if (pt_cmpR op_lt (pv 3) pe_int (nomark _))
  (pss_one (ps_ret (pe_ca c_law_atom hr (by omega) (by rfl) (pa_cons (pv 0) (pa_cons (pv 1) pa_nil)))))
  pss_nil)
  (pss_cons (ps_set (i := 4) sc_law_form.nd rfl (Or.inl rfl) (pe_ca c_law_form hr (by omega) (by rfl) (pa_cons (pv 0) (pa_cons (pv 1) (pa_cons (pe_op op_sub (pv 2) pe_int) pa_nil)))))
  (pss_cons (ps_if (pt_cmpR op_gt (pv 3) pe_int (nomark _))
  (pss_one (ps_ret (pe_tup (pa_cons (pe_ix ix_list (pe_lst (pa_cons pe_str (pa_cons pe_str (pa_cons pe_str pa_nil)))) (pe_ca c_law_draw hr (by omega) (by rfl) (pa_cons (pv 0) (pa_cons pe_int pa_nil))) (fun _ _ => rfl)) (pa_cons (pv 4) pa_nil)))))
  pss_nil)
  (pss_cons (ps_set (i := 5) sc_law_form.nd rfl (Or.inl rfl) (pe_ca c_law_form hr (by omega) (by rfl) (pa_cons (pv 0) (pa_cons (pv 1) (pa_cons (pe_op op_sub (pv 2) pe_int) pa_nil)))))
  (pss_cons (ps_if (pt_cmpR op_gt (pv 3) pe_int (nomark _))
  (pss_one (ps_ret (pe_tup (pa_cons pe_str (pa_cons (pv 4) (pa_cons (pe_tup (pa_cons (pe_ix ix_list (pe_lst (pa_cons pe_str (pa_cons pe_str pa_nil))) (pe_ca c_law_draw hr (by omega) (by rfl) (pa_cons (pv 0) (pa_cons pe_int pa_nil))) (fun _ _ => rfl)) (pa_cons (pv 5) pa_nil))) pa_nil))))))
  pss_nil)
  (pss_one (ps_ret (pe_tup (pa_cons (pe_ix ix_list (pe_lst (pa_cons pe_str (pa_cons pe_str pa_nil))) (pe_op op_mod (pe_callTy cq_int (by rfl) T.b_int (by decide +kernel) (pa_cons (pv 3) pa_nil)) pe_int) (fun _ _ => rfl)) (pa_cons (pv 4) (pa_cons (pv 5) pa_nil)))))))))))), ?_⟩
      walk_at "go3"
      have hdr := dr_ge e
      refine ⟨fun σ' H' => ∃ w : Nat, σ' = [some (.ref st), some (.ref us), some (.int (e : Int)), some (.int (w : Int)), none, none] ∧ But st H H' ∧ StAt H' st (n + 1) ∧ (e = 0 → w = 0) ∧ w < 11, ?_, ?_⟩
      · walk_at "go3"
        refine iteD (fun h1 => ?_) (fun h1 => ?_)
        · walk_at "go3"
          refine g_draw (m := 11) rfl (by decide) (by decide) hst (by omega) fun H1 w hw b1 s1 => ?_
          walk_at "go3"
          exact ⟨w, rfl, b1, s1, fun z => by omega, hw⟩
        · walk_at "go3"
          exact ⟨0, rfl, But.refl _, hst.mono (by omega), fun _ => rfl, by decide⟩
      · rintro σ' H1 ⟨w, rfl, b1, s1, hw0, hw⟩
        have u1 := hus.but hne b1
        walk_at "go3"
        refine iteD (fun h1 => ?_) (fun h1 => ?_)
        · walk_at "go3"
          refine ⟨st, us, xs, n + 1, rfl, u1, hne, s1, by omega, fun H2 v k t hk b2 s2 fa => ?_⟩
          refine q _ _ _ hk (Nat.zero_le _) ?_ (b1.trans b2) (s2.mono (by omega)) fa
          show 1 ≤ szB e
          cases e with
          | zero => exact Nat.le_refl _
          | succ e => show 1 ≤ 2 * szB e + 2; omega
        cases e with
        | zero => exact absurd (hw0 rfl) (by omega)
        | succ e' =>
        have hdr2 : dr (e' + 1) = 2 * dr e' + 25 := rfl
        have hsz2 : szB (e' + 1) = 2 * szB e' + 2 := rfl
        have hdr3 := dr_ge e'
        walk_at "go3"
        refine ⟨st, us, xs, n + 1, e', by rw [show ((e' + 1 : Nat) : Int) - 1 = (e' : Int) by omega], by omega, u1, hne, s1, by omega, fun H2 v1 a1 ok1 dp1 sz1 b2 s2 f1 => ?_⟩
        have u2 := u1.but hne b2
        walk_at "go3"
        refine iteD (fun h2 => ?_) (fun h2 => ?_)
        · walk_at "go3"
          refine ⟨by show 3 ≤ sizeLine; decide, fun p hp => ?_⟩
          walk_at "go3"
          refine' g_pick ?hz hp s2 ?hn ?h0 ?h1 ?_
          case hz => rfl
          case hn => omega
          case h0 => decide
          case h1 => decide
          intro H3 v hv b3 s3
          obtain ⟨k, rfl, hk⟩ : ∃ k, v = .str k ∧ unK k = true := by
            simp only [List.mem_cons, List.not_mem_nil, or_false] at hv
            rcases hv with rfl | rfl | rfl <;> exact ⟨_, rfl, by decide +kernel⟩
          walk_at "go3"
          refine ⟨by show 2 ≤ sizeLine; decide, fun p2 hp2 => ?_⟩
          refine q _ _ (.un k a1) (by simp only [Fm.ok, hk, ok1, Bool.and_self]) (by show a1.dep + 1 ≤ _; omega) (by show a1.size + 1 ≤ _; omega) ((b1.trans (b2.trans b3)).trans (But.of (Same.upd hp2))) ((s3.same (Same.upd hp2)).mono (by omega)) (.un upd_same (f1.tps ((s2.tps b3).trans (Tps.new hp2))))
        walk_at "go3"
        refine ⟨st, us, xs, _, e', by rw [show ((e' + 1 : Nat) : Int) - 1 = (e' : Int) by omega], by omega, u2, hne, s2, by omega, fun H3 v2 a2 ok2 dp2 sz2 b3 s3 f2 => ?_⟩
        have f1' := f1.tps (s2.tps b3)
        walk_at "go3"
        refine iteD (fun h3 => ?_) (fun h3 => ?_)
        · walk_at "go3"
          refine ⟨by show 2 ≤ sizeLine; decide, fun p hp => ?_⟩
          walk_at "go3"
          refine' g_pick ?hz hp s3 ?hn ?h0 ?h1 ?_
          case hz => rfl
          case hn => omega
          case h0 => decide
          case h1 => decide
          intro H4 v hv b4 s4
          obtain ⟨k, rfl, hk⟩ : ∃ k, v = .str k ∧ (k == kOpen || k == kOwn) = true := by
            simp only [List.mem_cons, List.not_mem_nil, or_false] at hv
            rcases hv with rfl | rfl <;> exact ⟨_, rfl, by decide +kernel⟩
          have hku : unK k = true := by
            simp only [unK, Bool.or_eq_true] at hk ⊢
            rcases hk with hk | hk
            · exact .inl (.inr hk)
            · exact .inr hk
          walk_at "go3"
          refine ⟨by show 2 ≤ sizeLine; decide, fun p2 hp2 => ?_⟩
          walk_at "go3"
          refine ⟨by show 3 ≤ sizeLine; decide, fun p3 hp3 => ?_⟩
          have t4 := ((s3.tps b4).trans (Tps.new (o := .tup [.str k, v2]) hp2)).trans (Tps.new (o := .tup [.str kLock, v1, .ref p2]) hp3)
          have e2 : upd (upd H4 p2 (.tup [.str k, v2])) p3 (.tup [.str kLock, v1, .ref p2]) p2 = some (.tup [.str k, v2]) := Tps.new hp3 _ _ upd_same
          refine q _ _ (.bi kLock a1 (.un k a2)) ?_ (by show max a1.dep (a2.dep + 1) + 1 ≤ _; omega) (by show a1.size + (a2.size + 1) + 1 ≤ _; omega) ((b1.trans (b2.trans (b3.trans b4))).trans ((But.of (Same.upd hp2)).trans (But.of (Same.upd hp3)))) (((s4.same (Same.upd hp2)).same (Same.upd hp3)).mono (by omega)) (.bi upd_same (f1'.tps t4) (.un e2 (f2.tps t4)))
          simp only [Fm.ok, Fm.isKey, hk, hku, ok1, ok2, Bool.or_true, Bool.and_self, Bool.and_true]
          decide +kernel
        · walk_at "go3"
          refine ⟨by show 2 ≤ sizeLine; decide, fun p hp => ?_⟩
          walk_at "go3"
          have hm : (w : Int) % 2 = 0 ∨ (w : Int) % 2 = 1 := by omega
          obtain ⟨k, hk, hat⟩ : ∃ k, (k = kPair ∨ k = kSeal) ∧ atI [V.str kPair, V.str kSeal] ((w : Int) % 2) = some (.str k) := by
            rcases hm with hm | hm
            · exact ⟨kPair, .inl rfl, by rw [hm]; rfl⟩
            · exact ⟨kSeal, .inr rfl, by rw [hm]; rfl⟩
          refine g_ixL (SqL.of upd_same) hat ?_
          walk_at "go3"
          refine ⟨by show 3 ≤ sizeLine; decide, fun p3 hp3 => ?_⟩
          have t4 := (Tps.new (o := .lst [.str kPair, .str kSeal]) hp).trans (Tps.new (o := .tup [.str k, v1, v2]) hp3)
          refine q _ _ (.bi k a1 a2) ?_ (by show max a1.dep a2.dep + 1 ≤ _; omega) (by show a1.size + a2.size + 1 ≤ _; omega) ((b1.trans (b2.trans b3)).trans ((But.of (Same.upd hp)).trans (But.of (Same.upd hp3)))) (((s3.same (Same.upd hp)).same (Same.upd hp3)).mono (by omega)) (.bi upd_same (f1'.tps t4) (f2.tps t4))
          rcases hk with rfl | rfl
          · show (biK kPair && ((!(kPair == kLock) || a2.isKey) && (a1.ok && a2.ok))) = true
            rw [ok1, ok2, show biK kPair = true by decide +kernel, show (kPair == kLock) = false by decide +kernel]
            rfl
          · show (biK kSeal && ((!(kSeal == kLock) || a2.isKey) && (a1.ok && a2.ok))) = true
            rw [ok1, ok2, show biK kSeal = true by decide +kernel, show (kSeal == kLock) = false by decide +kernel]
            rfl
/-! ### letters of forms -/
theorem LetAt.mut {H : Hp} {D : Addr} {o : HO} {xs : List V} {v : V} {a : Fm} (h : LetAt CL H v a) (hD : H D = some (.lst xs)) : LetAt CL (upd H D o) v a := by
  obtain ⟨x, dx, u, rfl, e, f⟩ := h
  exact ⟨x, dx, u, rfl, by rw [upd_ne (ne_of e hD (by intro z; cases z))]; exact e, f.tps (Tps.lst hD)⟩
theorem kind_txt {k : Str} {t : List Nat} (h : (Fm.atm k t).ok = true) : kindOf (atTxt k t) = some (k, t) := by
  simp only [Fm.ok, Bool.or_eq_true, Bool.and_eq_true, beq_iff_eq] at h
  rcases h with ⟨rfl, h⟩ | ⟨rfl, h⟩ | ⟨rfl, h⟩
  · have e : atTxt kWord t = t := by unfold atTxt; rw [if_neg (by decide +kernel)]
    rw [e]
    unfold kindOf
    rw [if_pos h]
  · have hw : ¬ isWordB t = true := fun z => by
      obtain ⟨c, r, e, hc⟩ := name_head h
      simp only [isWordB, Bool.and_eq_true] at z
      have := allIn_mem z.2.2 c (by rw [e]; exact List.mem_cons_self ..)
      exact absurd this ((by decide +kernel : ∀ c ∈ capL, c ∉ smallL) c hc)
    have e : atTxt kName t = t := by unfold atTxt; rw [if_neg (by decide +kernel)]
    rw [e]
    unfold kindOf
    rw [if_neg hw, if_pos h]
  · have hw : ¬ isWordB (63 :: t) = true := fun z => by
      simp only [isWordB, Bool.and_eq_true] at z
      exact absurd (allIn_mem z.2.2 63 (List.mem_cons_self ..)) (by decide +kernel)
    have hn : ¬ isNameB (63 :: t) = true := fun z => by
      obtain ⟨c, r, e, hc⟩ := name_head z
      rw [← (List.cons.inj e).1] at hc
      exact absurd hc (by decide +kernel)
    have e : atTxt kUnk t = 63 :: t := by unfold atTxt; rw [if_pos rfl]
    rw [e]
    unfold kindOf
    rw [if_neg hw, if_neg hn, if_pos ⟨rfl, h⟩]
    rfl
theorem mk_txt {H : Hp} {Q : VK} {E : XK} {k : Str} {t : List Nat} (ok : (Fm.atm k t).ok = true) (q : ∀ H' v, Same H H' → LetAt CL H' v (.atm k t) → Q v H') :
    ∀ x dx, H x = none → H dx = none → dx ≠ x → spInit2 CL CE [.ref x, .str (S (atTxt k t))] (upd (upd H dx (.own x)) x (.ins CL dx [])) (fun v H2 => v = .non ∧ Q (.ref x) H2) E := by
  intro x dx nx ndx nex
  have s0 : Same H (upd (upd H dx (.own x)) x (.ins CL dx [])) := fun b o e => by
    rw [upd_ne (ne_of_none e nx), upd_ne (ne_of_none e ndx)]
    exact e
  have hsm : t.length ≤ 8 := Fm.ok_small ok
  refine .inl ⟨x, dx, atTxt k t, rfl, upd_same, by have := atTxt_len (k := k) (t := t); omega, fun k' t' H1 H' u hk e1 fu eH => ⟨rfl, ?_⟩, fun hk => ?_⟩
  · rw [kind_txt ok] at hk
    cases hk
    subst eH
    refine q _ _ (Same.mut (s0.trans e1) nx) ⟨x, dx, u, rfl, upd_same, fu.tps fun b ys z => ?_⟩
    rw [upd_ne (ne_of z (e1 _ _ upd_same) (by intro q; cases q))]
    exact z
  · rw [kind_txt ok] at hk
    cases hk
theorem r_lcT {σ : L2.St} {H : Hp} {Q : VK} {te : TE} {j : Nat} {a : Addr} {xs : List V} {vs : List Nat} (J : Addr → Nat → List V → Hp → Prop) (hT : SqT K H a xs) (hl : xs.length < 1000000) (hw : ∀ x, wipe ((wipe σ vs).set j (some x)) vs = wipe σ vs)
    (hst : ∀ D i acc H2, J D i acc H2 → SqT K H2 a xs) (h0 : ∀ D, H D = none → J D 0 [] (upd H D (.lst [])))
    (hs : ∀ (D : Addr) (i : Nat) (x : V) (acc : List V) (H2 : Hp), H D = none → xs[i]? = some x → H2 D = some (.lst acc) → acc.length = i → J D i acc H2 → te ((wipe σ vs).set j (some x)) H2 (lcPost J D i))
    (hd : ∀ D acc H2, H D = none → H2 D = some (.lst acc) → acc.length = xs.length → J D xs.length acc H2 → Q (.ref D) H2) : rLcT K j te vs σ (.ref a) H Q := by
  refine ⟨a, rfl, ⟨xs, hT⟩, fun D hD => ?_⟩
  refine lc_tup (xs := xs) (fun i H2 => ∃ acc, H2 D = some (.lst acc) ∧ acc.length = i ∧ J D i acc H2) ⟨[], upd_same, rfl, h0 D hD⟩ (fun i H2 hi p => ?_) (fun i x H2 hi p => ?_) (fun H2 p => ?_)
  · obtain ⟨acc, h1, h2, h3⟩ := p
    exact hst D i acc H2 h3
  · obtain ⟨acc, h1, h2, h3⟩ := p
    exact ⟨hw _, hs D i x acc H2 hD hi h1 h2 h3⟩
  · obtain ⟨acc, h1, h2, h3⟩ := p
    exact hd D acc H2 hD h1 h2 h3
theorem g_slT {H : Hp} {Q : VK} {a : Addr} {xs : List V} {lo hi : Option Int} (h : SqT K H a xs) (hn : ¬ (HT.sIx xs.length 0 lo = 0 ∧ HT.sIx xs.length xs.length hi = xs.length)) (k : ∀ p, H p = none → Q (.ref p) (upd H p (.tup (cutV xs lo hi)))) : rSlT K (.ref a) lo hi H Q := ⟨a, xs, rfl, h, hn, k⟩
/-! ### forms as data -/
def Fm.data : Fm → PyData
  | .atm k t => .tuple [.str k, .str (S t)]
  | .un k a => .tuple [.str k, a.data]
  | .bi k a b => .tuple [.str k, a.data, b.data]
theorem dp_fm {H : Hp} : ∀ {v : V} {a : Fm}, FmAt H v a → Dp K H v a.data := by
  intro v a h
  induction h with
  | atm h => exact .tup (SqT.of h) (.cons (.str _) (.cons (.str _) .nil))
  | un h _ ih => exact .tup (SqT.of h) (.cons (.str _) (.cons ih .nil))
  | bi h _ _ ih1 ih2 => exact .tup (SqT.of h) (.cons (.str _) (.cons ih1 (.cons ih2 .nil)))
theorem asc_ok {cs : List Nat} (h : ∀ c ∈ cs, c < 128) : PyData.strOk (S cs) = true := by
  show (S cs).cps.all (· < 0x110000) = true
  rw [← Array.all_toList]
  exact List.all_eq_true.mpr fun c hc => decide_eq_true (by have := h c hc; omega)
theorem atm_small {k : Str} {t : List Nat} (h : (Fm.atm k t).ok = true) : ∀ c ∈ t, c < 128 := by
  have hs : ∀ c ∈ smallL, c < 128 := by decide +kernel
  have hc : ∀ c ∈ capL, c < 128 := by decide +kernel
  have hd : ∀ c ∈ digL, c < 128 := by decide +kernel
  simp only [Fm.ok, Bool.or_eq_true, Bool.and_eq_true] at h
  rcases h with ⟨_, h⟩ | ⟨_, h⟩ | ⟨_, h⟩
  · simp only [isWordB, Bool.and_eq_true] at h
    exact fun c hc => hs c (allIn_mem h.2.2 c hc)
  · simp only [isNameB, Bool.and_eq_true] at h
    obtain ⟨ds, e, hd2⟩ := noDig_split t
    intro c hm
    rw [e] at hm
    rcases List.mem_append.mp hm with hm | hm
    · exact hc c (allIn_mem h.2.2 c hm)
    · exact hd c (hd2 c hm)
  · simp only [isUnkB, Bool.and_eq_true] at h
    exact fun c hc => hs c (allIn_mem h.2.2 c hc)
theorem Fm.lay : ∀ {a : Fm}, a.ok = true → a.data.canLay0 = true
  | .atm k t, h => by
    have e1 : PyData.strOk k = true := by
      have hk := Fm.ok_kin h
      simp only [Fm.kin, atK, Bool.or_eq_true, beq_iff_eq] at hk
      rcases hk with (rfl | rfl) | rfl <;> decide +kernel
    show (PyData.strOk k && (PyData.strOk (S t) && true)) = true
    rw [e1, asc_ok (atm_small h)]
    rfl
  | .un k a, h => by
    simp only [Fm.ok, Bool.and_eq_true] at h
    have e1 : PyData.strOk k = true := by
      have hk := h.1
      simp only [unK, Bool.or_eq_true, beq_iff_eq] at hk
      rcases hk with (rfl | rfl) | rfl <;> decide +kernel
    show (PyData.strOk k && (a.data.canLay0 && true)) = true
    rw [e1, Fm.lay h.2]
    rfl
  | .bi k a b, h => by
    simp only [Fm.ok, Bool.and_eq_true] at h
    have e1 : PyData.strOk k = true := by
      have hk := h.1
      simp only [biK, Bool.or_eq_true, beq_iff_eq] at hk
      rcases hk with (rfl | rfl) | rfl <;> decide +kernel
    show (PyData.strOk k && (a.data.canLay0 && (b.data.canLay0 && true))) = true
    rw [e1, Fm.lay h.2.2.1, Fm.lay h.2.2.2]
    rfl
theorem Fm.depth_le : ∀ a : Fm, a.data.depth ≤ a.dep + 1
  | .atm k t => Nat.le_refl _
  | .un k a => by
    have := Fm.depth_le a
    show max 0 (max a.data.depth 0) + 1 ≤ a.dep + 1 + 1
    omega
  | .bi k a b => by
    have := Fm.depth_le a
    have := Fm.depth_le b
    show max 0 (max a.data.depth (max b.data.depth 0)) + 1 ≤ max a.dep b.dep + 1 + 1
    omega
theorem Fm.shaped {a : Fm} (h : a.ok = true) (hd : a.dep ≤ 60) : SeqAt.shaped a.data = true := by
  have := Fm.depth_le a
  show (a.data.canLay0 && decide (a.data.depth ≤ 64)) = true
  rw [Fm.lay h, decide_eq_true (by omega)]
  rfl
end
end Op
namespace Op
open PySem PySem.Spec PyProof.Rows L2 SX
theorem un_okk {k : Str} {a : Fm} (h : unK k = true) (o : a.ok = true) : (Fm.un k a).ok = true := by
  simp only [Fm.ok, Bool.and_eq_true]
  exact ⟨h, o⟩
theorem bi_okk {k : Str} {a b : Fm} (h : biK k = true) (n : (k == kLock) = false ∨ b.isKey = true) (o : a.ok = true) (p : b.ok = true) : (Fm.bi k a b).ok = true := by
  simp only [Fm.ok, Bool.and_eq_true, Bool.or_eq_true]
  refine ⟨h, ?_, o, p⟩
  rcases n with n | n
  · exact .inl (by rw [n]; rfl)
  · exact .inr n
end Op
namespace OpC
end OpC

namespace Op
open PySem PySem.Spec PyProof.Rows L2 SX
local macro_rules | `(tactic| walk_at "go1") => `(tactic| first
  | ((with_reducible refine' g_var ?h ?_); (case h => rfl)) | with_reducible refine' g_c ?_ | with_reducible refine' g_op ?_ | with_reducible refine' g_un ?_ | with_reducible refine' g_if ?_ | with_reducible refine' g_test ?_ | with_reducible refine' g_B ?_ | with_reducible refine' g_bl ?_
  | with_reducible refine' g_not ?_ | with_reducible refine' g_and ?_ | with_reducible refine' g_or ?_ | with_reducible refine' g_andV ?_ | with_reducible refine' g_orV ?_ | with_reducible refine' g_notV ?_ | with_reducible refine' g_nil ?_ | with_reducible refine' g_cons ?_ | with_reducible refine' g_CB ?_ | with_reducible refine' g_ca ?_
  | with_reducible refine' g_seq ?_ | with_reducible refine' g_next ?_ | with_reducible refine' g_asg ?_ | with_reducible refine' g_name ?_ | with_reducible refine' g_ret ?_ | with_reducible refine' g_retN ?_ | with_reducible refine' g_drop ?_ | with_reducible refine' g_ifS ?_ | with_reducible refine' g_sub ?_
  | with_reducible refine' g_I0 ?_ | with_reducible refine' g_U ?_ | ((with_reducible refine' g_eq ?h ?_); (case h => rfl)) | ((with_reducible refine' g_ne ?h ?_); (case h => rfl))
  | ((with_reducible refine' g_lenL ?h ?_); (case h => first | assumption | exact SqL.of (by assumption) | exact SqL.of upd_same)) | ((with_reducible refine' g_lenT ?h ?_); (case h => first | assumption | exact SqT.of (by assumption) | exact SqT.of upd_same))
  | ((with_reducible refine' g_ixL ?h ?ha ?_); (case h => first | assumption | exact SqL.of (by assumption) | exact SqL.of upd_same); (case ha => rfl)) | ((with_reducible refine' g_ixT ?h ?ha ?_); (case h => first | assumption | exact SqT.of (by assumption) | exact SqT.of upd_same); (case ha => rfl))
  | ((with_reducible refine' g_I ?h ?_); (case h => first | decide | omega | (first | refine' ⟨?_, ?_, ?_⟩ | refine' ⟨?_, ?_⟩ | refine' Or.inl ⟨?_, ?_⟩) <;> omega | (refine' Or.inr ⟨?_, ?_⟩ <;> omega)))
  | ((with_reducible refine' g_setL ?h ?ha ?_); (case h => first | assumption | exact upd_same); (case ha => rfl))
  | with_reducible refine' g_lcR ?_
  | with_reducible refine' g_M1 ?_ | with_reducible refine' g_isS ?_ | with_reducible refine' g_tyS ?_ | ((with_reducible refine' g_tyL ?h ?_); (case h => first | assumption | exact upd_same))
  | ((with_reducible refine' g_cat ?h ?h2 ?hl ?_); (case h => first | assumption | exact upd_same); (case h2 => first | assumption | exact upd_same); (case hl => first | decide | (simp; omega)))
  | with_reducible refine' g_lcS ?_
  | with_reducible refine' g_starts ?_ | with_reducible refine' g_chain ?_
  | ((with_reducible refine' g_lenS ?h ?_); (case h => first | exact len_le (by assumption) | exact len_le (by omega))) | ((with_reducible refine' g_rstrip ?h ?_); (case h => first | exact len_le (by assumption) | exact len_le (by omega))) | ((with_reducible refine' g_slX ?h ?_); (case h => first | exact len_le (by assumption) | exact len_le (by omega)))
  | with_reducible refine' g_sl ?_ | with_reducible refine' g_nopart ?_ | with_reducible refine' g_part ?_ | with_reducible refine' g_isI ?_
  | with_reducible refine' g_tru ?_
  | with_reducible refine' iteT ?_ | with_reducible refine' iteF ?_ | with_reducible refine' iteNT ?_ | with_reducible refine' iteNF ?_
  | with_reducible refine' g_int ?_ | with_reducible refine' g_insg ?_ | with_reducible refine' g_ninsg ?_ | with_reducible refine' g_isN ?_ | with_reducible refine' g_notN ?_ | with_reducible refine' g_lst ?_ | with_reducible refine' g_tup ?_ | with_reducible refine' g_BM ?_ | with_reducible refine' g_BM0 ?_)
local macro_rules | `(tactic| walk_at "go") => `(tactic| repeat' walk_at "go1")
local macro_rules | `(tactic| walk_at "go2") => `(tactic| repeat' (first | walk_at "go1" | with_reducible refine' g_cm ?_ | with_reducible refine' g_mk ?_ | with_reducible refine' g_for ?_ | ((with_reducible refine' g_rcm ?h ?ha ?_); (case h => first | assumption | exact upd_same); (case ha => first | rfl | decide | simp [List.lookup]))))
/- macro2 -/
local macro_rules | `(tactic| walk_at "go3a") => `(tactic| first
  | walk_at "go1" | with_reducible refine' g_cm ?_ | with_reducible refine' g_mk ?_ | with_reducible refine' g_for ?_ | with_reducible refine' g_fld ?_ | with_reducible refine' g_lcT0 ?_
  | ((with_reducible refine' g_rcm ?h ?ha ?_); (case h => first | assumption | exact upd_same); (case ha => first | rfl | decide | simp [List.lookup]))
  | ((with_reducible refine' g_shape ?hc ?hn ?h ?_); (case hc => assumption); (case hn => assumption); (case h => first | assumption | exact upd_same | (rw [upd_ne (by assumption)]; assumption))))
local macro_rules | `(tactic| walk_at "go3") => `(tactic| repeat' walk_at "go3a")
local macro_rules | `(tactic| walk_at "go4") => `(tactic| repeat' (first
  | walk_at "go3a" | ((with_reducible refine' iteDT ?h ?_); (case h => first | rfl | decide +kernel)) | ((with_reducible refine' iteDF ?h ?_); (case h => decide +kernel))))
section
variable {P : Program} {w : World} {K : PySem.W.Frag} {mg : Str → Option Value} {base : Heap} {CL CE CX : Addr}
def spLet (CL : Addr) (d : Nat) : Sp := fun vs H Q _ => ∃ (v : V) (a : Fm), vs = [v] ∧ FmAt H v a ∧ a.ok = true ∧ a.dep < d ∧ ∀ H' x, Same H H' → LetAt CL H' x a → Q x H'
theorem ca_letter (T : Bl K mg) (L : Lt K mg CL) (LC : Lc K CL) (D : Df K mg "_law_letter" s_law_letter p_law_letter) (c_Letter : Ck P w K mg base 4 "Letter" CL (spInit2 CL CE))
    (m_add : Cm P w K mg base 6 CL "__add__" (spBi CL kPair)) (m_mul : Cm P w K mg base 6 CL "__mul__" (spBi CL kSeal)) (m_xor : Cm P w K mg base 6 CL "__xor__" (spXor CL CX)) (m_invert : Cm P w K mg base 6 CL "__invert__" (spUn CL kMark))
    (m_pos : Cm P w K mg base 6 CL "__pos__" (spUn CL kOpen)) (m_neg : Cm P w K mg base 6 CL "__neg__" (spUn CL kOwn)) : ∀ d, Ca P w K mg base (7 + d) "_law_letter" (spLet CL d)
  | 0 => by
    refine ca_n D sc_law_letter (fun vs H Q E h => ?_) (fun f cdv A outer s H vs Q E hr h => ?_)
    · obtain ⟨v, a, rfl, _⟩ := h
      rfl
    · obtain ⟨v, a, rfl, _, _, he, _⟩ := h
      exact absurd he (Nat.not_lt_zero _)
  | d + 1 => by
    have c_law_letter := ca_letter T L LC D c_Letter m_add m_mul m_xor m_invert m_pos m_neg d
    refine ca_n (k := 7 + d) D sc_law_letter (fun vs H Q E h => ?_) (fun f cdv A outer s H vs Q E hr h => ?_)
    · obtain ⟨v, a, rfl, _⟩ := h
      rfl
    · obtain ⟨v, a, rfl, fa, ok, hd, q⟩ := h
      have lcl := L.cl
      have lno := L.no
      refine ⟨_, (pss_cons (ps_if (pt_cmpR op_eq (pe_ix ix_tup (pv 0) pe_int (fun _ _ => rfl)) pe_str (nomark _))
  (pss_one (ps_ret (pe_mk (E := fun _ => E0) c_Letter hr (by omega) passE0 (by rfl) (pa_cons (pe_op oq_adds pe_str (pe_ix ix_tup (pv 0) pe_int (fun _ _ => rfl))) pa_nil))))
  pss_nil)
  (pss_cons (ps_if (pt_cmpR op_in_seq (pe_ix ix_tup (pv 0) pe_int (fun _ _ => rfl)) (pe_tup (pa_cons pe_str (pa_cons pe_str pa_nil))) rfl)
  (pss_one (ps_ret (pe_mk (E := fun _ => E0) c_Letter hr (by omega) passE0 (by rfl) (pa_cons (pe_ix ix_tup (pv 0) pe_int (fun _ _ => rfl)) pa_nil))))
  pss_nil)
  (pss_cons (ps_setLc (i := 1) (own := [("_law_part", 2)]) (g := gName 2) (tt := tYes) rfl sc_law_letter.nd rfl rfl (sw_true rfl rfl rfl (by decide +kernel)) (pi_tup (pe_slice sl_tup (pv 0) (po_some pe_int) po_none)) (blkOk_by (own := [("_law_part", 2)]) (N := N_law_letter) (sc := defScope s_law_letter) (by decide +kernel)) (fun _ _ _ _ _ => pg_name (i := 2) sc_law_letter.nd rfl (Or.inl rfl)) (fun _ _ _ _ _ => pts_nil) (fun _ _ _ _ _ => (pe_ca c_law_letter hr (by omega) (by rfl) (pa_cons (pv 2) pa_nil))))
  (pss_cons (ps_if (pt_cmpR op_eq (pe_ix ix_tup (pv 0) pe_int (fun _ _ => rfl)) pe_str (nomark _))
  (pss_one (ps_ret (pe_op (op_own0 m_add rfl LC.first hr (by omega)) (pe_ix ix_list (pv 1) pe_int (fun _ _ => rfl)) (pe_ix ix_list (pv 1) pe_int (fun _ _ => rfl)))))
  pss_nil)
  (pss_cons (ps_if (pt_cmpR op_eq (pe_ix ix_tup (pv 0) pe_int (fun _ _ => rfl)) pe_str (nomark _))
  (pss_one (ps_ret (pe_op (op_own0 m_mul rfl LC.first hr (by omega)) (pe_ix ix_list (pv 1) pe_int (fun _ _ => rfl)) (pe_ix ix_list (pv 1) pe_int (fun _ _ => rfl)))))
  pss_nil)
  (pss_cons (ps_if (pt_cmpR op_eq (pe_ix ix_tup (pv 0) pe_int (fun _ _ => rfl)) pe_str (nomark _))
  (pss_one (ps_ret (pe_op (op_own0 m_xor rfl LC.first hr (by omega)) (pe_ix ix_list (pv 1) pe_int (fun _ _ => rfl)) (pe_ix ix_list (pv 1) pe_int (fun _ _ => rfl)))))
  pss_nil)
  (pss_cons (ps_if (pt_cmpR op_eq (pe_ix ix_tup (pv 0) pe_int (fun _ _ => rfl)) pe_str (nomark _))
  (pss_one (ps_ret (pe_un (un_own m_invert (.inr (.inr ⟨rfl, rfl⟩)) hr (by omega)) (pe_ix ix_list (pv 1) pe_int (fun _ _ => rfl)))))
  pss_nil)
  (pss_one (ps_ret (pe_ifExp (pt_cmpR op_eq (pe_ix ix_tup (pv 0) pe_int (fun _ _ => rfl)) pe_str (nomark _)) (pe_un (un_own m_pos (.inr (.inl ⟨rfl, rfl⟩)) hr (by omega)) (pe_ix ix_list (pv 1) pe_int (fun _ _ => rfl))) (pe_un (un_own m_neg (.inl ⟨rfl, rfl⟩) hr (by omega)) (pe_ix ix_list (pv 1) pe_int (fun _ _ => rfl))))))))))))), ?_⟩
      cases fa with
      | @atm p k t ep =>
        have hk := Fm.ok_kin ok
        walk_at "go3"
        refine iteD (fun h => ?_) (fun h => ?_)
        · have e : k = kUnk := V.str.inj h
          subst e
          have hsm : t.length ≤ 8 := Fm.ok_small ok
          walk_at "go3"
          refine g_catS (by have e1 : (Str.ofString "?").length = 1 := by decide +kernel
                            have e2 := S_len t
                            rw [sizeLine_eq]
                            omega) ?_
          have e2 : Str.ofString "?" ++ S t = S (atTxt kUnk t) := by
            unfold atTxt
            rw [if_pos rfl, show Str.ofString "?" = S [63] by decide +kernel, S_cat]
            rfl
          rw [e2]
          walk_at "go3"
          exact mk_txt ok q
        · have hne : k ≠ kUnk := fun z => h (congrArg V.str z)
          walk_at "go3"
          refine ⟨by show 2 ≤ sizeLine; decide, fun p2 hp2 => ?_⟩
          have ep2 : upd H p2 (.tup [.str kWord, .str kName]) p = some (.tup [.str k, .str (S t)]) := Tps.new hp2 _ _ ep
          walk_at "go3"
          refine g_inT (SqT.of upd_same) rfl rfl ?_
          have hin : inV (.str k) [V.str kWord, V.str kName] = true := by
            simp only [Fm.kin, atK, Bool.or_eq_true, beq_iff_eq] at hk
            rcases hk with (rfl | rfl) | rfl
            · decide +kernel
            · decide +kernel
            · exact absurd rfl hne
          rw [hin]
          walk_at "go3"
          have e2 : S t = S (atTxt k t) := by unfold atTxt; rw [if_neg hne]
          rw [e2]
          exact mk_txt ok fun H' x s => q H' x ((Same.upd hp2).trans s)
      | @un p k v1 b ep fb =>
        have hk : unK k = true ∧ b.ok = true := by
          simp only [Fm.ok, Bool.and_eq_true] at ok
          exact ok
        have hdb : b.dep < d := by have : b.dep + 1 < d + 1 := hd; omega
        walk_at "go3"
        refine iteD (fun h => absurd (unK_at hk.1) (by rw [V.str.inj h]; decide +kernel)) (fun _ => ?_)
        walk_at "go3"
        refine ⟨by show 2 ≤ sizeLine; decide, fun p2 hp2 => ?_⟩
        have ep2 : upd H p2 (.tup [.str kWord, .str kName]) p = some (.tup [.str k, v1]) := Tps.new hp2 _ _ ep
        walk_at "go3"
        refine g_inT (SqT.of upd_same) rfl rfl ?_
        have hin : inV (.str k) [V.str kWord, V.str kName] = false := by
          have h1 := hk.1
          simp only [unK, Bool.or_eq_true, beq_iff_eq] at h1
          rcases h1 with (rfl | rfl) | rfl <;> decide +kernel
        rw [hin]
        have sA : Same H (upd H p2 (.tup [.str kWord, .str kName])) := Same.upd hp2
        have fb1 := fb.same sA
        generalize upd H p2 (.tup [.str kWord, .str kName]) = H1 at sA ep2 fb1 ⊢
        walk_at "go3"
        refine g_slT (SqT.of ep2) (by show ¬ (1 = 0 ∧ _); omega) fun p3 hp3 => ?_
        have sB : Same H1 (upd H1 p3 (.tup [v1])) := Same.upd hp3
        refine r_lcT (xs := [v1]) (fun D i acc H2 => Same (upd H1 p3 (.tup [v1])) H2 ∧ ∀ y, acc[0]? = some y → LetAt CL H2 y b) (SqT.of upd_same) (by show 1 < 1000000; decide) (fun _ => rfl) (fun D i acc H2 J => SqT.of (J.1 _ _ upd_same)) (fun D hD => ⟨Same.upd hD, fun y hy => nomatch hy⟩) (fun D i x acc H2 hD hx hacc hlen J => ?_) (fun D acc H2 hD hacc hlen J => ?_)
        · have hi : i = 0 := by
            have := (List.getElem?_eq_some_iff.mp hx).1
            simp at this
            omega
          subst hi
          have ex : v1 = x := Option.some.inj hx
          subst ex
          walk_at "go3"
          refine ⟨v1, b, rfl, (fb1.same sB).same J.1, hk.2, hdb, fun H3 y s3 ly => ?_⟩
          have h0 : acc = [] := List.length_eq_zero_iff.mp hlen
          subst h0
          refine lcPost.of (s3 _ _ hacc) rfl (by decide) ⟨Same.mut (J.1.trans s3) hD, fun z hz => ?_⟩
          have ez : y = z := Option.some.inj hz
          subst ez
          exact ly.mut (s3 _ _ hacc)
        · obtain ⟨sC, hJ⟩ := J
          obtain ⟨y1, rfl⟩ : ∃ y1, acc = [y1] := by
            match acc, hlen with
            | [y1], _ => exact ⟨y1, rfl⟩
          have l1 := hJ y1 rfl
          have ep3 := sC _ _ (sB _ _ ep2)
          have sE := sA.trans (sB.trans sC)
          obtain ⟨x1, dx1, u1, rfl, hx1, fx1⟩ := id l1
          have h1 := hk.1
          simp only [unK, Bool.or_eq_true, beq_iff_eq] at h1
          rcases h1 with (rfl | rfl) | rfl
          all_goals
            walk_at "go4"
            exact ⟨⟨_, _, _, rfl, hx1⟩, _, b, rfl, l1, fun H' x s l => q H' x (sE.trans s) l⟩
      | @bi p k v1 v2 b1 b2 ep fb fc =>
        have hk : biK k = true ∧ (!(k == kLock) || b2.isKey) = true ∧ b1.ok = true ∧ b2.ok = true := by
          have z := ok
          simp only [Fm.ok] at z
          exact ⟨(Bool.and_eq_true_iff.mp z).1, (Bool.and_eq_true_iff.mp (Bool.and_eq_true_iff.mp z).2).1, (Bool.and_eq_true_iff.mp (Bool.and_eq_true_iff.mp (Bool.and_eq_true_iff.mp z).2).2).1, (Bool.and_eq_true_iff.mp (Bool.and_eq_true_iff.mp (Bool.and_eq_true_iff.mp z).2).2).2⟩
        have hdb : b1.dep < d ∧ b2.dep < d := by have : max b1.dep b2.dep + 1 < d + 1 := hd; omega
        walk_at "go3"
        refine iteD (fun h => absurd (biK_at hk.1) (by rw [V.str.inj h]; decide +kernel)) (fun _ => ?_)
        walk_at "go3"
        refine ⟨by show 2 ≤ sizeLine; decide, fun p2 hp2 => ?_⟩
        have ep2 : upd H p2 (.tup [.str kWord, .str kName]) p = some (.tup [.str k, v1, v2]) := Tps.new hp2 _ _ ep
        walk_at "go3"
        refine g_inT (SqT.of upd_same) rfl rfl ?_
        have hin : inV (.str k) [V.str kWord, V.str kName] = false := by
          have h1 := hk.1
          simp only [biK, Bool.or_eq_true, beq_iff_eq] at h1
          rcases h1 with (rfl | rfl) | rfl <;> decide +kernel
        rw [hin]
        have sA : Same H (upd H p2 (.tup [.str kWord, .str kName])) := Same.upd hp2
        have fb1 := fb.same sA
        have fc1 := fc.same sA
        generalize upd H p2 (.tup [.str kWord, .str kName]) = H1 at sA ep2 fb1 fc1 ⊢
        walk_at "go3"
        refine g_slT (SqT.of ep2) (by show ¬ (1 = 0 ∧ _); omega) fun p3 hp3 => ?_
        have sB : Same H1 (upd H1 p3 (.tup [v1, v2])) := Same.upd hp3
        refine r_lcT (xs := [v1, v2]) (fun D i acc H2 => Same (upd H1 p3 (.tup [v1, v2])) H2 ∧ (∀ y, acc[0]? = some y → LetAt CL H2 y b1) ∧ (∀ y, acc[1]? = some y → LetAt CL H2 y b2)) (SqT.of upd_same) (by show 2 < 1000000; decide) (fun _ => rfl) (fun D i acc H2 J => SqT.of (J.1 _ _ upd_same)) (fun D hD => ⟨Same.upd hD, (fun y hy => nomatch hy), (fun y hy => nomatch hy)⟩) (fun D i x acc H2 hD hx hacc hlen J => ?_) (fun D acc H2 hD hacc hlen J => ?_)
        · have hi : i = 0 ∨ i = 1 := by
            have := (List.getElem?_eq_some_iff.mp hx).1
            simp at this
            omega
          rcases hi with rfl | rfl
          · have ex : v1 = x := Option.some.inj hx
            subst ex
            walk_at "go3"
            refine ⟨v1, b1, rfl, (fb1.same sB).same J.1, hk.2.2.1, hdb.1, fun H3 y s3 ly => ?_⟩
            have h0 : acc = [] := List.length_eq_zero_iff.mp hlen
            subst h0
            refine lcPost.of (s3 _ _ hacc) rfl (by decide) ⟨Same.mut (J.1.trans s3) hD, fun z hz => ?_, fun z hz => nomatch hz⟩
            have ez : y = z := Option.some.inj hz
            subst ez
            exact ly.mut (s3 _ _ hacc)
          · have ex : v2 = x := Option.some.inj hx
            subst ex
            walk_at "go3"
            refine ⟨v2, b2, rfl, (fc1.same sB).same J.1, hk.2.2.2, hdb.2, fun H3 y s3 ly => ?_⟩
            obtain ⟨y1, rfl⟩ : ∃ y1, acc = [y1] := by
              match acc, hlen with
              | [y1], _ => exact ⟨y1, rfl⟩
            refine lcPost.of (s3 _ _ hacc) rfl (by decide) ⟨Same.mut (J.1.trans s3) hD, fun z hz => ?_, fun z hz => ?_⟩
            · have ez : y1 = z := Option.some.inj hz
              subst ez
              exact ((J.2.1 y1 rfl).same s3).mut (s3 _ _ hacc)
            · have ez : y = z := Option.some.inj hz
              subst ez
              exact ly.mut (s3 _ _ hacc)
        · obtain ⟨sC, hJ1, hJ2⟩ := J
          obtain ⟨y1, y2, rfl⟩ : ∃ y1 y2, acc = [y1, y2] := by
            match acc, hlen with
            | [y1, y2], _ => exact ⟨y1, y2, rfl⟩
          have l1 := hJ1 y1 rfl
          have l2 := hJ2 y2 rfl
          have ep3 := sC _ _ (sB _ _ ep2)
          have sE := sA.trans (sB.trans sC)
          obtain ⟨x1, dx1, u1, rfl, hx1, fx1⟩ := id l1
          obtain ⟨x2, dx2, u2, rfl, hx2, fx2⟩ := id l2
          have h1 := hk.1
          simp only [biK, Bool.or_eq_true, beq_iff_eq] at h1
          rcases h1 with (rfl | rfl) | rfl
          · walk_at "go4"
            exact ⟨⟨_, _, _, rfl, hx1⟩, ⟨_, _, _, rfl, hx2⟩, _, _, b1, b2, rfl, l1, l2, fun H' x s l => q H' x (sE.trans s) l⟩
          · walk_at "go4"
            exact ⟨⟨_, _, _, rfl, hx1⟩, ⟨_, _, _, rfl, hx2⟩, _, _, b1, b2, rfl, l1, l2, fun H' x s l => q H' x (sE.trans s) l⟩
          · walk_at "go4"
            have hkey : b2.isKey = true := hk.2.1
            exact ⟨⟨_, _, _, rfl, hx1⟩, ⟨_, _, _, rfl, hx2⟩, _, _, b1, b2, rfl, l1, l2, Fm.ok_kin hk.2.2.2, fun _ H' x s l => q H' x (sE.trans s) l, fun z => by rw [hkey] at z; cases z⟩
end
end Op

namespace OpC
open PySem PySem.SeqAt PySem.MeetsSeq3 PySem.MeetsSeq2 PySem.MeetsSeq
/-! ## the order of tuples, place by place, only as far as the first unequal one -/
def szC : CmpOp → Nat → Nat → Bool
  | .Lt, m, n => decide (m < n)
  | .LtE, m, n => decide (m ≤ n)
  | .Gt, m, n => decide (m > n)
  | .GtE, m, n => decide (m ≥ n)
  | _, _, _ => false
def stC : CmpOp → Str → Str → Bool
  | .Lt, x, y => decide (x.cps.toList < y.cps.toList)
  | .LtE, x, y => !decide (y.cps.toList < x.cps.toList)
  | .Gt, x, y => decide (y.cps.toList < x.cps.toList)
  | .GtE, x, y => !decide (x.cps.toList < y.cps.toList)
  | _, _, _ => false
def op4 (op : CmpOp) : Prop := op = .Lt ∨ op = .LtE ∨ op = .Gt ∨ op = .GtE
/-- the first unequal place is c (or there is none up to the shorter one's end); the comparison gives k -/
def Lazy (op : CmpOp) (A : Around) (s : Shared) (us vs : Array Value) (z k : Bool) : Prop :=
  ∃ c, c ≤ min us.size vs.size ∧ (∀ j (p1 : j < us.size) (p2 : j < vs.size), j < c → EqAt A.in1 s us[j] vs[j] true) ∧
    ((c = min us.size vs.size ∧ k = z) ∨ ∃ (p1 : c < us.size) (p2 : c < vs.size), EqAt A.in1 s us[c] vs[c] false ∧ Ob.RcOp op A.in1 s us[c] vs[c] k)
theorem lazy_lt (l m : Addr) (us vs : Array Value) (n1 n2 : Nat) (d1 d2 : Option Addr) (t1 t2 : Array (Option Value)) (k : Bool) :
    Meets (Builtin.«tuple.__lt__» ⟨[.ref l, .ref m], []⟩)
      (fun A R s => s.heap.get? l = some ⟨.type "tuple", d1, .seq us n1, t1⟩ ∧ s.heap.get? m = some ⟨.type "tuple", d2, .seq vs n2, t2⟩ ∧ Lazy .Lt A s us vs (szC .Lt us.size vs.size) k ∧ R (.ok (.ret (.bool k))) s) :=
  .of_wp fun prog w A R s h => by
    obtain ⟨hp, g, dd, tk, os⟩ := s
    obtain ⟨h1, h2, ⟨c, hc, he, hk⟩, hR⟩ := h
    have sub2 := PySem.AutoSeq1.sub_tuple_tuple
    have hlen : (us.toList.zip vs.toList).length = min us.size vs.size := by rw [List.length_zip, Array.length_toList, Array.length_toList]
    wp_walk using PySem.AutoSeq1.wpAny_loadPart' h1, PySem.AutoSeq1.wpAny_loadPart' h2, wpAny_forIn_list _ (fun rest b s' => b.1 = none ∧ s' = ⟨hp, g, dd, tk, os⟩ ∧ ∃ i, i ≤ c ∧ rest = (us.toList.zip vs.toList).drop i) _
    case turn =>
      rintro ⟨y, x⟩ rest b s' ⟨hb', rfl, i, hi, hz⟩
      have q : i < (us.toList.zip vs.toList).length := by
        refine Nat.lt_of_not_le fun z => ?_
        rw [List.drop_of_length_le z] at hz
        cases hz
      have p1 : i < us.size := by omega
      have p2 : i < vs.size := by omega
      rw [List.drop_eq_getElem_cons q] at hz
      injection hz with e1 e2
      obtain rfl : y = us[i] := by simpa using congrArg Prod.fst e1
      obtain rfl : x = vs[i] := by simpa using congrArg Prod.snd e1
      rcases Nat.lt_or_ge i c with hic | hic
      · refine wpAny_bind (he i p1 p2 hic prog w _ _ ?_)
        wp_walk
        exact ⟨rfl, rfl, i + 1, hic, e2⟩
      · obtain rfl : i = c := by omega
        rcases hk with ⟨z, _⟩ | ⟨_, _, ze, zr⟩
        · omega
        · refine wpAny_bind (ze prog w _ _ ?_)
          have zz := zr prog w
          wp_walk using zz
          refine ⟨_, rfl, ?_⟩
          simpa using hR
    case fin =>
      rintro ⟨b1, b2⟩ s' ⟨hb', rfl, i, hi, hz⟩
      obtain rfl : b1 = none := hb'
      have hge : min us.size vs.size ≤ i := by
        refine Nat.le_of_not_lt fun z => ?_
        rw [List.drop_eq_getElem_cons (by omega)] at hz
        cases hz
      rcases hk with ⟨_, zk⟩ | ⟨z1, z2, _⟩
      · wp_walk
        refine ⟨_, rfl, ?_⟩
        rw [zk] at hR
        simpa [Builtin.Tuple.tupleCompareSizes, szC] using hR
      · omega
    case h => exact ⟨rfl, rfl, 0, Nat.zero_le _, rfl⟩
theorem tup_lt {A : Around} {s : Shared} {l m : Addr} {us vs : Array Value} {k : Bool} (hl : s.heap.IsTuple l us) (hm : s.heap.IsTuple m vs) (hu : A.units < cLine) (h : Lazy .Lt A s us vs (szC .Lt us.size vs.size) k) : Ob.RcOp .Lt A s (.ref l) (.ref m) k := fun prog w E Q hq => by
  obtain ⟨⟨c1, d1, x1, t1⟩, o1, q1, n1, r1⟩ := id hl
  obtain ⟨⟨c2, d2, x2, t2⟩, o2, q2, n2, r2⟩ := id hm
  obtain rfl : c1 = _ := q1
  obtain rfl : c2 = _ := q2
  obtain rfl : x1 = _ := r1
  obtain rfl : x2 = _ := r2
  exact richCompare_meets_room (op := .Lt) ⟨_, o1, rfl⟩ ⟨_, o2, rfl⟩ F.slot_tuple_lt F.entry_tuple_lt (F.args_tuple_lt_2 _ _) (lazy_lt l m us vs n1 n2 d1 d2 t1 t2 k) ⟨o1, o2, h, (fun z => nomatch z), hq⟩ hu
theorem lazy_le (l m : Addr) (us vs : Array Value) (n1 n2 : Nat) (d1 d2 : Option Addr) (t1 t2 : Array (Option Value)) (k : Bool) :
    Meets (Builtin.«tuple.__le__» ⟨[.ref l, .ref m], []⟩)
      (fun A R s => s.heap.get? l = some ⟨.type "tuple", d1, .seq us n1, t1⟩ ∧ s.heap.get? m = some ⟨.type "tuple", d2, .seq vs n2, t2⟩ ∧ Lazy .LtE A s us vs (szC .LtE us.size vs.size) k ∧ R (.ok (.ret (.bool k))) s) :=
  .of_wp fun prog w A R s h => by
    obtain ⟨hp, g, dd, tk, os⟩ := s
    obtain ⟨h1, h2, ⟨c, hc, he, hk⟩, hR⟩ := h
    have sub2 := PySem.AutoSeq1.sub_tuple_tuple
    have hlen : (us.toList.zip vs.toList).length = min us.size vs.size := by rw [List.length_zip, Array.length_toList, Array.length_toList]
    wp_walk using PySem.AutoSeq1.wpAny_loadPart' h1, PySem.AutoSeq1.wpAny_loadPart' h2, wpAny_forIn_list _ (fun rest b s' => b.1 = none ∧ s' = ⟨hp, g, dd, tk, os⟩ ∧ ∃ i, i ≤ c ∧ rest = (us.toList.zip vs.toList).drop i) _
    case turn =>
      rintro ⟨y, x⟩ rest b s' ⟨hb', rfl, i, hi, hz⟩
      have q : i < (us.toList.zip vs.toList).length := by
        refine Nat.lt_of_not_le fun z => ?_
        rw [List.drop_of_length_le z] at hz
        cases hz
      have p1 : i < us.size := by omega
      have p2 : i < vs.size := by omega
      rw [List.drop_eq_getElem_cons q] at hz
      injection hz with e1 e2
      obtain rfl : y = us[i] := by simpa using congrArg Prod.fst e1
      obtain rfl : x = vs[i] := by simpa using congrArg Prod.snd e1
      rcases Nat.lt_or_ge i c with hic | hic
      · refine wpAny_bind (he i p1 p2 hic prog w _ _ ?_)
        wp_walk
        exact ⟨rfl, rfl, i + 1, hic, e2⟩
      · obtain rfl : i = c := by omega
        rcases hk with ⟨z, _⟩ | ⟨_, _, ze, zr⟩
        · omega
        · refine wpAny_bind (ze prog w _ _ ?_)
          have zz := zr prog w
          wp_walk using zz
          refine ⟨_, rfl, ?_⟩
          simpa using hR
    case fin =>
      rintro ⟨b1, b2⟩ s' ⟨hb', rfl, i, hi, hz⟩
      obtain rfl : b1 = none := hb'
      have hge : min us.size vs.size ≤ i := by
        refine Nat.le_of_not_lt fun z => ?_
        rw [List.drop_eq_getElem_cons (by omega)] at hz
        cases hz
      rcases hk with ⟨_, zk⟩ | ⟨z1, z2, _⟩
      · wp_walk
        refine ⟨_, rfl, ?_⟩
        rw [zk] at hR
        simpa [Builtin.Tuple.tupleCompareSizes, szC] using hR
      · omega
    case h => exact ⟨rfl, rfl, 0, Nat.zero_le _, rfl⟩
theorem tup_le {A : Around} {s : Shared} {l m : Addr} {us vs : Array Value} {k : Bool} (hl : s.heap.IsTuple l us) (hm : s.heap.IsTuple m vs) (hu : A.units < cLine) (h : Lazy .LtE A s us vs (szC .LtE us.size vs.size) k) : Ob.RcOp .LtE A s (.ref l) (.ref m) k := fun prog w E Q hq => by
  obtain ⟨⟨c1, d1, x1, t1⟩, o1, q1, n1, r1⟩ := id hl
  obtain ⟨⟨c2, d2, x2, t2⟩, o2, q2, n2, r2⟩ := id hm
  obtain rfl : c1 = _ := q1
  obtain rfl : c2 = _ := q2
  obtain rfl : x1 = _ := r1
  obtain rfl : x2 = _ := r2
  exact richCompare_meets_room (op := .LtE) ⟨_, o1, rfl⟩ ⟨_, o2, rfl⟩ F.slot_tuple_le F.entry_tuple_le (F.args_tuple_le_2 _ _) (lazy_le l m us vs n1 n2 d1 d2 t1 t2 k) ⟨o1, o2, h, (fun z => nomatch z), hq⟩ hu
theorem lazy_gt (l m : Addr) (us vs : Array Value) (n1 n2 : Nat) (d1 d2 : Option Addr) (t1 t2 : Array (Option Value)) (k : Bool) :
    Meets (Builtin.«tuple.__gt__» ⟨[.ref l, .ref m], []⟩)
      (fun A R s => s.heap.get? l = some ⟨.type "tuple", d1, .seq us n1, t1⟩ ∧ s.heap.get? m = some ⟨.type "tuple", d2, .seq vs n2, t2⟩ ∧ Lazy .Gt A s us vs (szC .Gt us.size vs.size) k ∧ R (.ok (.ret (.bool k))) s) :=
  .of_wp fun prog w A R s h => by
    obtain ⟨hp, g, dd, tk, os⟩ := s
    obtain ⟨h1, h2, ⟨c, hc, he, hk⟩, hR⟩ := h
    have sub2 := PySem.AutoSeq1.sub_tuple_tuple
    have hlen : (us.toList.zip vs.toList).length = min us.size vs.size := by rw [List.length_zip, Array.length_toList, Array.length_toList]
    wp_walk using PySem.AutoSeq1.wpAny_loadPart' h1, PySem.AutoSeq1.wpAny_loadPart' h2, wpAny_forIn_list _ (fun rest b s' => b.1 = none ∧ s' = ⟨hp, g, dd, tk, os⟩ ∧ ∃ i, i ≤ c ∧ rest = (us.toList.zip vs.toList).drop i) _
    case turn =>
      rintro ⟨y, x⟩ rest b s' ⟨hb', rfl, i, hi, hz⟩
      have q : i < (us.toList.zip vs.toList).length := by
        refine Nat.lt_of_not_le fun z => ?_
        rw [List.drop_of_length_le z] at hz
        cases hz
      have p1 : i < us.size := by omega
      have p2 : i < vs.size := by omega
      rw [List.drop_eq_getElem_cons q] at hz
      injection hz with e1 e2
      obtain rfl : y = us[i] := by simpa using congrArg Prod.fst e1
      obtain rfl : x = vs[i] := by simpa using congrArg Prod.snd e1
      rcases Nat.lt_or_ge i c with hic | hic
      · refine wpAny_bind (he i p1 p2 hic prog w _ _ ?_)
        wp_walk
        exact ⟨rfl, rfl, i + 1, hic, e2⟩
      · obtain rfl : i = c := by omega
        rcases hk with ⟨z, _⟩ | ⟨_, _, ze, zr⟩
        · omega
        · refine wpAny_bind (ze prog w _ _ ?_)
          have zz := zr prog w
          wp_walk using zz
          refine ⟨_, rfl, ?_⟩
          simpa using hR
    case fin =>
      rintro ⟨b1, b2⟩ s' ⟨hb', rfl, i, hi, hz⟩
      obtain rfl : b1 = none := hb'
      have hge : min us.size vs.size ≤ i := by
        refine Nat.le_of_not_lt fun z => ?_
        rw [List.drop_eq_getElem_cons (by omega)] at hz
        cases hz
      rcases hk with ⟨_, zk⟩ | ⟨z1, z2, _⟩
      · wp_walk
        refine ⟨_, rfl, ?_⟩
        rw [zk] at hR
        simpa [Builtin.Tuple.tupleCompareSizes, szC] using hR
      · omega
    case h => exact ⟨rfl, rfl, 0, Nat.zero_le _, rfl⟩
theorem tup_gt {A : Around} {s : Shared} {l m : Addr} {us vs : Array Value} {k : Bool} (hl : s.heap.IsTuple l us) (hm : s.heap.IsTuple m vs) (hu : A.units < cLine) (h : Lazy .Gt A s us vs (szC .Gt us.size vs.size) k) : Ob.RcOp .Gt A s (.ref l) (.ref m) k := fun prog w E Q hq => by
  obtain ⟨⟨c1, d1, x1, t1⟩, o1, q1, n1, r1⟩ := id hl
  obtain ⟨⟨c2, d2, x2, t2⟩, o2, q2, n2, r2⟩ := id hm
  obtain rfl : c1 = _ := q1
  obtain rfl : c2 = _ := q2
  obtain rfl : x1 = _ := r1
  obtain rfl : x2 = _ := r2
  exact richCompare_meets_room (op := .Gt) ⟨_, o1, rfl⟩ ⟨_, o2, rfl⟩ F.slot_tuple_gt F.entry_tuple_gt (F.args_tuple_gt_2 _ _) (lazy_gt l m us vs n1 n2 d1 d2 t1 t2 k) ⟨o1, o2, h, (fun z => nomatch z), hq⟩ hu
theorem lazy_ge (l m : Addr) (us vs : Array Value) (n1 n2 : Nat) (d1 d2 : Option Addr) (t1 t2 : Array (Option Value)) (k : Bool) :
    Meets (Builtin.«tuple.__ge__» ⟨[.ref l, .ref m], []⟩)
      (fun A R s => s.heap.get? l = some ⟨.type "tuple", d1, .seq us n1, t1⟩ ∧ s.heap.get? m = some ⟨.type "tuple", d2, .seq vs n2, t2⟩ ∧ Lazy .GtE A s us vs (szC .GtE us.size vs.size) k ∧ R (.ok (.ret (.bool k))) s) :=
  .of_wp fun prog w A R s h => by
    obtain ⟨hp, g, dd, tk, os⟩ := s
    obtain ⟨h1, h2, ⟨c, hc, he, hk⟩, hR⟩ := h
    have sub2 := PySem.AutoSeq1.sub_tuple_tuple
    have hlen : (us.toList.zip vs.toList).length = min us.size vs.size := by rw [List.length_zip, Array.length_toList, Array.length_toList]
    wp_walk using PySem.AutoSeq1.wpAny_loadPart' h1, PySem.AutoSeq1.wpAny_loadPart' h2, wpAny_forIn_list _ (fun rest b s' => b.1 = none ∧ s' = ⟨hp, g, dd, tk, os⟩ ∧ ∃ i, i ≤ c ∧ rest = (us.toList.zip vs.toList).drop i) _
    case turn =>
      rintro ⟨y, x⟩ rest b s' ⟨hb', rfl, i, hi, hz⟩
      have q : i < (us.toList.zip vs.toList).length := by
        refine Nat.lt_of_not_le fun z => ?_
        rw [List.drop_of_length_le z] at hz
        cases hz
      have p1 : i < us.size := by omega
      have p2 : i < vs.size := by omega
      rw [List.drop_eq_getElem_cons q] at hz
      injection hz with e1 e2
      obtain rfl : y = us[i] := by simpa using congrArg Prod.fst e1
      obtain rfl : x = vs[i] := by simpa using congrArg Prod.snd e1
      rcases Nat.lt_or_ge i c with hic | hic
      · refine wpAny_bind (he i p1 p2 hic prog w _ _ ?_)
        wp_walk
        exact ⟨rfl, rfl, i + 1, hic, e2⟩
      · obtain rfl : i = c := by omega
        rcases hk with ⟨z, _⟩ | ⟨_, _, ze, zr⟩
        · omega
        · refine wpAny_bind (ze prog w _ _ ?_)
          have zz := zr prog w
          wp_walk using zz
          refine ⟨_, rfl, ?_⟩
          simpa using hR
    case fin =>
      rintro ⟨b1, b2⟩ s' ⟨hb', rfl, i, hi, hz⟩
      obtain rfl : b1 = none := hb'
      have hge : min us.size vs.size ≤ i := by
        refine Nat.le_of_not_lt fun z => ?_
        rw [List.drop_eq_getElem_cons (by omega)] at hz
        cases hz
      rcases hk with ⟨_, zk⟩ | ⟨z1, z2, _⟩
      · wp_walk
        refine ⟨_, rfl, ?_⟩
        rw [zk] at hR
        simpa [Builtin.Tuple.tupleCompareSizes, szC] using hR
      · omega
    case h => exact ⟨rfl, rfl, 0, Nat.zero_le _, rfl⟩
theorem tup_ge {A : Around} {s : Shared} {l m : Addr} {us vs : Array Value} {k : Bool} (hl : s.heap.IsTuple l us) (hm : s.heap.IsTuple m vs) (hu : A.units < cLine) (h : Lazy .GtE A s us vs (szC .GtE us.size vs.size) k) : Ob.RcOp .GtE A s (.ref l) (.ref m) k := fun prog w E Q hq => by
  obtain ⟨⟨c1, d1, x1, t1⟩, o1, q1, n1, r1⟩ := id hl
  obtain ⟨⟨c2, d2, x2, t2⟩, o2, q2, n2, r2⟩ := id hm
  obtain rfl : c1 = _ := q1
  obtain rfl : c2 = _ := q2
  obtain rfl : x1 = _ := r1
  obtain rfl : x2 = _ := r2
  exact richCompare_meets_room (op := .GtE) ⟨_, o1, rfl⟩ ⟨_, o2, rfl⟩ F.slot_tuple_ge F.entry_tuple_ge (F.args_tuple_ge_2 _ _) (lazy_ge l m us vs n1 n2 d1 d2 t1 t2 k) ⟨o1, o2, h, (fun z => nomatch z), hq⟩ hu
theorem tup_op {op : CmpOp} (h4 : op4 op) {A : Around} {s : Shared} {l m : Addr} {us vs : Array Value} {k : Bool} (hl : s.heap.IsTuple l us) (hm : s.heap.IsTuple m vs) (hu : A.units < cLine) (h : Lazy op A s us vs (szC op us.size vs.size) k) : Ob.RcOp op A s (.ref l) (.ref m) k := by
  rcases h4 with rfl | rfl | rfl | rfl
  · exact tup_lt hl hm hu h
  · exact tup_le hl hm hu h
  · exact tup_gt hl hm hu h
  · exact tup_ge hl hm hu h
theorem str_op {op : CmpOp} (h4 : op4 op) {A : Around} {s : Shared} {x y : Str} {t u : Tok} : Ob.RcOp op A s (.str x t) (.str y u) (stC op x y) := by
  intro prog w E Q h
  rcases h4 with rfl | rfl | rfl | rfl
  · exact PySem.P.lt_str h
  · exact PySem.P.le_str h
  · exact PySem.P.gt_str h
  · exact PySem.P.ge_str h
theorem lz0 {op : CmpOp} {A : Around} {s : Shared} {x y : Value} {us vs : List Value} {z k : Bool} (e : EqAt A.in1 s x y false) (r : Ob.RcOp op A.in1 s x y k) : Lazy op A s (x :: us).toArray (y :: vs).toArray z k :=
  ⟨0, Nat.zero_le _, fun j _ _ q => absurd q (Nat.not_lt_zero _), .inr ⟨by simp, by simp, by simpa using e, by simpa using r⟩⟩
theorem lz2 {op : CmpOp} {A : Around} {s : Shared} {x0 x1 y0 y1 : Value} {z k : Bool} (e : EqAt A.in1 s x0 y0 true) (r : (EqAt A.in1 s x1 y1 true ∧ k = z) ∨ (EqAt A.in1 s x1 y1 false ∧ Ob.RcOp op A.in1 s x1 y1 k)) : Lazy op A s [x0, x1].toArray [y0, y1].toArray z k := by
  rcases r with ⟨e1, hk⟩ | ⟨e1, r1⟩
  · refine ⟨2, Nat.le_refl _, fun j p1 p2 q => ?_, .inl ⟨rfl, hk⟩⟩
    match j, q with
    | 0, _ => exact e
    | 1, _ => exact e1
  · refine ⟨1, by show 1 ≤ 2; decide, fun j p1 p2 q => ?_, .inr ⟨by show 1 < 2; decide, by show 1 < 2; decide, e1, r1⟩⟩
    match j, q with
    | 0, _ => exact e
theorem lz3 {op : CmpOp} {A : Around} {s : Shared} {x0 x1 x2 y0 y1 y2 : Value} {z k : Bool} (e : EqAt A.in1 s x0 y0 true)
    (r : (EqAt A.in1 s x1 y1 true ∧ ((EqAt A.in1 s x2 y2 true ∧ k = z) ∨ (EqAt A.in1 s x2 y2 false ∧ Ob.RcOp op A.in1 s x2 y2 k))) ∨ (EqAt A.in1 s x1 y1 false ∧ Ob.RcOp op A.in1 s x1 y1 k)) : Lazy op A s [x0, x1, x2].toArray [y0, y1, y2].toArray z k := by
  rcases r with ⟨e1, ⟨e2, hk⟩ | ⟨e2, r2⟩⟩ | ⟨e1, r1⟩
  · refine ⟨3, Nat.le_refl _, fun j p1 p2 q => ?_, .inl ⟨rfl, hk⟩⟩
    match j, q with
    | 0, _ => exact e
    | 1, _ => exact e1
    | 2, _ => exact e2
  · refine ⟨2, by show 2 ≤ 3; decide, fun j p1 p2 q => ?_, .inr ⟨by show 2 < 3; decide, by show 2 < 3; decide, e2, r2⟩⟩
    match j, q with
    | 0, _ => exact e
    | 1, _ => exact e1
  · refine ⟨1, by show 1 ≤ 3; decide, fun j p1 p2 q => ?_, .inr ⟨by show 1 < 3; decide, by show 1 < 3; decide, e1, r1⟩⟩
    match j, q with
    | 0, _ => exact e
end OpC

namespace Op
open PySem PySem.Spec PyProof.Rows L2 SX OpC
/-! ## the order of forms -/
def cmpF (op : CmpOp) : Fm → Fm → Bool
  | .atm k t, .atm k' t' => if k = k' then (if t = t' then szC op 2 2 else stC op (S t) (S t')) else stC op k k'
  | .un k a, .un k' a' => if k = k' then (if PyData.eqv a.data a'.data = true then szC op 2 2 else cmpF op a a') else stC op k k'
  | .bi k a b, .bi k' a' b' => if k = k' then (if PyData.eqv a.data a'.data = true then (if PyData.eqv b.data b'.data = true then szC op 3 3 else cmpF op b b') else cmpF op a a') else stC op k k'
  | a, b => stC op a.head b.head
section
variable {X : Cx} {pins : List (Addr × Obj)} {σ : L2.St} {H : Hp} {s : Shared}
theorem eqAt_fm (I : Inv X pins σ H s) {a b : Fm} {v u : V} {x y : Value} {A : Around} (ha : FmAt H v a) (hb : FmAt H u b) (rx : RelV v x) (ry : RelV u y) (oa : a.ok = true) (ob : b.ok = true) (hu : A.units + a.dep + 2 < cLine) :
    SeqAt.EqAt A s x y (PyData.eqv a.data b.data) := by
  obtain ⟨as, r1⟩ := Dp.reads (H := H) I a.data v x (dp_fm ha) rx
  obtain ⟨bs, r2⟩ := Dp.reads (H := H) I b.data u y (dp_fm hb) ry
  have := Fm.depth_le a
  exact SeqAt.eqAt_reads _ _ _ _ _ _ _ _ r1 r2 (Fm.lay oa) (Fm.lay ob) (by omega)
theorem eqAt_str {x y : Str} {t u : Tok} {A : Around} {b : Bool} (h : decide (x = y) = b) : SeqAt.EqAt A s (.str x t) (.str y u) b := by
  have e := SeqAt.EqAt.str_str (A := A) (s := s) x t y u
  have z : (x == y) = b := by
    by_cases e : x = y
    · rw [decide_eq_true e] at h
      rw [← h]
      exact beq_iff_eq.mpr e
    · rw [decide_eq_false e] at h
      rw [← h]
      exact beq_eq_false_iff_ne.mpr e
  rw [z] at e
  exact e
theorem rel_str {k : Str} {x : Value} (r : RelV (.str k) x) : ∃ t, x = .str k t := r
theorem ne_au {k k' : Str} {t : List Nat} {a : Fm} (h : (Fm.atm k t).ok = true) (h' : (Fm.un k' a).ok = true) : k ≠ k' := fun e => by
  have h1 : atK k = true := Fm.ok_kin h
  simp only [Fm.ok, Bool.and_eq_true] at h'
  rw [e, unK_at h'.1] at h1
  cases h1
theorem ne_ab {k k' : Str} {t : List Nat} {a b : Fm} (h : (Fm.atm k t).ok = true) (h' : (Fm.bi k' a b).ok = true) : k ≠ k' := fun e => by
  have h1 : atK k = true := Fm.ok_kin h
  simp only [Fm.ok, Bool.and_eq_true] at h'
  rw [e, biK_at h'.1] at h1
  cases h1
theorem biK_un {k : Str} (h : biK k = true) : unK k = false := by
  simp only [biK, Bool.or_eq_true, beq_iff_eq] at h
  rcases h with (rfl | rfl) | rfl <;> decide +kernel
theorem ne_ub {k k' : Str} {c a b : Fm} (h : (Fm.un k c).ok = true) (h' : (Fm.bi k' a b).ok = true) : k ≠ k' := fun e => by
  simp only [Fm.ok, Bool.and_eq_true] at h h'
  have h1 := h.1
  rw [e, biK_un h'.1] at h1
  cases h1
theorem at_atm {H : Hp} {v : V} {k : Str} {t : List Nat} (h : FmAt H v (.atm k t)) : ∃ p, v = .ref p ∧ H p = some (.tup [.str k, .str (S t)]) := by
  cases h with
  | atm h => exact ⟨_, rfl, h⟩
theorem at_un {H : Hp} {v : V} {k : Str} {a : Fm} (h : FmAt H v (.un k a)) : ∃ p w, v = .ref p ∧ H p = some (.tup [.str k, w]) ∧ FmAt H w a := by
  cases h with
  | un h f => exact ⟨_, _, rfl, h, f⟩
theorem at_bi {H : Hp} {v : V} {k : Str} {a b : Fm} (h : FmAt H v (.bi k a b)) : ∃ p w z, v = .ref p ∧ H p = some (.tup [.str k, w, z]) ∧ FmAt H w a ∧ FmAt H z b := by
  cases h with
  | bi h f g => exact ⟨_, _, _, rfl, h, f, g⟩
/-- two heads that differ decide -/
theorem rc_heads (I : Inv X pins σ H s) {op : CmpOp} (h4 : op4 op) {p q : Addr} {k k' : Str} {xs ys : List V} {A : Around} (h1 : H p = some (.tup (.str k :: xs))) (h2 : H q = some (.tup (.str k' :: ys))) (n : k ≠ k') (hu : A.units < cLine) : Ob.RcOp op A s (.ref p) (.ref q) (stC op k k') := by
  obtain ⟨its, r1, t1, _⟩ := I.tuple (SqT.of h1)
  obtain ⟨jts, r2, t2, _⟩ := I.tuple (SqT.of h2)
  cases r1 with
  | cons a1 _ =>
    cases r2 with
    | cons b1 _ =>
      obtain ⟨ta, rfl⟩ := rel_str a1
      obtain ⟨tb, rfl⟩ := rel_str b1
      exact tup_op h4 t1 t2 hu (lz0 (eqAt_str (decide_eq_false n)) (str_op h4))
end
end Op

namespace Op
open PySem PySem.Spec PyProof.Rows L2 SX OpC
section
variable {X : Cx} {pins : List (Addr × Obj)} {σ : L2.St} {H : Hp} {s : Shared}
theorem vals2_str {k : Str} {v : V} {its : List Value} (r : Vals [.str k, v] its) : ∃ t x, its = [.str k t, x] ∧ RelV v x := by
  cases r with
  | cons a b =>
    obtain ⟨t, rfl⟩ := rel_str a
    cases b with
    | cons c d =>
      cases d
      exact ⟨t, _, rfl, c⟩
theorem vals3_str {k : Str} {v u : V} {its : List Value} (r : Vals [.str k, v, u] its) : ∃ t x y, its = [.str k t, x, y] ∧ RelV v x ∧ RelV u y := by
  cases r with
  | cons a b =>
    obtain ⟨t, rfl⟩ := rel_str a
    cases b with
    | cons c d =>
      cases d with
      | cons e f =>
        cases f
        exact ⟨t, _, _, rfl, c, e⟩
/-- one place behind equal heads -/
theorem rc_two (I : Inv X pins σ H s) {op : CmpOp} (h4 : op4 op) {p q : Addr} {k : Str} {v u : V} {A : Around} {e r : Bool} (h1 : H p = some (.tup [.str k, v])) (h2 : H q = some (.tup [.str k, u])) (hu : A.units < cLine)
    (he : ∀ x y, RelV v x → RelV u y → SeqAt.EqAt A.in1 s x y e) (hr : ∀ x y, RelV v x → RelV u y → e = false → Ob.RcOp op A.in1 s x y r) : Ob.RcOp op A s (.ref p) (.ref q) (if e = true then szC op 2 2 else r) := by
  obtain ⟨its, r1, t1, _⟩ := I.tuple (SqT.of h1)
  obtain ⟨jts, r2, t2, _⟩ := I.tuple (SqT.of h2)
  obtain ⟨ta, x, rfl, a1⟩ := vals2_str r1
  obtain ⟨tb, y, rfl, b1⟩ := vals2_str r2
  have e1 := he x y a1 b1
  have e2 := hr x y a1 b1
  refine tup_op h4 t1 t2 hu (lz2 (eqAt_str (decide_eq_true rfl)) ?_)
  cases e with
  | true => exact .inl ⟨e1, rfl⟩
  | false => exact .inr ⟨e1, e2 rfl⟩
/-- two places behind equal heads -/
theorem rc_three (I : Inv X pins σ H s) {op : CmpOp} (h4 : op4 op) {p q : Addr} {k : Str} {v u v' u' : V} {A : Around} {e r e' r' : Bool} (h1 : H p = some (.tup [.str k, v, v'])) (h2 : H q = some (.tup [.str k, u, u'])) (hu : A.units < cLine)
    (he : ∀ x y, RelV v x → RelV u y → SeqAt.EqAt A.in1 s x y e) (hr : ∀ x y, RelV v x → RelV u y → e = false → Ob.RcOp op A.in1 s x y r)
    (he' : ∀ x y, RelV v' x → RelV u' y → SeqAt.EqAt A.in1 s x y e') (hr' : ∀ x y, RelV v' x → RelV u' y → e' = false → Ob.RcOp op A.in1 s x y r') : Ob.RcOp op A s (.ref p) (.ref q) (if e = true then (if e' = true then szC op 3 3 else r') else r) := by
  obtain ⟨its, r1, t1, _⟩ := I.tuple (SqT.of h1)
  obtain ⟨jts, r2, t2, _⟩ := I.tuple (SqT.of h2)
  obtain ⟨ta, x, x', rfl, a1, a2⟩ := vals3_str r1
  obtain ⟨tb, y, y', rfl, b1, b2⟩ := vals3_str r2
  have e1 := he x y a1 b1
  have e2 := hr x y a1 b1
  have e3 := he' x' y' a2 b2
  have e4 := hr' x' y' a2 b2
  refine tup_op h4 t1 t2 hu (lz3 (eqAt_str (decide_eq_true rfl)) ?_)
  cases e with
  | true =>
    cases e' with
    | true => exact .inl ⟨e1, .inl ⟨e3, rfl⟩⟩
    | false => exact .inl ⟨e1, .inr ⟨e3, e4 rfl⟩⟩
  | false => exact .inr ⟨e1, e2 rfl⟩
theorem rel_ref {p : Addr} {x : Value} (r : RelV (.ref p) x) : x = .ref p := r
theorem rc_fm (I : Inv X pins σ H s) {op : CmpOp} (h4 : op4 op) (a : Fm) : ∀ (b : Fm) (A : Around) (v u : V) (x y : Value), FmAt H v a → FmAt H u b → RelV v x → RelV u y → a.ok = true → b.ok = true → A.units + a.dep + 3 < cLine → Ob.RcOp op A s x y (cmpF op a b) := by
  induction a with
  | atm k t =>
    intro b A v u x y f1 f2 rx ry oa ob hu
    obtain ⟨p, rfl, h1⟩ := at_atm f1
    obtain rfl := rel_ref rx
    cases b with
    | atm k' t' =>
      obtain ⟨q, rfl, h2⟩ := at_atm f2
      obtain rfl := rel_ref ry
      show Ob.RcOp op A s _ _ (if k = k' then (if t = t' then szC op 2 2 else stC op (S t) (S t')) else stC op k k')
      by_cases n : k = k'
      · subst n
        rw [if_pos rfl]
        have z := rc_two (e := decide (t = t')) (r := stC op (S t) (S t')) (A := A) I h4 h1 h2 (by omega) (fun x y a b => by
          obtain ⟨_, rfl⟩ := rel_str a
          obtain ⟨_, rfl⟩ := rel_str b
          by_cases m : t = t'
          · rw [decide_eq_true m]
            exact eqAt_str (decide_eq_true (congrArg S m))
          · rw [decide_eq_false m]
            exact eqAt_str (decide_eq_false fun z => m (S_inj z))) (fun x y a b _ => by
          obtain ⟨_, rfl⟩ := rel_str a
          obtain ⟨_, rfl⟩ := rel_str b
          exact str_op h4)
        by_cases m : t = t'
        · rw [decide_eq_true m, if_pos rfl] at z
          rw [if_pos m]
          exact z
        · rw [decide_eq_false m, if_neg Bool.false_ne_true] at z
          rw [if_neg m]
          exact z
      · rw [if_neg n]
        exact rc_heads I h4 h1 h2 n (by omega)
    | un k' a' =>
      obtain ⟨_, _, rfl, h2, _⟩ := at_un f2
      obtain rfl := rel_ref ry
      exact rc_heads I h4 h1 h2 (ne_au oa ob) (by omega)
    | bi k' a' b' =>
      obtain ⟨_, _, _, rfl, h2, _⟩ := at_bi f2
      obtain rfl := rel_ref ry
      exact rc_heads I h4 h1 h2 (ne_ab oa ob) (by omega)
  | un k a ih =>
    intro b A v u x y f1 f2 rx ry oa ob hu
    obtain ⟨p, _, rfl, h1, g1⟩ := at_un f1
    obtain rfl := rel_ref rx
    have hd : A.units + (a.dep + 1) + 3 < cLine := hu
    have hA : A.in1.units = A.units + 1 := rfl
    cases b with
    | atm k' t' =>
      obtain ⟨_, rfl, h2⟩ := at_atm f2
      obtain rfl := rel_ref ry
      exact rc_heads I h4 h1 h2 (ne_au ob oa).symm (by omega)
    | un k' a' =>
      obtain ⟨_, _, rfl, h2, g2⟩ := at_un f2
      obtain rfl := rel_ref ry
      have oa2 : a.ok = true := by simp only [Fm.ok, Bool.and_eq_true] at oa; exact oa.2
      have ob2 : a'.ok = true := by simp only [Fm.ok, Bool.and_eq_true] at ob; exact ob.2
      show Ob.RcOp op A s _ _ (if k = k' then (if PyData.eqv a.data a'.data = true then szC op 2 2 else cmpF op a a') else stC op k k')
      by_cases n : k = k'
      · subst n
        rw [if_pos rfl]
        exact rc_two (A := A) I h4 h1 h2 (by omega) (fun x y r1 r2 => eqAt_fm I g1 g2 r1 r2 oa2 ob2 (by omega)) (fun x y r1 r2 _ => ih a' A.in1 _ _ x y g1 g2 r1 r2 oa2 ob2 (by omega))
      · rw [if_neg n]
        exact rc_heads I h4 h1 h2 n (by omega)
    | bi k' a' b' =>
      obtain ⟨_, _, _, rfl, h2, _⟩ := at_bi f2
      obtain rfl := rel_ref ry
      exact rc_heads I h4 h1 h2 (ne_ub oa ob) (by omega)
  | bi k a c ih1 ih2 =>
    intro b A v u x y f1 f2 rx ry oa ob hu
    obtain ⟨p, _, _, rfl, h1, g1, i1⟩ := at_bi f1
    obtain rfl := rel_ref rx
    have hd : A.units + (max a.dep c.dep + 1) + 3 < cLine := hu
    have hA : A.in1.units = A.units + 1 := rfl
    cases b with
    | atm k' t' =>
      obtain ⟨_, rfl, h2⟩ := at_atm f2
      obtain rfl := rel_ref ry
      exact rc_heads I h4 h1 h2 (ne_ab ob oa).symm (by omega)
    | un k' a' =>
      obtain ⟨_, _, rfl, h2, _⟩ := at_un f2
      obtain rfl := rel_ref ry
      exact rc_heads I h4 h1 h2 (ne_ub ob oa).symm (by omega)
    | bi k' a' c' =>
      obtain ⟨_, _, _, rfl, h2, g2, i2⟩ := at_bi f2
      obtain rfl := rel_ref ry
      simp only [Fm.ok, Bool.and_eq_true] at oa ob
      show Ob.RcOp op A s _ _ (if k = k' then (if PyData.eqv a.data a'.data = true then (if PyData.eqv c.data c'.data = true then szC op 3 3 else cmpF op c c') else cmpF op a a') else stC op k k')
      by_cases n : k = k'
      · subst n
        rw [if_pos rfl]
        exact rc_three (A := A) I h4 h1 h2 (by omega) (fun x y r1 r2 => eqAt_fm I g1 g2 r1 r2 oa.2.2.1 ob.2.2.1 (by omega)) (fun x y r1 r2 _ => ih1 a' A.in1 _ _ x y g1 g2 r1 r2 oa.2.2.1 ob.2.2.1 (by omega))
          (fun x y r1 r2 => eqAt_fm I i1 i2 r1 r2 oa.2.2.2 ob.2.2.2 (by omega)) (fun x y r1 r2 _ => ih2 c' A.in1 _ _ x y i1 i2 r1 r2 oa.2.2.2 ob.2.2.2 (by omega))
      · rw [if_neg n]
        exact rc_heads I h4 h1 h2 n (by omega)
end
/-- x op y of two forms -/
def rCmpF (op : CmpOp) : R2 := fun x y H Q => ∃ a b : Fm, FmAt H x a ∧ FmAt H y b ∧ a.ok = true ∧ b.ok = true ∧ a.dep ≤ 60 ∧ Q (.bl (cmpF op a b)) H
theorem op_cmpF {X : Cx} {op : CmpOp} (h4 : op4 op) (hu : X.A.units + 64 < cLine) : OpR X (compareOp op) (rCmpF op) := by
  intro pins s σ H x y v u Q I rx ry h
  obtain ⟨a, b, ha, hb, oa, ob, hd, q⟩ := h
  have z := rc_fm I h4 a b X.A x y v u ha hb rx ry oa ob (by omega) X.prog X.w X.xe (EP X pins σ Q) ⟨.bl _, H, I, rfl, q⟩
  rcases h4 with rfl | rfl | rfl | rfl <;> exact z
end Op

namespace Op
open PySem PySem.Spec PyProof.Rows L2 SX OpC
section
variable {X : Cx} {k j : Nat} {C : Addr} {m : Str} {sp : Sp} {E : XK}
/-- x op y of two own instances, by the class's own def -/
theorem cmp_own {op : CmpOp} (hop : ∀ a b, compareOp op a b = richCompare op a b) (c : Cm X.prog X.w X.K X.mg X.base k C m sp) (hm : m = (cmpInfo op).2.1) (hr : Room j X.A) (hk : k ≤ j) : OpR X (compareOp op) (rOwn C sp E0) := by
  intro pins s σ H x y v u Q I rx ry h
  obtain ⟨⟨a, dx, fs, rfl, ha⟩, ⟨b, dy, gs, rfl, hb⟩, h⟩ := h
  obtain ⟨f, fd, ps, F, M, bd⟩ := c.ex
  obtain ⟨mA, O1, _⟩ := ins_get I.hok ha
  obtain ⟨od, J1, _⟩ := O1.look
  obtain ⟨mB, O2, _⟩ := ins_get I.hok hb
  obtain ⟨oe, J2, _⟩ := O2.look
  obtain ⟨mf, fr⟩ := I.fr
  cases rx
  cases ry
  subst hm
  rw [hop]
  refine PySem.W.cmp_K (op := op) (tb := .ref C) hr.units0 fr I.ok.mod.kin J1 J2.type (by show (Value.ref C == Value.ref C || _) = true; rw [beq_self_eq_true]; rfl) M.at_ M.fn ?_
  exact wpAny_mono (run_fnS (E := fun _ => E0) F (hr.mono hk) bd (passE0 σ) I (vs := [.ref a, .ref b]) (.cons (rfl : L2.RelV (.ref a) (.ref a)) (.cons (rfl : L2.RelV (.ref b) (.ref b)) .nil)) h) (fun u s' q => back_of q) fun _ _ z => z
end
end Op

namespace Op
open PySem PySem.Spec PyProof.Rows L2 SX OpC
section
variable {X : Cx} {k j : Nat} {C : Addr} {m : Str} {sp : Sp} {E : XK}
/-- a def called one step further in -/
theorem run_in1 {f : Addr} {fd : FuncData} {ps : List Str} {pins : List (Addr × Obj)} {σ : L2.St} {H : Hp} {s : Shared} {Q : VK} {us : List Value} {vs : List V} (F : FnOk X.prog X.w X.K X.mg X.base (L2.CX X.prog X.w) k f fd ps sp) (hr : Room k X.A.in1) (hb : Binds X.K fd ps [])
    (I : Inv X pins σ H s) (r : Vals vs us) (h : sp vs H Q E0) : wpAny (model X.prog X.w) X.A.in1 (call (.ref f) us) (EP X pins σ Q) X.xe s := by
  have hlen : us.length = ps.length := r.length.symm.trans (F.len _ _ _ _ h)
  have bd := hb s us I.kIn (by rw [List.append_nil]; exact hlen)
  rw [List.append_nil] at bd
  have e := I.env0
  have e0 : Env0 X.prog X.w X.K X.mg X.base X.A.in1 X.stack s H := ⟨e.frames, e.mod, e.bs, e.bsz, e.funs, e.frf, e.hok, e.bare⟩
  refine wpAny_call (codeAny_mono (F.run X.A.in1 X.stack s H ⟨us, []⟩ us vs Q E0 hr e0 bd r h) fun z s' hq => ?_)
  match z, hq with
  | .error e, hq => exact passE0 σ pins H s e s' I hq
  | .ok (.ret u), hq => exact I.after hq
  | .ok .next, hq => exact False.elim hq
  | .ok .brk, hq => exact False.elim hq
  | .ok .cont, hq => exact False.elim hq
theorem not_bl {pins : List (Addr × Obj)} {σ : L2.St} {s' : Shared} {Q : VK} {u : Value} (h : EP X pins σ (fun v H' => ∃ b, v = .bl b ∧ Q (.bl (!b)) H') u s') : ∃ b, u = .bool b ∧ EP X pins σ Q (.bool (!b)) s' := by
  obtain ⟨v, H', I', r, b, rfl, q⟩ := h
  cases (show u = Value.bool b from r)
  exact ⟨b, rfl, .bl (!b), H', I', rfl, q⟩
/-- x != y where the class has an == of its own and no != -/
def rOwnNe (C : Addr) (sp : Sp) : R2 := fun x y H Q => rOwn C sp E0 x y H fun v H' => ∃ b, v = .bl b ∧ Q (.bl (!b)) H'
theorem ne_own (c : Cm X.prog X.w X.K X.mg X.base k C "__eq__" sp) (hs : PySem.W.findIn X.K (.ref C) "__ne__" = some (some (.builtin "object.__ne__"))) (ho : PySem.W.mroIn X.K C (.type "object") = some true) (hr : Room j X.A) (hk : k + 1 ≤ j) : OpR X (compareOp .NotEq) (rOwnNe C sp) := by
  intro pins s σ H x y v u Q I rx ry h
  obtain ⟨⟨a, dx, fs, rfl, ha⟩, ⟨b, dy, gs, rfl, hb⟩, h⟩ := h
  obtain ⟨f, fd, ps, fo, M, bd⟩ := c.ex
  obtain ⟨mA, O1, _⟩ := ins_get I.hok ha
  obtain ⟨od, J1, _⟩ := O1.look
  obtain ⟨mB, O2, _⟩ := ins_get I.hok hb
  obtain ⟨oe, J2, _⟩ := O2.look
  cases rx
  cases ry
  have hr1 : Room (k + 1) X.A := hr.mono hk
  have run := run_in1 fo hr1.in1 bd I (vs := [.ref a, .ref b]) (us := [.ref a, .ref b]) (.cons (rfl : L2.RelV (.ref a) (.ref a)) (.cons (rfl : L2.RelV (.ref b) (.ref b)) .nil)) h
  have run2 : wpAny (model X.prog X.w) X.A.in1 (call (.ref f) [.ref a, .ref b]) (fun u s' => ∃ z, u = .bool z ∧ EP X pins σ Q (.bool (!z)) s') X.xe s := wpAny_mono run (fun u s' q => not_bl q) fun _ _ z => z
  have hu1 : X.A.in1.units < cLine := hr1.in1.units0
  have entry : wpAny (model X.prog X.w) X.A.in1 (Builtin.«object.__ne__» ⟨[.ref a, .ref b], []⟩) (fun r s' => ∃ z, r = .done (.ret (.bool z)) ∧ EP X pins σ Q (.bool z) s') X.xe s := by
    (unfold Builtin.«object.__ne__»; skip)
    repeat (first
      | with_reducible refine wpAny_cRoomFor hu1 ?_
      | (refine wpAny_bind (m := callSpecialIfBound? (.ref a) (Str.ofString "__eq__") [.ref b]) (PySem.W.ifBound_K I.kIn J1 M.at_ M.fn (wpAny_mono run2 (fun r s' hr => by
          obtain ⟨z, rfl, hq⟩ := hr
          repeat (first | exact ⟨_, rfl, hq⟩ | exact wpAny_pure ⟨_, rfl, hq⟩ | (refine wpAny_bind (m := truthy (.bool _)) (wpAny_truthy_bool ?_)) | wp_step)) fun _ _ e => e)))
      | wp_step)
  have nec : wpAny (model X.prog X.w) X.A (call (.builtin "object.__ne__") [.ref a, .ref b]) (fun u s' => ∃ z, u = .bool z ∧ EP X pins σ Q (.bool z) s') X.xe s := by
    refine wpAny_call (codeAny_call_builtin F.cmp_object.ne.plain F.cmpEntry_ne (PySem.W.check_slot F.cmpKind_ne F.cmpSplit_ne (J1.type.andThen (PySem.W.looks_mroIn I.kIn ho)) (F.cmpArgs_ne _ _) ?_))
    refine wpAny_mono entry (fun r s' q => ?_) fun _ _ z => z
    obtain ⟨z, rfl, hq⟩ := q
    exact ⟨z, rfl, hq⟩
  have one : wpAny (model X.prog X.w) X.A (tryCompare (.ref a) "__ne__" (.ref b)) (fun r s' => ∃ z, r = some (.bool z) ∧ EP X pins σ Q (.bool z) s') X.xe s := by
    unfold tryCompare
    refine wpAny_bind ?_
    simp only [bindSpecialIfBound?, callSpecialIfBound?]
    refine wpAny_holding ?_
    refine wpAny_bind (wpAny_bind (wpAny_bind (J1.type.here ((PySem.W.looks_findIn I.kIn hs).here ?_))))
    refine wpAny_bind (wpAny_askSetting ?_)
    refine wpAny_ite ?_
    have tl : wpAny (model X.prog X.w) X.A (call (.builtin "object.__ne__") ([.ref a] ++ [.ref b]) >>= fun v => pure (some v)) (fun r s' => wpAny (model X.prog X.w) X.A (match r with | some .notImplemented => pure none | none => pure none | some v => pure (some v)) (fun r s' => ∃ z, r = some (.bool z) ∧ EP X pins σ Q (.bool z) s') X.xe s') X.xe s := by
      refine wpAny_bind (wpAny_mono nec (fun u s' q => ?_) fun _ _ z => z)
      obtain ⟨z, rfl, hq⟩ := q
      exact wpAny_pure (wpAny_pure ⟨z, rfl, hq⟩)
    split
    · exact wpAny_bind (wpAny_of_eq (F.cmp_object.ne.bind _) (wpAny_pure (by exact tl)))
    · exact wpAny_tryCatch (wpAny_bind (wpAny_of_eq (F.cmp_object.ne.bind _) (wpAny_pure (by exact tl))))
  show wpAny (model X.prog X.w) X.A (richCompare .NotEq (.ref a) (.ref b)) _ _ s
  unfold richCompare
  simp only [oneThing_ref, cmpInfo_NotEq]
  refine wpAny_holding ?_
  refine wpAny_bind (wpAny_cRoomFor hr1.units0 ?_)
  refine wpAny_bind (J1.type.here ?_)
  refine wpAny_bind (J2.type.here ?_)
  rw [show (Value.ref C != Value.ref C) = false by simp]
  simp only [Bool.false_eq_true, if_false]
  refine wpAny_bind (wpAny_pure ?_)
  simp only [Bool.false_eq_true, if_false]
  refine wpAny_bind (m := tryCompare (.ref a) _ (.ref b)) (wpAny_mono one (fun r s' z => ?_) fun _ _ z => z)
  obtain ⟨z, rfl, hq⟩ := z
  first | exact wpAny_pure hq | exact wpAny_pure (wpAny_pure hq)
end
end Op

namespace Op
open PySem PySem.Spec PyProof.Rows L2 SX OpC
local macro_rules | `(tactic| walk_at "go1") => `(tactic| first
  | ((with_reducible refine' g_var ?h ?_); (case h => rfl)) | with_reducible refine' g_c ?_ | with_reducible refine' g_op ?_ | with_reducible refine' g_un ?_ | with_reducible refine' g_if ?_ | with_reducible refine' g_test ?_ | with_reducible refine' g_B ?_ | with_reducible refine' g_bl ?_
  | with_reducible refine' g_not ?_ | with_reducible refine' g_and ?_ | with_reducible refine' g_or ?_ | with_reducible refine' g_andV ?_ | with_reducible refine' g_orV ?_ | with_reducible refine' g_notV ?_ | with_reducible refine' g_nil ?_ | with_reducible refine' g_cons ?_ | with_reducible refine' g_CB ?_ | with_reducible refine' g_ca ?_
  | with_reducible refine' g_seq ?_ | with_reducible refine' g_next ?_ | with_reducible refine' g_asg ?_ | with_reducible refine' g_name ?_ | with_reducible refine' g_ret ?_ | with_reducible refine' g_retN ?_ | with_reducible refine' g_drop ?_ | with_reducible refine' g_ifS ?_ | with_reducible refine' g_sub ?_
  | with_reducible refine' g_I0 ?_ | with_reducible refine' g_U ?_ | ((with_reducible refine' g_eq ?h ?_); (case h => rfl)) | ((with_reducible refine' g_ne ?h ?_); (case h => rfl))
  | ((with_reducible refine' g_lenL ?h ?_); (case h => first | assumption | exact SqL.of (by assumption) | exact SqL.of upd_same)) | ((with_reducible refine' g_lenT ?h ?_); (case h => first | assumption | exact SqT.of (by assumption) | exact SqT.of upd_same))
  | ((with_reducible refine' g_ixL ?h ?ha ?_); (case h => first | assumption | exact SqL.of (by assumption) | exact SqL.of upd_same); (case ha => rfl)) | ((with_reducible refine' g_ixT ?h ?ha ?_); (case h => first | assumption | exact SqT.of (by assumption) | exact SqT.of upd_same); (case ha => rfl))
  | ((with_reducible refine' g_I ?h ?_); (case h => first | decide | omega | (first | refine' ⟨?_, ?_, ?_⟩ | refine' ⟨?_, ?_⟩ | refine' Or.inl ⟨?_, ?_⟩) <;> omega | (refine' Or.inr ⟨?_, ?_⟩ <;> omega)))
  | ((with_reducible refine' g_setL ?h ?ha ?_); (case h => first | assumption | exact upd_same); (case ha => rfl))
  | with_reducible refine' g_lcR ?_
  | with_reducible refine' g_M1 ?_ | with_reducible refine' g_isS ?_ | with_reducible refine' g_tyS ?_ | ((with_reducible refine' g_tyL ?h ?_); (case h => first | assumption | exact upd_same))
  | ((with_reducible refine' g_cat ?h ?h2 ?hl ?_); (case h => first | assumption | exact upd_same); (case h2 => first | assumption | exact upd_same); (case hl => first | decide | (simp; omega)))
  | with_reducible refine' g_lcS ?_
  | with_reducible refine' g_starts ?_ | with_reducible refine' g_chain ?_
  | ((with_reducible refine' g_lenS ?h ?_); (case h => first | exact len_le (by assumption) | exact len_le (by omega))) | ((with_reducible refine' g_rstrip ?h ?_); (case h => first | exact len_le (by assumption) | exact len_le (by omega))) | ((with_reducible refine' g_slX ?h ?_); (case h => first | exact len_le (by assumption) | exact len_le (by omega)))
  | with_reducible refine' g_sl ?_ | with_reducible refine' g_nopart ?_ | with_reducible refine' g_part ?_ | with_reducible refine' g_isI ?_
  | with_reducible refine' g_tru ?_
  | with_reducible refine' iteT ?_ | with_reducible refine' iteF ?_ | with_reducible refine' iteNT ?_ | with_reducible refine' iteNF ?_
  | with_reducible refine' g_int ?_ | with_reducible refine' g_insg ?_ | with_reducible refine' g_ninsg ?_ | with_reducible refine' g_isN ?_ | with_reducible refine' g_notN ?_ | with_reducible refine' g_lst ?_ | with_reducible refine' g_tup ?_ | with_reducible refine' g_BM ?_ | with_reducible refine' g_BM0 ?_)
local macro_rules | `(tactic| walk_at "go") => `(tactic| repeat' walk_at "go1")
local macro_rules | `(tactic| walk_at "go2") => `(tactic| repeat' (first | walk_at "go1" | with_reducible refine' g_cm ?_ | with_reducible refine' g_mk ?_ | with_reducible refine' g_for ?_ | ((with_reducible refine' g_rcm ?h ?ha ?_); (case h => first | assumption | exact upd_same); (case ha => first | rfl | decide | simp [List.lookup]))))
/- macro2 -/
local macro_rules | `(tactic| walk_at "go3a") => `(tactic| first
  | walk_at "go1" | with_reducible refine' g_cm ?_ | with_reducible refine' g_mk ?_ | with_reducible refine' g_for ?_ | with_reducible refine' g_fld ?_ | with_reducible refine' g_lcT0 ?_
  | ((with_reducible refine' g_rcm ?h ?ha ?_); (case h => first | assumption | exact upd_same); (case ha => first | rfl | decide | simp [List.lookup]))
  | ((with_reducible refine' g_shape ?hc ?hn ?h ?_); (case hc => assumption); (case hn => assumption); (case h => first | assumption | exact upd_same | (rw [upd_ne (by assumption)]; assumption))))
local macro_rules | `(tactic| walk_at "go3") => `(tactic| repeat' walk_at "go3a")
local macro_rules | `(tactic| walk_at "go4") => `(tactic| repeat' (first
  | walk_at "go3a" | ((with_reducible refine' iteDT ?h ?_); (case h => first | rfl | decide +kernel)) | ((with_reducible refine' iteDF ?h ?_); (case h => decide +kernel))))
/-! ## letters compared -/
theorem o4_lt : op4 .Lt := .inl rfl
theorem o4_le : op4 .LtE := .inr (.inl rfl)
theorem o4_gt : op4 .Gt := .inr (.inr (.inl rfl))
theorem o4_ge : op4 .GtE := .inr (.inr (.inr rfl))
def spCmp (CL : Addr) (op : CmpOp) : Sp := fun vs H Q _ => ∃ (u v : V) (a b : Fm), vs = [u, v] ∧ LetAt CL H u a ∧ LetAt CL H v b ∧ a.ok = true ∧ b.ok = true ∧ a.dep ≤ 60 ∧ b.dep ≤ 60 ∧ Q (.bl (cmpF op a b)) H
def spEqL (CL : Addr) : Sp := fun vs H Q _ => ∃ (u v : V) (a b : Fm), vs = [u, v] ∧ LetAt CL H u a ∧ LetAt CL H v b ∧ a.ok = true ∧ b.ok = true ∧ a.dep ≤ 60 ∧ b.dep ≤ 60 ∧ Q (.bl (PyData.eqv a.data b.data)) H
section
variable {P : Program} {w : World} {K : PySem.W.Frag} {mg : Str → Option Value} {base : Heap} {CL CE CX : Addr}
theorem cm_lt (T : Bl K mg) (L : Lt K mg CL) (LC : Lc K CL) (D : Dm K CL "__lt__" "Letter.__lt__" s_Letter___lt__ p_Letter___lt__) : Cm P w K mg base 1 CL "__lt__" (spCmp CL .Lt) := by
  refine cm_n D sc_Letter___lt__ (fun vs H Q E h => ?_) (fun f cdv A outer s H vs Q E hr h => ?_)
  · obtain ⟨u, v, a, b, rfl, _⟩ := h
    rfl
  · obtain ⟨u, v, a, b, rfl, ⟨x, dx, ua, rfl, hx, fa⟩, ⟨y, dy, ub, rfl, hy, fb⟩, oa, ob, da, db, q⟩ := h
    have lcl := L.cl
    have lno := L.no
    refine ⟨_, (pss_cons (ps_if (pt_not (pt_val (pe_callB call_isi (by rfl) T.b_isinstance (by decide +kernel) (pa_cons (pv 1) (pa_cons (C8.pe_gc (v := .ref CL) (by rfl) ⟨_, L.mgC, rfl⟩) pa_nil)))))
  (pss_one ps_never)
  pss_nil)
  (pss_one (ps_ret (pe_cmpR (op_cmpF o4_lt hr.units) (pe_fld (pv 0) rfl) (pe_fld (pv 1) rfl) (nomark _))))), ?_⟩
    walk_at "go3"
    refine LC.isi hy ?_
    walk_at "go3"
    exact ⟨a, b, fa, fb, oa, ob, da, q⟩
theorem cm_le (T : Bl K mg) (L : Lt K mg CL) (LC : Lc K CL) (D : Dm K CL "__le__" "Letter.__le__" s_Letter___le__ p_Letter___le__) : Cm P w K mg base 1 CL "__le__" (spCmp CL .LtE) := by
  refine cm_n D sc_Letter___le__ (fun vs H Q E h => ?_) (fun f cdv A outer s H vs Q E hr h => ?_)
  · obtain ⟨u, v, a, b, rfl, _⟩ := h
    rfl
  · obtain ⟨u, v, a, b, rfl, ⟨x, dx, ua, rfl, hx, fa⟩, ⟨y, dy, ub, rfl, hy, fb⟩, oa, ob, da, db, q⟩ := h
    have lcl := L.cl
    have lno := L.no
    refine ⟨_, (pss_cons (ps_if (pt_not (pt_val (pe_callB call_isi (by rfl) T.b_isinstance (by decide +kernel) (pa_cons (pv 1) (pa_cons (C8.pe_gc (v := .ref CL) (by rfl) ⟨_, L.mgC, rfl⟩) pa_nil)))))
  (pss_one ps_never)
  pss_nil)
  (pss_one (ps_ret (pe_cmpR (op_cmpF o4_le hr.units) (pe_fld (pv 0) rfl) (pe_fld (pv 1) rfl) (nomark _))))), ?_⟩
    walk_at "go3"
    refine LC.isi hy ?_
    walk_at "go3"
    exact ⟨a, b, fa, fb, oa, ob, da, q⟩
theorem cm_gt (T : Bl K mg) (L : Lt K mg CL) (LC : Lc K CL) (D : Dm K CL "__gt__" "Letter.__gt__" s_Letter___gt__ p_Letter___gt__) : Cm P w K mg base 1 CL "__gt__" (spCmp CL .Gt) := by
  refine cm_n D sc_Letter___gt__ (fun vs H Q E h => ?_) (fun f cdv A outer s H vs Q E hr h => ?_)
  · obtain ⟨u, v, a, b, rfl, _⟩ := h
    rfl
  · obtain ⟨u, v, a, b, rfl, ⟨x, dx, ua, rfl, hx, fa⟩, ⟨y, dy, ub, rfl, hy, fb⟩, oa, ob, da, db, q⟩ := h
    have lcl := L.cl
    have lno := L.no
    refine ⟨_, (pss_cons (ps_if (pt_not (pt_val (pe_callB call_isi (by rfl) T.b_isinstance (by decide +kernel) (pa_cons (pv 1) (pa_cons (C8.pe_gc (v := .ref CL) (by rfl) ⟨_, L.mgC, rfl⟩) pa_nil)))))
  (pss_one ps_never)
  pss_nil)
  (pss_one (ps_ret (pe_cmpR (op_cmpF o4_gt hr.units) (pe_fld (pv 0) rfl) (pe_fld (pv 1) rfl) (nomark _))))), ?_⟩
    walk_at "go3"
    refine LC.isi hy ?_
    walk_at "go3"
    exact ⟨a, b, fa, fb, oa, ob, da, q⟩
theorem cm_ge (T : Bl K mg) (L : Lt K mg CL) (LC : Lc K CL) (D : Dm K CL "__ge__" "Letter.__ge__" s_Letter___ge__ p_Letter___ge__) : Cm P w K mg base 1 CL "__ge__" (spCmp CL .GtE) := by
  refine cm_n D sc_Letter___ge__ (fun vs H Q E h => ?_) (fun f cdv A outer s H vs Q E hr h => ?_)
  · obtain ⟨u, v, a, b, rfl, _⟩ := h
    rfl
  · obtain ⟨u, v, a, b, rfl, ⟨x, dx, ua, rfl, hx, fa⟩, ⟨y, dy, ub, rfl, hy, fb⟩, oa, ob, da, db, q⟩ := h
    have lcl := L.cl
    have lno := L.no
    refine ⟨_, (pss_cons (ps_if (pt_not (pt_val (pe_callB call_isi (by rfl) T.b_isinstance (by decide +kernel) (pa_cons (pv 1) (pa_cons (C8.pe_gc (v := .ref CL) (by rfl) ⟨_, L.mgC, rfl⟩) pa_nil)))))
  (pss_one ps_never)
  pss_nil)
  (pss_one (ps_ret (pe_cmpR (op_cmpF o4_ge hr.units) (pe_fld (pv 0) rfl) (pe_fld (pv 1) rfl) (nomark _))))), ?_⟩
    walk_at "go3"
    refine LC.isi hy ?_
    walk_at "go3"
    exact ⟨a, b, fa, fb, oa, ob, da, q⟩
theorem cm_eq (T : Bl K mg) (L : Lt K mg CL) (LC : Lc K CL) (D : Dm K CL "__eq__" "Letter.__eq__" s_Letter___eq__ p_Letter___eq__) : Cm P w K mg base 1 CL "__eq__" (spEqL CL) := by
  refine cm_n D sc_Letter___eq__ (fun vs H Q E h => ?_) (fun f cdv A outer s H vs Q E hr h => ?_)
  · obtain ⟨u, v, a, b, rfl, _⟩ := h
    rfl
  · obtain ⟨u, v, a, b, rfl, ⟨x, dx, ua, rfl, hx, fa⟩, ⟨y, dy, ub, rfl, hy, fb⟩, oa, ob, da, db, q⟩ := h
    have lcl := L.cl
    have lno := L.no
    refine ⟨_, (pss_one (ps_ret (pe_and (pe_callB call_isi (by rfl) T.b_isinstance (by decide +kernel) (pa_cons (pv 1) (pa_cons (C8.pe_gc (v := .ref CL) (by rfl) ⟨_, L.mgC, rfl⟩) pa_nil))) (pe_one (pe_cmpR (op_eqD hr.units) (pe_fld (pv 0) rfl) (pe_fld (pv 1) rfl) (nomark _)))))), ?_⟩
    walk_at "go3"
    refine LC.isi hy ?_
    walk_at "go3"
    exact ⟨_, _, dp_fm fa, dp_fm fb, Fm.shaped oa da, Fm.shaped ob db, q⟩
end
end Op

namespace Op
open PySem PySem.Spec PyProof.Rows L2 SX
local macro_rules | `(tactic| walk_at "go1") => `(tactic| first
  | ((with_reducible refine' g_var ?h ?_); (case h => rfl)) | with_reducible refine' g_c ?_ | with_reducible refine' g_op ?_ | with_reducible refine' g_un ?_ | with_reducible refine' g_if ?_ | with_reducible refine' g_test ?_ | with_reducible refine' g_B ?_ | with_reducible refine' g_bl ?_
  | with_reducible refine' g_not ?_ | with_reducible refine' g_and ?_ | with_reducible refine' g_or ?_ | with_reducible refine' g_andV ?_ | with_reducible refine' g_orV ?_ | with_reducible refine' g_notV ?_ | with_reducible refine' g_nil ?_ | with_reducible refine' g_cons ?_ | with_reducible refine' g_CB ?_ | with_reducible refine' g_ca ?_
  | with_reducible refine' g_seq ?_ | with_reducible refine' g_next ?_ | with_reducible refine' g_asg ?_ | with_reducible refine' g_name ?_ | with_reducible refine' g_ret ?_ | with_reducible refine' g_retN ?_ | with_reducible refine' g_drop ?_ | with_reducible refine' g_ifS ?_ | with_reducible refine' g_sub ?_
  | with_reducible refine' g_I0 ?_ | with_reducible refine' g_U ?_ | ((with_reducible refine' g_eq ?h ?_); (case h => rfl)) | ((with_reducible refine' g_ne ?h ?_); (case h => rfl))
  | ((with_reducible refine' g_lenL ?h ?_); (case h => first | assumption | exact SqL.of (by assumption) | exact SqL.of upd_same)) | ((with_reducible refine' g_lenT ?h ?_); (case h => first | assumption | exact SqT.of (by assumption) | exact SqT.of upd_same))
  | ((with_reducible refine' g_ixL ?h ?ha ?_); (case h => first | assumption | exact SqL.of (by assumption) | exact SqL.of upd_same); (case ha => rfl)) | ((with_reducible refine' g_ixT ?h ?ha ?_); (case h => first | assumption | exact SqT.of (by assumption) | exact SqT.of upd_same); (case ha => rfl))
  | ((with_reducible refine' g_I ?h ?_); (case h => first | decide | omega | (first | refine' ⟨?_, ?_, ?_⟩ | refine' ⟨?_, ?_⟩ | refine' Or.inl ⟨?_, ?_⟩) <;> omega | (refine' Or.inr ⟨?_, ?_⟩ <;> omega)))
  | ((with_reducible refine' g_setL ?h ?ha ?_); (case h => first | assumption | exact upd_same); (case ha => rfl))
  | with_reducible refine' g_lcR ?_
  | with_reducible refine' g_M1 ?_ | with_reducible refine' g_isS ?_ | with_reducible refine' g_tyS ?_ | ((with_reducible refine' g_tyL ?h ?_); (case h => first | assumption | exact upd_same))
  | ((with_reducible refine' g_cat ?h ?h2 ?hl ?_); (case h => first | assumption | exact upd_same); (case h2 => first | assumption | exact upd_same); (case hl => first | decide | (simp; omega)))
  | with_reducible refine' g_lcS ?_
  | with_reducible refine' g_starts ?_ | with_reducible refine' g_chain ?_
  | ((with_reducible refine' g_lenS ?h ?_); (case h => first | exact len_le (by assumption) | exact len_le (by omega))) | ((with_reducible refine' g_rstrip ?h ?_); (case h => first | exact len_le (by assumption) | exact len_le (by omega))) | ((with_reducible refine' g_slX ?h ?_); (case h => first | exact len_le (by assumption) | exact len_le (by omega)))
  | with_reducible refine' g_sl ?_ | with_reducible refine' g_nopart ?_ | with_reducible refine' g_part ?_ | with_reducible refine' g_isI ?_
  | with_reducible refine' g_tru ?_
  | with_reducible refine' iteT ?_ | with_reducible refine' iteF ?_ | with_reducible refine' iteNT ?_ | with_reducible refine' iteNF ?_
  | with_reducible refine' g_int ?_ | with_reducible refine' g_insg ?_ | with_reducible refine' g_ninsg ?_ | with_reducible refine' g_isN ?_ | with_reducible refine' g_notN ?_ | with_reducible refine' g_lst ?_ | with_reducible refine' g_tup ?_ | with_reducible refine' g_BM ?_ | with_reducible refine' g_BM0 ?_)
local macro_rules | `(tactic| walk_at "go") => `(tactic| repeat' walk_at "go1")
local macro_rules | `(tactic| walk_at "go2") => `(tactic| repeat' (first | walk_at "go1" | with_reducible refine' g_cm ?_ | with_reducible refine' g_mk ?_ | with_reducible refine' g_for ?_ | ((with_reducible refine' g_rcm ?h ?ha ?_); (case h => first | assumption | exact upd_same); (case ha => first | rfl | decide | simp [List.lookup]))))
/- macro2 -/
local macro_rules | `(tactic| walk_at "go3a") => `(tactic| first
  | walk_at "go1" | with_reducible refine' g_cm ?_ | with_reducible refine' g_mk ?_ | with_reducible refine' g_for ?_ | with_reducible refine' g_fld ?_ | with_reducible refine' g_lcT0 ?_
  | ((with_reducible refine' g_rcm ?h ?ha ?_); (case h => first | assumption | exact upd_same); (case ha => first | rfl | decide | simp [List.lookup]))
  | ((with_reducible refine' g_shape ?hc ?hn ?h ?_); (case hc => assumption); (case hn => assumption); (case h => first | assumption | exact upd_same | (rw [upd_ne (by assumption)]; assumption))))
local macro_rules | `(tactic| walk_at "go3") => `(tactic| repeat' walk_at "go3a")
local macro_rules | `(tactic| walk_at "go4") => `(tactic| repeat' (first
  | walk_at "go3a" | ((with_reducible refine' iteDT ?h ?_); (case h => first | rfl | decide +kernel)) | ((with_reducible refine' iteDF ?h ?_); (case h => decide +kernel))))
/-! ## the parts of a form, as the law lists them -/
def rForT (K : PySem.W.Frag) (g : TG) (tb : TS) (D : Ends) (σ : L2.St) (x : V) (H : Hp) : Prop := ∃ a, x = .ref a ∧ (∃ xs, SqT K H a xs) ∧ ∃ W : Nat → Nat → L2.St → Hp → Prop, (∃ m, W 0 m σ H) ∧ ∀ i m σ H, W i m σ H →
  ((Itt K a).stop i H ∧ D.nx σ H) ∨ ((Itt K a).go i H ∧ ∃ N : L2.St → Hp → Prop, (∀ σ' H', N σ' H' → ∃ m', m' < m ∧ W (i + 1) m' σ' H') ∧ ∀ x H', (Itt K a).yld i H x H' → g x σ H' fun σ2 H2 => tb { D with nx := N, ct := N, bk := D.nx } σ2 H2)
theorem g_forT {K : PySem.W.Frag} {tl : TE} {g : TG} {tb : TS} {D : Ends} {σ : L2.St} {H : Hp} (k : tl σ H fun x H1 => rForT K g tb D σ x H1) : tFor (iTup K tl) g tb D σ H := k
theorem r_forT {K : PySem.W.Frag} {g : TG} {tb : TS} {D : Ends} {σ : L2.St} {a : Addr} {xs : List V} {H : Hp} (Pv : Nat → L2.St → Hp → Prop) (h : SqT K H a xs) (h0 : Pv 0 σ H) (hl : ∀ i σ H, i ≤ xs.length → Pv i σ H → SqT K H a xs)
    (hs : ∀ i x σ H, xs[i]? = some x → Pv i σ H → g x σ H fun σ2 H2 => tb { D with nx := Pv (i + 1), ct := Pv (i + 1), bk := D.nx } σ2 H2) (hd : ∀ σ H, Pv xs.length σ H → D.nx σ H) : rForT K g tb D σ (.ref a) H :=
  ⟨a, rfl, ⟨xs, h⟩, for_tup Pv h0 hl hs hd⟩
def sumS (ks : List (V × Fm)) : Nat := (ks.map fun y => y.2.size).sum
/-- a form that is no atom: its inner forms -/
theorem kids_of {H : Hp} {v : V} {a : Fm} (h : FmAt H v a) (ok : a.ok = true) : (∃ p k t, v = .ref p ∧ a = .atm k t ∧ H p = some (.tup [.str k, .str (S t)]) ∧ atK k = true) ∨
    ∃ p k ks, v = .ref p ∧ H p = some (.tup (.str k :: ks.map (·.1))) ∧ atK k = false ∧ (∀ y ∈ ks, FmAt H y.1 y.2 ∧ y.2.ok = true ∧ y.2.dep < a.dep) ∧ 1 + sumS ks = a.size := by
  cases h with
  | @atm p k t h => exact .inl ⟨p, k, t, rfl, rfl, h, Fm.ok_kin ok⟩
  | @un p k w b h f =>
    simp only [Fm.ok, Bool.and_eq_true] at ok
    refine .inr ⟨p, k, [(w, b)], rfl, h, unK_at ok.1, fun y hy => ?_, ?_⟩
    · rw [List.mem_singleton.mp hy]
      exact ⟨f, ok.2, Nat.lt_succ_self _⟩
    · show 1 + (b.size + 0) = b.size + 1
      omega
  | @bi p k w z b c h f g =>
    simp only [Fm.ok, Bool.and_eq_true] at ok
    refine .inr ⟨p, k, [(w, b), (z, c)], rfl, h, biK_at ok.1, fun y hy => ?_, ?_⟩
    · simp only [List.mem_cons, List.not_mem_nil, or_false] at hy
      rcases hy with rfl | rfl
      · exact ⟨f, ok.2.2.1, by show b.dep < max b.dep c.dep + 1; omega⟩
      · exact ⟨g, ok.2.2.2, by show c.dep < max b.dep c.dep + 1; omega⟩
    · show 1 + (b.size + (c.size + 0)) = b.size + c.size + 1
      omega
/-- a form stands at v, at most d deep -/
def FkAt (H : Hp) (v : V) (a : Fm) (d : Nat) : Prop := FmAt H v a ∧ a.ok = true ∧ a.dep ≤ d
theorem FkAt.same {H H' : Hp} {v : V} {a : Fm} {d : Nat} (h : FkAt H v a d) (s : Same H H') : FkAt H' v a d := ⟨h.1.same s, h.2⟩
theorem FkAt.tps {H H' : Hp} {v : V} {a : Fm} {d : Nat} (h : FkAt H v a d) (s : Tps H H') : FkAt H' v a d := ⟨h.1.tps s, h.2⟩
theorem cut_tail (x : V) (xs : List V) : cutV (x :: xs) (some 1) none = xs := by
  simp [cutV, HT.sIx]
theorem nowhole (x : V) (xs : List V) : ¬ (HT.sIx (x :: xs).length 0 (some 1) = 0 ∧ HT.sIx (x :: xs).length (x :: xs).length none = (x :: xs).length) := by
  simp [HT.sIx]
theorem sum_take {ks : List (V × Fm)} {i : Nat} {y : V × Fm} (h : ks[i]? = some y) : sumS (ks.take (i + 1)) = sumS (ks.take i) + y.2.size := by
  rw [List.take_succ, h]
  simp [sumS]
theorem sum_take_le (ks : List (V × Fm)) (i : Nat) : sumS (ks.take i) ≤ sumS ks := by
  have e := congrArg List.sum (List.take_append_drop i (ks.map fun y => y.2.size))
  rw [List.sum_append] at e
  unfold sumS
  rw [List.map_take]
  omega
end Op

namespace Op
open PySem PySem.Spec PyProof.Rows L2 SX OpC
local macro_rules | `(tactic| walk_at "go1") => `(tactic| first
  | ((with_reducible refine' g_var ?h ?_); (case h => rfl)) | with_reducible refine' g_c ?_ | with_reducible refine' g_op ?_ | with_reducible refine' g_un ?_ | with_reducible refine' g_if ?_ | with_reducible refine' g_test ?_ | with_reducible refine' g_B ?_ | with_reducible refine' g_bl ?_
  | with_reducible refine' g_not ?_ | with_reducible refine' g_and ?_ | with_reducible refine' g_or ?_ | with_reducible refine' g_andV ?_ | with_reducible refine' g_orV ?_ | with_reducible refine' g_notV ?_ | with_reducible refine' g_nil ?_ | with_reducible refine' g_cons ?_ | with_reducible refine' g_CB ?_ | with_reducible refine' g_ca ?_
  | with_reducible refine' g_seq ?_ | with_reducible refine' g_next ?_ | with_reducible refine' g_asg ?_ | with_reducible refine' g_name ?_ | with_reducible refine' g_ret ?_ | with_reducible refine' g_retN ?_ | with_reducible refine' g_drop ?_ | with_reducible refine' g_ifS ?_ | with_reducible refine' g_sub ?_
  | with_reducible refine' g_I0 ?_ | with_reducible refine' g_U ?_ | ((with_reducible refine' g_eq ?h ?_); (case h => rfl)) | ((with_reducible refine' g_ne ?h ?_); (case h => rfl))
  | ((with_reducible refine' g_lenL ?h ?_); (case h => first | assumption | exact SqL.of (by assumption) | exact SqL.of upd_same)) | ((with_reducible refine' g_lenT ?h ?_); (case h => first | assumption | exact SqT.of (by assumption) | exact SqT.of upd_same))
  | ((with_reducible refine' g_ixL ?h ?ha ?_); (case h => first | assumption | exact SqL.of (by assumption) | exact SqL.of upd_same); (case ha => rfl)) | ((with_reducible refine' g_ixT ?h ?ha ?_); (case h => first | assumption | exact SqT.of (by assumption) | exact SqT.of upd_same); (case ha => rfl))
  | ((with_reducible refine' g_I ?h ?_); (case h => first | decide | omega | (first | refine' ⟨?_, ?_, ?_⟩ | refine' ⟨?_, ?_⟩ | refine' Or.inl ⟨?_, ?_⟩) <;> omega | (refine' Or.inr ⟨?_, ?_⟩ <;> omega)))
  | ((with_reducible refine' g_setL ?h ?ha ?_); (case h => first | assumption | exact upd_same); (case ha => rfl))
  | with_reducible refine' g_lcR ?_
  | with_reducible refine' g_M1 ?_ | with_reducible refine' g_isS ?_ | with_reducible refine' g_tyS ?_ | ((with_reducible refine' g_tyL ?h ?_); (case h => first | assumption | exact upd_same))
  | ((with_reducible refine' g_cat ?h ?h2 ?hl ?_); (case h => first | assumption | exact upd_same); (case h2 => first | assumption | exact upd_same); (case hl => first | decide | (simp; omega)))
  | with_reducible refine' g_lcS ?_
  | with_reducible refine' g_starts ?_ | with_reducible refine' g_chain ?_
  | ((with_reducible refine' g_lenS ?h ?_); (case h => first | exact len_le (by assumption) | exact len_le (by omega))) | ((with_reducible refine' g_rstrip ?h ?_); (case h => first | exact len_le (by assumption) | exact len_le (by omega))) | ((with_reducible refine' g_slX ?h ?_); (case h => first | exact len_le (by assumption) | exact len_le (by omega)))
  | with_reducible refine' g_sl ?_ | with_reducible refine' g_nopart ?_ | with_reducible refine' g_part ?_ | with_reducible refine' g_isI ?_
  | with_reducible refine' g_tru ?_
  | with_reducible refine' iteT ?_ | with_reducible refine' iteF ?_ | with_reducible refine' iteNT ?_ | with_reducible refine' iteNF ?_
  | with_reducible refine' g_int ?_ | with_reducible refine' g_insg ?_ | with_reducible refine' g_ninsg ?_ | with_reducible refine' g_isN ?_ | with_reducible refine' g_notN ?_ | with_reducible refine' g_lst ?_ | with_reducible refine' g_tup ?_ | with_reducible refine' g_BM ?_ | with_reducible refine' g_BM0 ?_)
local macro_rules | `(tactic| walk_at "go") => `(tactic| repeat' walk_at "go1")
local macro_rules | `(tactic| walk_at "go2") => `(tactic| repeat' (first | walk_at "go1" | with_reducible refine' g_cm ?_ | with_reducible refine' g_mk ?_ | with_reducible refine' g_for ?_ | ((with_reducible refine' g_rcm ?h ?ha ?_); (case h => first | assumption | exact upd_same); (case ha => first | rfl | decide | simp [List.lookup]))))
/- macro2 -/
local macro_rules | `(tactic| walk_at "go3a") => `(tactic| first
  | walk_at "go1" | with_reducible refine' g_cm ?_ | with_reducible refine' g_mk ?_ | with_reducible refine' g_for ?_ | with_reducible refine' g_fld ?_ | with_reducible refine' g_lcT0 ?_
  | ((with_reducible refine' g_rcm ?h ?ha ?_); (case h => first | assumption | exact upd_same); (case ha => first | rfl | decide | simp [List.lookup]))
  | ((with_reducible refine' g_shape ?hc ?hn ?h ?_); (case hc => assumption); (case hn => assumption); (case h => first | assumption | exact upd_same | (rw [upd_ne (by assumption)]; assumption))))
local macro_rules | `(tactic| walk_at "go3") => `(tactic| repeat' walk_at "go3a")
local macro_rules | `(tactic| walk_at "go4") => `(tactic| repeat' (first
  | walk_at "go3a" | ((with_reducible refine' iteDT ?h ?_); (case h => first | rfl | decide +kernel)) | ((with_reducible refine' iteDF ?h ?_); (case h => decide +kernel))))
/-! ## of use in many laws -/
theorem us_xy {H : Hp} {p : Addr} (h : H p = some (.lst [.str (Str.ofString "x"), .str (Str.ofString "y")])) : UsAt H p [[120], [121]] := ⟨by
  rw [h, show Str.ofString "x" = S [120] by decide +kernel, show Str.ofString "y" = S [121] by decide +kernel]
  rfl, by decide +kernel, by decide⟩
theorem Same.but {H H1 H2 : Hp} {st : Addr} (s : Same H H1) (n : H st = none) (b : But st H1 H2) : Same H H2 := fun x o e => b x o (fun q => by rw [q, n] at e; cases e) (s x o e)
theorem Same.non {H H1 : Hp} {st : Addr} (s : Same H H1) (n : H1 st = none) : H st = none := by
  cases e : H st with
  | none => rfl
  | some o =>
    rw [s _ _ e] at n
    cases n
theorem StAt.mut {H : Hp} {st p : Addr} {n : Nat} {o : HO} (h : StAt H st n) (ne : st ≠ p) : StAt (upd H p o) st n := by
  obtain ⟨a, b, c, e, r⟩ := h
  exact ⟨a, b, c, by rw [upd_ne ne]; exact e, r⟩
theorem SqL.sm {K : PySem.W.Frag} {H H' : Hp} {a : Addr} {xs : List V} (h : SqL K H a xs) (s : Same H H') : SqL K H' a xs := by
  rcases h with (h | ⟨o, h⟩) | h
  · exact .inl (.inl (s _ _ h))
  · exact .inl (.inr ⟨o, s _ _ h⟩)
  · exact .inr h
theorem at_last {xs : List V} {v : V} : atI (xs ++ [v]) (-1) = some v := by
  have e : ixN (xs ++ [v]).length (-1) = some xs.length := by
    unfold ixN
    rw [List.length_append, List.length_singleton, if_neg (by decide), if_pos (by omega)]
    exact congrArg some (by omega)
  show (ixN (xs ++ [v]).length (-1)).bind _ = _
  rw [e]
  simp
def rForZ (K : PySem.W.Frag) (g : TG) (tb : TS) (D : Ends) (σ : L2.St) (vs : List V) (H : Hp) : Prop := ∃ a b xs ys, vs = [.ref a, .ref b] ∧ SqL K H a xs ∧ SqL K H b ys ∧ ∃ W : Nat → Nat → L2.St → Hp → Prop, (∃ m, W 0 m σ H) ∧ ∀ i m σ H, W i m σ H →
  ((Itz K a b).stop i H ∧ D.nx σ H) ∨ ((Itz K a b).go i H ∧ ∃ N : L2.St → Hp → Prop, (∀ σ' H', N σ' H' → ∃ m', m' < m ∧ W (i + 1) m' σ' H') ∧ ∀ x H', (Itz K a b).yld i H x H' → g x σ H' fun σ2 H2 => tb { D with nx := N, ct := N, bk := D.nx } σ2 H2)
theorem g_forZ {K : PySem.W.Frag} {ta : TA} {g : TG} {tb : TS} {D : Ends} {σ : L2.St} {H : Hp} (k : ta σ H fun vs H1 => rForZ K g tb D σ vs H1) : tFor (iZip K ta) g tb D σ H := k
/-- two lists of one length, side by side -/
theorem r_forZ {K : PySem.W.Frag} {g : TG} {tb : TS} {D : Ends} {σ : L2.St} {a b : Addr} {xs ys : List V} {H : Hp} (Pv : Nat → L2.St → Hp → Prop) (hxy : xs.length = ys.length) (h0 : Pv 0 σ H) (hl : ∀ i σ H, Pv i σ H → SqL K H a xs ∧ SqL K H b ys)
    (hs : ∀ i x y σ H T, xs[i]? = some x → ys[i]? = some y → Pv i σ H → H T = none → g (.ref T) σ (upd H T (.tup [x, y])) fun σ2 H2 => tb { D with nx := Pv (i + 1), ct := Pv (i + 1), bk := D.nx } σ2 H2) (hd : ∀ σ H, Pv xs.length σ H → D.nx σ H) : rForZ K g tb D σ [.ref a, .ref b] H := by
  refine ⟨a, b, xs, ys, rfl, (hl 0 _ _ h0).1, (hl 0 _ _ h0).2, fun i m σ H => m + i = xs.length ∧ Pv i σ H, ⟨xs.length, rfl, h0⟩, ?_⟩
  rintro i m σ H ⟨hm, p⟩
  obtain ⟨qa, qb⟩ := hl i σ H p
  cases m with
  | zero =>
    have e : i = xs.length := by omega
    subst e
    exact .inl ⟨⟨xs, ys, qa, qb, .inl (Nat.le_refl _)⟩, hd σ H p⟩
  | succ m =>
    have h1 : i < xs.length := by omega
    have h2 : i < ys.length := by omega
    refine .inr ⟨⟨xs, ys, _, _, qa, qb, List.getElem?_eq_getElem h1, List.getElem?_eq_getElem h2⟩, Pv (i + 1), fun σ' H' p' => ⟨m, Nat.lt_succ_self _, by omega, p'⟩, ?_⟩
    rintro v H' ⟨T, x, y, rfl, hT, rfl, hx, hy⟩
    exact hs i x y σ H T (hx xs qa) (hy ys qb) p hT
def FkAll (H : Hp) (xs : List V) : Prop := ∀ x ∈ xs, ∃ b, FkAt H x b 6
theorem FkAll.tps {H H' : Hp} {xs : List V} (h : FkAll H xs) (t : Tps H H') : FkAll H' xs := fun x hx => by
  obtain ⟨b, hb⟩ := h x hx
  exact ⟨b, hb.tps t⟩
theorem FkAll.add {H : Hp} {xs : List V} {v : V} {b : Fm} (h : FkAll H xs) (hb : FkAt H v b 6) : FkAll H (xs ++ [v]) := fun x hx => by
  rcases List.mem_append.mp hx with hx | hx
  · exact h x hx
  · rw [List.mem_singleton.mp hx]
    exact ⟨b, hb⟩
def rLcL (K : PySem.W.Frag) (j : Nat) (te : TE) (vs : List Nat) (σ : L2.St) (v : V) (H : Hp) (Q : VK) : Prop := ∃ a, v = .ref a ∧ (∃ xs, SqL K H a xs) ∧ ∀ D, H D = none → ∃ W : Nat → Nat → Hp → Prop, (∃ m, W 0 m (upd H D (.lst []))) ∧ ∀ i m H, W i m H →
  ((Itl K a).stop i H ∧ Q (.ref D) H) ∨ ((Itl K a).go i H ∧ ∃ Nx : Hp → Prop, (∀ H', Nx H' → ∃ m', m' < m ∧ W (i + 1) m' H') ∧ ∀ x H', (Itl K a).yld i H x H' → gName j x (wipe σ vs) H' fun σ2 H2 => wipe σ2 vs = wipe σ vs ∧ tYes σ2 H2 fun b H3 =>
    if b = true then te σ2 H3 fun y H4 => ∃ acc, H4 D = some (.lst acc) ∧ acc.length < sizeLine ∧ Nx (upd H4 D (.lst (acc ++ [y]))) else Nx H3)
theorem g_lcL0 {K : PySem.W.Frag} {σ : L2.St} {H : Hp} {Q : VK} {tl : TE} {te : TE} {j : Nat} {vs : List Nat} (k : tl σ H fun v H1 => rLcL K j te vs σ v H1 Q) : tLc (iList K tl) (gName j) tYes te vs σ H Q := k
theorem r_lcL {K : PySem.W.Frag} {σ : L2.St} {H : Hp} {Q : VK} {te : TE} {j : Nat} {a : Addr} {xs : List V} {vs : List Nat} (J : Addr → Nat → List V → Hp → Prop) (hT : SqL K H a xs) (hl : xs.length < 1000000) (hw : ∀ x, wipe ((wipe σ vs).set j (some x)) vs = wipe σ vs)
    (hst : ∀ D i acc H2, J D i acc H2 → SqL K H2 a xs) (h0 : ∀ D, H D = none → J D 0 [] (upd H D (.lst [])))
    (hs : ∀ (D : Addr) (i : Nat) (x : V) (acc : List V) (H2 : Hp), H D = none → xs[i]? = some x → H2 D = some (.lst acc) → acc.length = i → J D i acc H2 → te ((wipe σ vs).set j (some x)) H2 (lcPost J D i))
    (hd : ∀ D acc H2, H D = none → H2 D = some (.lst acc) → acc.length = xs.length → J D xs.length acc H2 → Q (.ref D) H2) : rLcL K j te vs σ (.ref a) H Q := by
  refine ⟨a, rfl, ⟨xs, hT⟩, fun D hD => ?_⟩
  refine lc_list (xs := xs) (fun i H2 => ∃ acc, H2 D = some (.lst acc) ∧ acc.length = i ∧ J D i acc H2) ⟨[], upd_same, rfl, h0 D hD⟩ (fun i H2 hi p => ?_) (fun i x H2 hi p => ?_) (fun H2 p => ?_)
  · obtain ⟨acc, h1, h2, h3⟩ := p
    exact hst D i acc H2 h3
  · obtain ⟨acc, h1, h2, h3⟩ := p
    exact ⟨hw _, hs D i x acc H2 hD hi h1 h2 h3⟩
  · obtain ⟨acc, h1, h2, h3⟩ := p
    exact hd D acc H2 hD h1 h2 h3
/-- equal data is not unequal -/
theorem g_neSelf {K : PySem.W.Frag} {H : Hp} {x y : V} {d : PyData} {Q : VK} (h1 : Dp K H x d) (h2 : Dp K H y d) (h : SeqAt.shaped d = true) (k : Q (.bl false) H) : rNeD K x y H Q :=
  ⟨d, d, h1, h2, h, h, by rw [SeqAt.eqv_refl _ (SeqAt.canLay_of_shaped h)]; exact k⟩
theorem bb_sh (x y : Bool) : SeqAt.shaped (.tuple [.bool x, .bool y]) = true := rfl
theorem bb_dp {K : PySem.W.Frag} {H : Hp} {p : Addr} {x y : Bool} (h : H p = some (.tup [.bl x, .bl y])) : Dp K H (.ref p) (.tuple [.bool x, .bool y]) := .tup (SqT.of h) (.cons (.bl _) (.cons (.bl _) .nil))
/-- the form at x, its letter at y -/
def Pairs (CL : Addr) (H : Hp) (fs acc : List V) : Prop := ∀ (n : Nat) (x y : V), fs[n]? = some x → acc[n]? = some y → ∃ b, FkAt H x b 6 ∧ LetAt CL H y b
/-- a form at x and its letter at y -/
def PairAt (CL : Addr) (H : Hp) (x y : V) (b : Fm) : Prop := FkAt H x b 6 ∧ LetAt CL H y b
theorem PairAt.same {CL : Addr} {H H' : Hp} {x y : V} {b : Fm} (h : PairAt CL H x y b) (s : Same H H') : PairAt CL H' x y b := ⟨h.1.same s, h.2.same s⟩
end Op

namespace Op
open PySem PySem.Spec PyProof.Rows L2 SX OpC
/-! ### lists of forms, of letters -/
inductive FsAt (H : Hp) : List V → List Fm → Prop where
  | nil : FsAt H [] []
  | cons {v : V} {vs : List V} {a : Fm} {as : List Fm} : FmAt H v a → FsAt H vs as → FsAt H (v :: vs) (a :: as)
inductive LsAt (CL : Addr) (H : Hp) : List V → List Fm → Prop where
  | nil : LsAt CL H [] []
  | cons {v : V} {vs : List V} {a : Fm} {as : List Fm} : LetAt CL H v a → LsAt CL H vs as → LsAt CL H (v :: vs) (a :: as)
theorem FsAt.tps {H H' : Hp} (t : Tps H H') : ∀ {vs : List V} {as : List Fm}, FsAt H vs as → FsAt H' vs as
  | _, _, .nil => .nil
  | _, _, .cons h r => .cons (h.tps t) (r.tps t)
theorem FsAt.same {H H' : Hp} {vs : List V} {as : List Fm} (h : FsAt H vs as) (s : Same H H') : FsAt H' vs as := h.tps (Tps.same s)
theorem LsAt.same {CL : Addr} {H H' : Hp} (s : Same H H') : ∀ {vs : List V} {as : List Fm}, LsAt CL H vs as → LsAt CL H' vs as
  | _, _, .nil => .nil
  | _, _, .cons h r => .cons (h.same s) (r.same s)
theorem FsAt.len {H : Hp} : ∀ {vs : List V} {as : List Fm}, FsAt H vs as → vs.length = as.length
  | _, _, .nil => rfl
  | _, _, .cons _ r => congrArg (· + 1) r.len
theorem LsAt.len {CL : Addr} {H : Hp} : ∀ {vs : List V} {as : List Fm}, LsAt CL H vs as → vs.length = as.length
  | _, _, .nil => rfl
  | _, _, .cons _ r => congrArg (· + 1) r.len
theorem FsAt.get {H : Hp} : ∀ {vs : List V} {as : List Fm}, FsAt H vs as → ∀ {i : Nat} {v : V}, vs[i]? = some v → ∃ a, as[i]? = some a ∧ FmAt H v a
  | _, _, .cons h r, 0, v, e => ⟨_, rfl, by rw [← Option.some.inj e]; exact h⟩
  | _, _, .cons h r, i + 1, v, e => r.get (i := i) e
theorem LsAt.get {CL : Addr} {H : Hp} : ∀ {vs : List V} {as : List Fm}, LsAt CL H vs as → ∀ {i : Nat} {v : V}, vs[i]? = some v → ∃ a, as[i]? = some a ∧ LetAt CL H v a
  | _, _, .cons h r, 0, v, e => ⟨_, rfl, by rw [← Option.some.inj e]; exact h⟩
  | _, _, .cons h r, i + 1, v, e => r.get (i := i) e
theorem FsAt.app {H : Hp} {v : V} {a : Fm} (h : FmAt H v a) : ∀ {vs : List V} {as : List Fm}, FsAt H vs as → FsAt H (vs ++ [v]) (as ++ [a])
  | _, _, .nil => .cons h .nil
  | _, _, .cons g r => .cons g (r.app h)
theorem FsAt.append {H : Hp} {ws : List V} {bs : List Fm} (h : FsAt H ws bs) : ∀ {vs : List V} {as : List Fm}, FsAt H vs as → FsAt H (vs ++ ws) (as ++ bs)
  | _, _, .nil => h
  | _, _, .cons g r => .cons g (FsAt.append h r)
theorem FsAt.dp {K : PySem.W.Frag} {H : Hp} : ∀ {vs : List V} {as : List Fm}, FsAt H vs as → DpAll K H vs (as.map Fm.data)
  | _, _, .nil => .nil
  | _, _, .cons h r => .cons (dp_fm h) r.dp
theorem fm_lay : ∀ {as : List Fm}, (∀ a ∈ as, a.ok = true ∧ a.dep ≤ 60) → (PyData.list (as.map Fm.data)).canLay0 = true ∧ (PyData.list (as.map Fm.data)).depth ≤ 62
  | [], _ => ⟨rfl, by show 0 + 1 ≤ 62; decide⟩
  | a :: as, h => by
    obtain ⟨h1, h2⟩ := fm_lay fun b hb => h b (List.mem_cons_of_mem _ hb)
    obtain ⟨o, d⟩ := h a (List.mem_cons_self ..)
    have e1 := Fm.lay o
    have e2 := Fm.depth_le a
    refine ⟨?_, ?_⟩
    · show (a.data.canLay0 && (PyData.list (as.map Fm.data)).canLay0) = true
      rw [e1, h1]
      rfl
    · have h3 : (PyData.list (as.map Fm.data)).depth ≤ 62 := h2
      have e : (PyData.list ((a :: as).map Fm.data)).depth + 0 = max a.data.depth ((PyData.list (as.map Fm.data)).depth - 1) + 1 := rfl
      omega
theorem shapedL {as : List Fm} (h : ∀ a ∈ as, a.ok = true ∧ a.dep ≤ 60) : SeqAt.shaped (.list (as.map Fm.data)) = true := by
  obtain ⟨h1, h2⟩ := fm_lay h
  show ((PyData.list (as.map Fm.data)).canLay0 && decide ((PyData.list (as.map Fm.data)).depth ≤ 64)) = true
  rw [h1, decide_eq_true (by omega)]
  rfl
end Op

namespace Op
open PySem PySem.Spec PyProof.Rows L2 SX OpC
/-! ## part[:0:-1] of a tuple -/
section
variable {prog : Program} {w : World} {A : Around} {E : Value → Shared → Prop} {s : Shared}
theorem adj_back (n : Nat) : Builtin.Slice.sliceAdjust none (some 0) (-1) ((n + 1 : Nat) : Int) = ((n : Int), 0) := by
  unfold Builtin.Slice.sliceAdjust
  simp
  omega
theorem plc_back (n : Nat) : Builtin.Slice.slicePlaces (n : Int) 0 (-1) = n := by
  unfold Builtin.Slice.slicePlaces
  simp
  omega
theorem applied_back {sl : Addr} {u v : Tok} {n : Nat} {Q : Int × Int × Nat → Shared → Prop} (hs : s.heap.IsSliceOf sl .none (.int 0 u) (.int (-1) v)) (h : Q ((n : Int), -1, n) s) :
    wpAny (model prog w) A (Builtin.Slice.sliceApplied (.ref sl) (pure ((n + 1 : Nat) : Int))) Q E s := by
  have ⟨ob, hob, _, hd⟩ := id hs
  unfold Builtin.Slice.sliceApplied Builtin.Slice.sliceFields
  apply wpAny_bind; apply wpAny_bind
  apply wpAny_field hob hd (x := .none) rfl
  apply wpAny_bind; apply wpAny_field hob hd (x := .int 0 u) rfl
  apply wpAny_bind; apply wpAny_field hob hd (x := .int (-1) v) rfl
  apply wpAny_pure
  apply wpAny_bind; apply slicePart_int
  show wpAny _ _ (if ((-1 : Int) == 0) = true then _ else _) _ _ s
  rw [if_neg (by decide)]
  apply wpAny_bind; apply slicePart_none
  apply wpAny_bind; apply slicePart_int
  apply wpAny_bind; apply wpAny_pure
  show wpAny _ _ (match Builtin.Slice.sliceAdjust none (some 0) (-1) ((n + 1 : Nat) : Int) with | (lo, hi) => pure (lo, (-1 : Int), Builtin.Slice.slicePlaces lo hi (-1))) _ _ s
  rw [adj_back]
  show wpAny _ _ (pure ((n : Int), (-1 : Int), Builtin.Slice.slicePlaces (n : Int) 0 (-1))) _ _ s
  rw [plc_back]
  exact wpAny_pure h
theorem pick_fill {f : Nat → Option Value} {ys : List Value} : ∀ n, n ≤ ys.length → (∀ m, m < n → f m = ys[m]?) → (List.range n).filterMap f = ys.take n
  | 0, _, _ => by simp
  | n + 1, hn, h => by
    have ih := pick_fill n (by omega) fun m hm => h m (by omega)
    rw [List.range_succ, List.filterMap_append, ih, List.take_succ]
    have e := h n (Nat.lt_succ_self n)
    cases hy : ys[n]? with
    | none => rw [List.getElem?_eq_getElem (by omega)] at hy; cases hy
    | some y => rw [hy] at e; simp [e]
theorem pick_back (x : Value) (xs : List Value) : ((List.range xs.length).filterMap fun (m : Nat) => (x :: xs).toArray[((xs.length : Int) + (m : Int) * (-1)).toNat]?) = xs.reverse := by
  have h := pick_fill (f := fun (m : Nat) => (x :: xs).toArray[((xs.length : Int) + (m : Int) * (-1)).toNat]?) (ys := xs.reverse) xs.length (by rw [List.length_reverse]; exact Nat.le_refl _) fun m hl => by
    have e1 : ((xs.length : Int) + (m : Int) * (-1)).toNat = (xs.length - 1 - m) + 1 := by omega
    show (x :: xs).toArray[((xs.length : Int) + (m : Int) * (-1)).toNat]? = _
    rw [e1, List.getElem?_toArray, List.getElem?_cons_succ, List.getElem?_reverse hl]
  rw [h, List.take_of_length_le (by rw [List.length_reverse]; exact Nat.le_refl _)]
theorem back_tuple {t sl : Addr} {x : Value} {xs : List Value} {u v : Tok} {Q : Value → Shared → Prop} (ht : IsTup s.heap t (x :: xs).toArray) (hs : s.heap.IsSliceOf sl .none (.int 0 u) (.int (-1) v)) (hz : xs.length + 1 ≤ sizeLine)
    (h : Q (.ref s.heap.objs.size) { s with heap := s.heap.push { cls := .type "tuple", data := .seq xs.reverse.toArray } }) : wpAny (model prog w) A (getItem (.ref t) (.ref sl)) Q E s := by
  have ok : sizeOk (.seq xs.reverse.toArray) := by
    show xs.reverse.toArray.size ≤ sizeLine
    rw [List.size_toArray, List.length_reverse]
    omega
  have ⟨ob, hob, hcl, _⟩ := id hs
  have ty : s.TypeIs (.ref sl) "slice" := ⟨ob, hob, hcl⟩
  unfold getItem
  apply wpAny_holding
  apply wpAny_bind
  apply wpAny_sequenceKey ht.typeIs (by decide)
  apply wpAny_bind
  refine wpAny_callSpecial?_slot (name := Str.ofString "__getitem__") ht.typeIs PyProof.Rows.slot_tuple_getitem ?_
  refine wpAny_call_entry PyProof.Rows.slot_tuple_getitem ht.typeIs PyProof.Rows.entry_tuple_getitem ?_ (PyProof.Rows.args_tuple_getitem _ _)
  show wpAny _ _ (Builtin.Tuple.tupleItemsOf (.ref t) >>= _) _ _ s
  apply wpAny_bind; apply tupleItemsOf_ ht
  apply wpAny_bind; apply wpAny_typeOf ty
  rw [if_pos (by decide)]
  have hn : (x :: xs).toArray.size = xs.length + 1 := by simp
  apply wpAny_bind
  rw [hn]
  apply applied_back hs
  dsimp only
  rw [if_neg (by simp), pick_back]
  exact wpAny_bind (m := Builtin.Tuple.tupleExact _) (wpAny_newObj_type (wpAny_pure ⟨_, rfl, wpAny_pure h⟩) ok)
end
/-- its reading: the upper end 0, the step -1, a tuple that is not empty -/
def tBack (K : PySem.W.Frag) (te : TE) (th ts : TO) : TE := fun σ H Q => te σ H fun x H1 => th σ H1 fun u H2 => ts σ H2 fun k H3 => u = some 0 ∧ k = some (-1) ∧ ∃ a y ys, x = V.ref a ∧ SqT K H3 a (y :: ys) ∧ ∀ p, H3 p = none → Q (.ref p) (upd H3 p (.tup ys.reverse))
theorem pe_back {X : Cx} {e : Expr} {hi : Option Expr} {st : Expr} {te : TE} {th ts : TO} {p2 pos : Pos} (he : PE X e te) (hu : PO X hi th) (hk : PO X (some st) ts) : PE X (.Subscript e (.Slice none hi (some st) p2) pos) (tBack X.K te th ts) := by
  refine ⟨fun pins s σ H Q I h => ?_⟩
  refine Subscript_ (thn (he.run pins s σ H _ I h) fun v s1 ⟨x, H1, I1, r1, q1⟩ => ?_)
  refine wpAny_Slice ?_
  rw [evalPart_none]
  apply wpAny_pure
  refine thn (hu.run pins s1 σ H1 _ I1 q1) fun vu s2 ⟨u, H2, I2, pu, q2⟩ => ?_
  refine thn (hk.run pins s2 σ H2 _ I2 q2) fun vk s3 ⟨k, H3, I3, pk, q3⟩ => ?_
  obtain ⟨rfl, rfl, a, y, ys, rfl, hx, q⟩ := q3
  cases r1
  cases pu with
  | int _ tu =>
    cases pk with
    | int _ tk =>
      have J : Inv X pins σ H3 { s3 with heap := s3.heap.push { cls := .type "slice", data := .fields #[.none, .int 0 tu, .int (-1) tk] } } := I3.kept (t' := s3.toks) fun b ob z => Heap.get?_push_of_some _ z
      obtain ⟨its, r, ht, hz⟩ := J.tuple hx
      cases r with
      | @cons _ _ z zs r0 rs =>
        have hl := rs.length
        rw [List.length_cons] at hz
        refine tail_any (ops := [.ref a, .ref s3.heap.objs.size]) (T := "tuple") ht.typeIs PyProof.Rows.slot_tuple_getitem.lookup ?_ (by with_unfolding_all rfl)
        refine back_tuple ht (Heap.IsSliceOf.new ..) (by rw [← hl]; exact hz) ?_
        refine ⟨.ref _, upd H3 _ (.tup ys.reverse), J.laid (t' := s3.toks) (o := .tup ys.reverse) (fun b ob z => Heap.get?_push_of_some _ z) (Nat.le_refl _) ?_, rfl, q _ (J.hok.fresh (Nat.le_refl _))⟩
        exact ⟨by rw [List.length_reverse]; omega, _, L2.Vals.reverse rs, IsTup.new _ _⟩
end Op

namespace Op
open PySem PySem.Spec PyProof.Rows L2 SX OpC
/-! ## xs.extend(a tuple) -/
section
open PySem.AutoSeq1
set_option maxRecDepth 8000 in
theorem ext_tup {l b : Addr} {xs ys : Array Value} {n : Nat} (h0 : ¬ (!xs.isEmpty && Builtin.List.listTooLong (xs.size + ys.size)) = true) (h1 : xs.size ≤ sizeLine) (h2 : xs.size + ys.size ≤ sizeLine + 1) :
    Meets (Builtin.«list.extend» ⟨[.ref l, .ref b], []⟩) fun _ R s => s.heap.get? l = some { cls := .type "list", dict := none, data := .seq xs n, slots := #[] } ∧
      (∃ (dd : Option Addr) (m : Nat) (sl : Array (Option Value)), s.heap.get? b = some { cls := .type "tuple", dict := dd, data := .seq ys m, slots := sl }) ∧
      R (.ok (.ret Value.none)) { s with heap := s.heap.update l (Obj.mapSeq fun x => x ++ ys), toks := s.toks } := by
  refine .of_wp fun prog w A R s h => ?_
  obtain ⟨h', g, d, tk, os⟩ := s
  obtain ⟨hl, ⟨dd, m, sl, hb⟩, h⟩ := h
  have q1 := AutoSeq1.idx_int
  have q2 := AutoSeq1.sub_tuple_tuple
  have q3 := AutoSeq1.sub_list_list
  have q4 := AutoSeq1.sub_tuple_list
  have q5 := AutoSeq1.sub_list_tuple
  have hz : (xs ++ ys).size ≤ sizeLine + 1 := by
    rw [Array.size_append]
    exact h2
  wp_walk using (wpAny_updateSeq hl rfl (hz := h1) (_hz' := hz)), wpAny_loadPart' hl, wpAny_loadPart' hb
  exact ⟨_, rfl, h⟩
end
/-- xs.extend(t), t a tuple -/
def rExtT (K : PySem.W.Frag) : V → List V → Hp → VK → Prop := fun x vs H Q => ∃ (l b : Addr) (xs zs : List V), x = .ref l ∧ vs = [.ref b] ∧ H l = some (.lst xs) ∧ SqT K H b zs ∧ xs.length + zs.length ≤ sizeLine ∧ Q .non (upd H l (.lst (xs ++ zs)))
theorem mt_extT {X : Cx} : MtM X "list.extend" (rExtT X.K) := by
  intro pins s σ H x vs v us Q I rx rv h
  obtain ⟨l, b, xs, zs, rfl, rfl, hl, hb, hz, q⟩ := h
  cases rx
  obtain ⟨u, rfl, ru⟩ := rv.one
  cases ru
  obtain ⟨z, its, n, r, lw, e⟩ := I.lstM hl
  obtain ⟨its2, r2, ht, z2⟩ := I.tuple hb
  have k1 := r.length
  have k2 := r2.length
  have sz : its.toArray.size + its2.toArray.size ≤ sizeLine := by
    rw [List.size_toArray, List.size_toArray]
    omega
  have lg : ¬ (!its.toArray.isEmpty && Builtin.List.listTooLong (its.toArray.size + its2.toArray.size)) = true := by
    rw [notLongL sz, Bool.and_false]
    exact Bool.false_ne_true
  have pre : ∃ (dd : Option Addr) (m : Nat) (sl : Array (Option Value)), s.heap.get? b = some { cls := .type "tuple", dict := dd, data := .seq its2.toArray m, slots := sl } := by
    obtain ⟨⟨c, dd, da, sl⟩, w1, w2, m, w3⟩ := ht
    cases w2
    cases w3
    exact ⟨dd, m, sl, w1⟩
  have go := ext_tup (l := l) (b := b) (n := n) lg (by rw [List.size_toArray]; omega) (by omega)
  refine call_meets F.slot_list_extend ⟨_, e, rfl⟩ F.entry_list_extend (F.args_list_extend_2 _ _) go ⟨e, pre, .non, _, I.lset (its' := its ++ its2) hl e (by simp) (r.append r2) ?_, rfl, q⟩
  rw [List.length_append]
  omega
end Op

namespace Op
open PySem PySem.Spec PyProof.Rows L2 SX OpC
local macro_rules | `(tactic| walk_at "go1") => `(tactic| first
  | ((with_reducible refine' g_var ?h ?_); (case h => rfl)) | with_reducible refine' g_c ?_ | with_reducible refine' g_op ?_ | with_reducible refine' g_un ?_ | with_reducible refine' g_if ?_ | with_reducible refine' g_test ?_ | with_reducible refine' g_B ?_ | with_reducible refine' g_bl ?_
  | with_reducible refine' g_not ?_ | with_reducible refine' g_and ?_ | with_reducible refine' g_or ?_ | with_reducible refine' g_andV ?_ | with_reducible refine' g_orV ?_ | with_reducible refine' g_notV ?_ | with_reducible refine' g_nil ?_ | with_reducible refine' g_cons ?_ | with_reducible refine' g_CB ?_ | with_reducible refine' g_ca ?_
  | with_reducible refine' g_seq ?_ | with_reducible refine' g_next ?_ | with_reducible refine' g_asg ?_ | with_reducible refine' g_name ?_ | with_reducible refine' g_ret ?_ | with_reducible refine' g_retN ?_ | with_reducible refine' g_drop ?_ | with_reducible refine' g_ifS ?_ | with_reducible refine' g_sub ?_
  | with_reducible refine' g_I0 ?_ | with_reducible refine' g_U ?_ | ((with_reducible refine' g_eq ?h ?_); (case h => rfl)) | ((with_reducible refine' g_ne ?h ?_); (case h => rfl))
  | ((with_reducible refine' g_lenL ?h ?_); (case h => first | assumption | exact SqL.of (by assumption) | exact SqL.of upd_same)) | ((with_reducible refine' g_lenT ?h ?_); (case h => first | assumption | exact SqT.of (by assumption) | exact SqT.of upd_same))
  | ((with_reducible refine' g_ixL ?h ?ha ?_); (case h => first | assumption | exact SqL.of (by assumption) | exact SqL.of upd_same); (case ha => rfl)) | ((with_reducible refine' g_ixT ?h ?ha ?_); (case h => first | assumption | exact SqT.of (by assumption) | exact SqT.of upd_same); (case ha => rfl))
  | ((with_reducible refine' g_I ?h ?_); (case h => first | decide | omega | (first | refine' ⟨?_, ?_, ?_⟩ | refine' ⟨?_, ?_⟩ | refine' Or.inl ⟨?_, ?_⟩) <;> omega | (refine' Or.inr ⟨?_, ?_⟩ <;> omega)))
  | ((with_reducible refine' g_setL ?h ?ha ?_); (case h => first | assumption | exact upd_same); (case ha => rfl))
  | with_reducible refine' g_lcR ?_
  | with_reducible refine' g_M1 ?_ | with_reducible refine' g_isS ?_ | with_reducible refine' g_tyS ?_ | ((with_reducible refine' g_tyL ?h ?_); (case h => first | assumption | exact upd_same))
  | ((with_reducible refine' g_cat ?h ?h2 ?hl ?_); (case h => first | assumption | exact upd_same); (case h2 => first | assumption | exact upd_same); (case hl => first | decide | (simp; omega)))
  | with_reducible refine' g_lcS ?_
  | with_reducible refine' g_starts ?_ | with_reducible refine' g_chain ?_
  | ((with_reducible refine' g_lenS ?h ?_); (case h => first | exact len_le (by assumption) | exact len_le (by omega))) | ((with_reducible refine' g_rstrip ?h ?_); (case h => first | exact len_le (by assumption) | exact len_le (by omega))) | ((with_reducible refine' g_slX ?h ?_); (case h => first | exact len_le (by assumption) | exact len_le (by omega)))
  | with_reducible refine' g_sl ?_ | with_reducible refine' g_nopart ?_ | with_reducible refine' g_part ?_ | with_reducible refine' g_isI ?_
  | with_reducible refine' g_tru ?_
  | with_reducible refine' iteT ?_ | with_reducible refine' iteF ?_ | with_reducible refine' iteNT ?_ | with_reducible refine' iteNF ?_
  | with_reducible refine' g_int ?_ | with_reducible refine' g_insg ?_ | with_reducible refine' g_ninsg ?_ | with_reducible refine' g_isN ?_ | with_reducible refine' g_notN ?_ | with_reducible refine' g_lst ?_ | with_reducible refine' g_tup ?_ | with_reducible refine' g_BM ?_ | with_reducible refine' g_BM0 ?_)
local macro_rules | `(tactic| walk_at "go") => `(tactic| repeat' walk_at "go1")
local macro_rules | `(tactic| walk_at "go2") => `(tactic| repeat' (first | walk_at "go1" | with_reducible refine' g_cm ?_ | with_reducible refine' g_mk ?_ | with_reducible refine' g_for ?_ | ((with_reducible refine' g_rcm ?h ?ha ?_); (case h => first | assumption | exact upd_same); (case ha => first | rfl | decide | simp [List.lookup]))))
/- macro2 -/
local macro_rules | `(tactic| walk_at "go3a") => `(tactic| first
  | walk_at "go1" | with_reducible refine' g_cm ?_ | with_reducible refine' g_mk ?_ | with_reducible refine' g_for ?_ | with_reducible refine' g_fld ?_ | with_reducible refine' g_lcT0 ?_
  | ((with_reducible refine' g_rcm ?h ?ha ?_); (case h => first | assumption | exact upd_same); (case ha => first | rfl | decide | simp [List.lookup]))
  | ((with_reducible refine' g_shape ?hc ?hn ?h ?_); (case hc => assumption); (case hn => assumption); (case h => first | assumption | exact upd_same | (rw [upd_ne (by assumption)]; assumption))))
local macro_rules | `(tactic| walk_at "go3") => `(tactic| repeat' walk_at "go3a")
local macro_rules | `(tactic| walk_at "go4") => `(tactic| repeat' (first
  | walk_at "go3a" | ((with_reducible refine' iteDT ?h ?_); (case h => first | rfl | decide +kernel)) | ((with_reducible refine' iteDF ?h ?_); (case h => decide +kernel))))
/-! ## all forms in a form -/
def Fm.subs : Fm → List Fm
  | .atm k t => [.atm k t]
  | .un k a => .un k a :: a.subs
  | .bi k a b => .bi k a b :: (a.subs ++ b.subs)
theorem Fm.subs_len : ∀ a : Fm, a.subs.length = a.size
  | .atm _ _ => rfl
  | .un _ a => by
    have := Fm.subs_len a
    show a.subs.length + 1 = a.size + 1
    omega
  | .bi _ a b => by
    have := Fm.subs_len a
    have := Fm.subs_len b
    show (a.subs ++ b.subs).length + 1 = a.size + b.size + 1
    rw [List.length_append]
    omega
def subsL (l : List Fm) : List Fm := (l.map Fm.subs).flatten
theorem subsL_cons (a : Fm) (l : List Fm) : subsL (a :: l) = a.subs ++ subsL l := rfl
theorem subsL_len : ∀ l : List Fm, l.length ≤ (subsL l).length
  | [] => Nat.le_refl _
  | a :: l => by
    have ih := subsL_len l
    have h := Fm.subs_len a
    have h2 := Fm.size_pos a
    rw [subsL_cons, List.length_append, List.length_cons]
    omega
def FiW (H0 : Hp) (v : V) (a : Fm) (pf pl : Addr) (m : Nat) : L2.St → Hp → Prop := fun σ H => ∃ (st : List (V × Fm)) (fs : List V) (gs : List Fm) (x3 : Option V), σ = [some v, some (.ref pf), some (.ref pl), x3] ∧ Same H0 H ∧ H pf = some (.lst fs) ∧ FsAt H fs gs ∧
  H pl = some (.lst (st.map (·.1)).reverse) ∧ (∀ y ∈ st, FmAt H y.1 y.2 ∧ y.2.ok = true) ∧ gs ++ subsL (st.map (·.2)) = a.subs ∧ m = (subsL (st.map (·.2))).length
def spFormsIn : Sp := fun vs H Q _ => ∃ (v : V) (a : Fm), vs = [v] ∧ FmAt H v a ∧ a.ok = true ∧ a.size ≤ 10000 ∧ ∀ H' p us, Same H H' → H p = none → H' p = some (.lst us) → FsAt H' us a.subs → Q (.ref p) H'
theorem g_back {K : PySem.W.Frag} {te : TE} {th ts : TO} {σ : L2.St} {H : Hp} {Q : VK} (k : te σ H fun x H1 => th σ H1 fun u H2 => ts σ H2 fun k H3 => u = some 0 ∧ k = some (-1) ∧ ∃ a y ys, x = V.ref a ∧ SqT K H3 a (y :: ys) ∧ ∀ p, H3 p = none → Q (.ref p) (upd H3 p (.tup ys.reverse))) : tBack K te th ts σ H Q := k
section
variable {P : Program} {w : World} {K : PySem.W.Frag} {mg : Str → Option Value} {base : Heap}
theorem ca_forms_in (T : Bl K mg) (D : Df K mg "forms_in" s_forms_in p_forms_in) : Ca P w K mg base 1 "forms_in" spFormsIn := by
  obtain ⟨aA, hA, tA⟩ := T.t_ATOMS
  have c_ATOMS : ∃ u, mg "ATOMS" = some u ∧ RelV (.ref aA) u := ⟨_, hA, rfl⟩
  refine ca_n D sc_forms_in (fun vs H Q E h => ?_) (fun f cdv A outer s H vs Q E hr h => ?_)
  · obtain ⟨v, a, rfl, _⟩ := h
    rfl
  · obtain ⟨v, a, rfl, fa, ok, hz, q⟩ := h
    refine ⟨_, (pss_cons (ps_set (i := 1) sc_forms_in.nd rfl (Or.inl rfl) (pe_lst pa_nil))
  (pss_cons (ps_set (i := 2) sc_forms_in.nd rfl (Or.inl rfl) (pe_lst (pa_cons (pv 0) pa_nil)))
  (pss_cons (ps_while PassesOwn.never (pq_truth (pv 2) (by intro _; rfl))
  (pss_cons (ps_set (i := 3) sc_forms_in.nd rfl (Or.inl rfl) (pe_bm0 PySem.F.plainAttrs_list PySem.F.slot_list_pop PySem.F.type_list_pop mt_pop (pv 2)))
  (pss_cons (ps_expr (pe_bm PySem.F.plainAttrs_list PySem.F.slot_list_append PySem.F.type_list_append mt_append (pv 1) (pa_cons (pv 3) pa_nil)))
  (pss_one (ps_if (pt_cmpR op_notIn_seq (pe_ix ix_tup (pv 3) pe_int (fun _ _ => rfl)) (C8.pe_gc (by rfl) c_ATOMS) rfl)
  (pss_one (ps_expr (pe_bm PySem.F.plainAttrs_list PySem.F.slot_list_extend PySem.F.type_list_extend mt_extT (pv 2) (pa_cons (pe_back (pv 3) (po_some pe_int) (po_some (pe_un un_neg pe_int))) pa_nil))))
  pss_nil)))))
  (pss_one (ps_ret (pv 1)))))), ?_⟩
    walk_at "go3"
    refine ⟨by show 0 ≤ sizeLine; decide, fun pf hpf => ?_⟩
    walk_at "go3"
    refine ⟨by show 1 ≤ sizeLine; decide, fun pl hpl => ?_⟩
    have s1 : Same H (upd H pf (.lst [])) := Same.upd hpf
    have e1 : upd H pf (.lst []) pf = some (.lst []) := upd_same
    generalize upd H pf (.lst []) = H1 at s1 e1 hpl ⊢
    have npl : H pl = none := Same.non s1 hpl
    have nfl : pf ≠ pl := fun z => by rw [← z, e1] at hpl; cases hpl
    have s2 : Same H1 (upd H1 pl (.lst [v])) := Same.upd hpl
    have e2 : upd H1 pl (.lst [v]) pl = some (.lst [v]) := upd_same
    generalize upd H1 pl (.lst [v]) = H2 at s2 e2 ⊢
    have hsl : a.subs.length = a.size := Fm.subs_len a
    walk_at "go3"
    refine g_while (FiW H v a pf pl) a.subs.length ⟨[(v, a)], [], [], none, rfl, s1.trans s2, s2 _ _ e1, .nil, e2, fun y hy => ?_, by simp [subsL], by simp [subsL]⟩ ?_
    · rw [List.mem_singleton.mp hy]
      exact ⟨(fa.same s1).same s2, ok⟩
    clear s1 s2 e1 e2 hpl
    rintro m σ' H3 ⟨st, fs, gs, x3, rfl, sH, ef, fg, el, hst, hsub, hm⟩
    have hgl := congrArg List.length hsub
    rw [List.length_append] at hgl
    have hfl := fg.len
    walk_at "go3"
    refine g_truL (SqL.of el) ?_
    cases st with
    | nil =>
      refine iteF ?_
      walk_at "go3"
      have e : gs = a.subs := by rw [← hsub]; simp [subsL]
      exact q H3 pf fs sH hpf ef (by rw [← e]; exact fg)
    | cons hd r =>
      obtain ⟨u, b⟩ := hd
      obtain ⟨fb, okb⟩ := hst (u, b) (List.mem_cons_self ..)
      have hr3 : ∀ y ∈ r, FmAt H3 y.1 y.2 ∧ y.2.ok = true := fun y hy => hst y (List.mem_cons_of_mem _ hy)
      have hrl := subsL_len (r.map (·.2))
      rw [List.length_map] at hrl
      have hbs := Fm.subs_len b
      have hbp := Fm.size_pos b
      have hm' : m = b.subs.length + (subsL (r.map (·.2))).length := by rw [hm, ← List.length_append]; rfl
      have eT : (!(List.map (fun x => x.fst) ((u, b) :: r)).reverse.isEmpty) = true := by simp
      rw [eT]
      refine iteT ⟨_, fun _ _ n => n, ?_⟩
      walk_at "go3"
      refine g_pop (xs := (r.map (·.1)).reverse) (by rw [el, List.map_cons, List.reverse_cons]) ?_
      have t1 : Tps H3 (upd H3 pl (.lst (r.map (·.1)).reverse)) := Tps.lst el
      have sH4 : Same H (upd H3 pl (.lst (r.map (·.1)).reverse)) := Same.mut sH npl
      have el4 : upd H3 pl (.lst (r.map (·.1)).reverse) pl = some (.lst (r.map (·.1)).reverse) := upd_same
      have ef4 : upd H3 pl (.lst (r.map (·.1)).reverse) pf = some (.lst fs) := by rw [upd_ne nfl]; exact ef
      have fg4 := fg.tps t1
      have fb4 := fb.tps t1
      have hr4 : ∀ y ∈ r, FmAt (upd H3 pl (.lst (r.map (·.1)).reverse)) y.1 y.2 ∧ y.2.ok = true := fun y hy => ⟨(hr3 y hy).1.tps t1, (hr3 y hy).2⟩
      generalize upd H3 pl (.lst (r.map (·.1)).reverse) = H4 at sH4 el4 ef4 fg4 fb4 hr4 ⊢
      clear t1 hr3 fb fg sH el ef hst eT
      walk_at "go3"
      have hgb : gs.length + 1 ≤ 10001 := by omega
      refine g_app ef4 (by rw [sizeLine_eq, hfl]; omega) ?_
      have sH5 : Same H (upd H4 pf (.lst (fs ++ [u]))) := Same.mut sH4 hpf
      have t5 : Tps H4 (upd H4 pf (.lst (fs ++ [u]))) := Tps.lst ef4
      have ef5 : upd H4 pf (.lst (fs ++ [u])) pf = some (.lst (fs ++ [u])) := upd_same
      have el5 : upd H4 pf (.lst (fs ++ [u])) pl = some (.lst (r.map (·.1)).reverse) := by rw [upd_ne nfl.symm]; exact el4
      have fb5 := fb4.tps t5
      have fg5 := (fg4.app fb4).tps t5
      have hr5 : ∀ y ∈ r, FmAt (upd H4 pf (.lst (fs ++ [u]))) y.1 y.2 ∧ y.2.ok = true := fun y hy => ⟨(hr4 y hy).1.tps t5, (hr4 y hy).2⟩
      generalize upd H4 pf (.lst (fs ++ [u])) = H5 at sH5 ef5 el5 fb5 fg5 hr5 ⊢
      clear t5 fb4 fg4 hr4 ef4 el4 sH4
      have hrl2 : r.length ≤ 10000 := by omega
      cases fb5 with
      | @atm p k t ep =>
        have hk : atK k = true := Fm.ok_kin okb
        walk_at "go3"
        refine g_ninT (tA _) rfl rfl ?_
        rw [inV_atoms, hk]
        walk_at "go3"
        refine ⟨(subsL (r.map (·.2))).length, by omega, r, fs ++ [.ref p], gs ++ [.atm k t], _, rfl, sH5, ef5, fg5, el5, hr5, ?_, rfl⟩
        rw [← hsub]
        show _ = gs ++ ([Fm.atm k t] ++ subsL (r.map (·.2)))
        rw [List.append_assoc]
      | @un p k v1 b1 ep hb1 =>
        have ok1 : unK k = true ∧ b1.ok = true := by
          have z := okb
          simp only [Fm.ok, Bool.and_eq_true] at z
          exact z
        have hk := unK_at ok1.1
        walk_at "go3"
        refine g_ninT (tA _) rfl rfl ?_
        rw [inV_atoms, hk]
        walk_at "go3"
        refine g_back ?_
        walk_at "go3"
        refine ⟨rfl, rfl, p, .str k, [v1], rfl, SqT.of ep, fun p6 hp6 => ?_⟩
        have s6 : Same H5 (upd H5 p6 (.tup [v1])) := Same.upd hp6
        have e6 : upd H5 p6 (.tup [v1]) p6 = some (.tup [v1]) := upd_same
        show tNil _ (upd H5 p6 (.tup [v1])) _
        generalize upd H5 p6 (.tup [v1]) = H6 at s6 e6 ⊢
        have el6 := s6 _ _ el5
        have ef6 := s6 _ _ ef5
        walk_at "go3"
        refine ⟨pl, p6, _, _, rfl, rfl, el6, SqT.of e6, by rw [List.length_reverse, List.length_map, sizeLine_eq]; show _ + 1 ≤ _; omega, ?_⟩
        have t7 : Tps H6 (upd H6 pl (.lst ((r.map (·.1)).reverse ++ [v1]))) := Tps.lst el6
        walk_at "go3"
        refine ⟨(subsL (((v1, b1) :: r).map (·.2))).length, ?_, (v1, b1) :: r, fs ++ [.ref p], gs ++ [(Fm.un k b1)], _, rfl, Same.mut (sH5.trans s6) npl, by rw [upd_ne nfl]; exact ef6, (fg5.same s6).tps t7, by rw [upd_same]; simp, fun y hy => ?_, ?_, rfl⟩
        · rw [hm']
          show (b1.subs ++ subsL (r.map (·.2))).length < ((Fm.un k b1) :: b1.subs).length + _
          simp only [List.length_append, List.length_cons]
          omega
        · show FmAt _ y.1 y.2 ∧ y.2.ok = true
          rcases List.mem_cons.mp hy with rfl | hy
          · exact ⟨(hb1.same s6).tps t7, ok1.2⟩
          · exact ⟨((hr5 y hy).1.same s6).tps t7, (hr5 y hy).2⟩
        · skip
          show (gs ++ [(Fm.un k b1)]) ++ (b1.subs ++ subsL (r.map (·.2))) = a.subs
          rw [← hsub]
          show _ = gs ++ ((Fm.un k b1) :: b1.subs ++ subsL (r.map (·.2)))
          simp
      | @bi p k v1 v2 b1 b2 ep hb1 hb2 =>
        have ok1 : biK k = true ∧ b1.ok = true ∧ b2.ok = true := by
          have z := okb
          simp only [Fm.ok, Bool.and_eq_true] at z
          exact ⟨z.1, z.2.2⟩
        have hk := biK_at ok1.1
        walk_at "go3"
        refine g_ninT (tA _) rfl rfl ?_
        rw [inV_atoms, hk]
        walk_at "go3"
        refine g_back ?_
        walk_at "go3"
        refine ⟨rfl, rfl, p, .str k, [v1, v2], rfl, SqT.of ep, fun p6 hp6 => ?_⟩
        have s6 : Same H5 (upd H5 p6 (.tup [v2, v1])) := Same.upd hp6
        have e6 : upd H5 p6 (.tup [v2, v1]) p6 = some (.tup [v2, v1]) := upd_same
        show tNil _ (upd H5 p6 (.tup [v2, v1])) _
        generalize upd H5 p6 (.tup [v2, v1]) = H6 at s6 e6 ⊢
        have el6 := s6 _ _ el5
        have ef6 := s6 _ _ ef5
        walk_at "go3"
        refine ⟨pl, p6, _, _, rfl, rfl, el6, SqT.of e6, by rw [List.length_reverse, List.length_map, sizeLine_eq]; show _ + 2 ≤ _; omega, ?_⟩
        have t7 : Tps H6 (upd H6 pl (.lst ((r.map (·.1)).reverse ++ [v2, v1]))) := Tps.lst el6
        walk_at "go3"
        refine ⟨(subsL (((v1, b1) :: (v2, b2) :: r).map (·.2))).length, ?_, (v1, b1) :: (v2, b2) :: r, fs ++ [.ref p], gs ++ [(Fm.bi k b1 b2)], _, rfl, Same.mut (sH5.trans s6) npl, by rw [upd_ne nfl]; exact ef6, (fg5.same s6).tps t7, by rw [upd_same]; simp, fun y hy => ?_, ?_, rfl⟩
        · rw [hm']
          show (b1.subs ++ (b2.subs ++ subsL (r.map (·.2)))).length < ((Fm.bi k b1 b2) :: (b1.subs ++ b2.subs)).length + _
          simp only [List.length_append, List.length_cons]
          omega
        · show FmAt _ y.1 y.2 ∧ y.2.ok = true
          rcases List.mem_cons.mp hy with rfl | hy
          · exact ⟨(hb1.same s6).tps t7, ok1.2.1⟩
          · rcases List.mem_cons.mp hy with rfl | hy
            · exact ⟨(hb2.same s6).tps t7, ok1.2.2⟩
            · exact ⟨((hr5 y hy).1.same s6).tps t7, (hr5 y hy).2⟩
        · skip
          show (gs ++ [(Fm.bi k b1 b2)]) ++ (b1.subs ++ (b2.subs ++ subsL (r.map (·.2)))) = a.subs
          rw [← hsub]
          show _ = gs ++ ((Fm.bi k b1 b2) :: (b1.subs ++ b2.subs) ++ subsL (r.map (·.2)))
          simp
end
end Op

namespace Op
open PySem PySem.Spec PyProof.Rows L2 SX OpC
theorem ok_subs : ∀ {a : Fm}, a.ok = true → ∀ g ∈ a.subs, g.ok = true ∧ g.dep ≤ a.dep
  | .atm k t, h, g, hg => by
    rw [List.mem_singleton.mp hg]
    exact ⟨h, Nat.le_refl _⟩
  | .un k a, h, g, hg => by
    rcases List.mem_cons.mp hg with rfl | hg
    · exact ⟨h, Nat.le_refl _⟩
    · simp only [Fm.ok, Bool.and_eq_true] at h
      obtain ⟨h1, h2⟩ := ok_subs h.2 g hg
      exact ⟨h1, Nat.le_succ_of_le h2⟩
  | .bi k a b, h, g, hg => by
    rcases List.mem_cons.mp hg with rfl | hg
    · exact ⟨h, Nat.le_refl _⟩
    · simp only [Fm.ok, Bool.and_eq_true] at h
      show _ ∧ g.dep ≤ max a.dep b.dep + 1
      rcases List.mem_append.mp hg with hg | hg
      · obtain ⟨h1, h2⟩ := ok_subs h.2.2.1 g hg
        exact ⟨h1, by omega⟩
      · obtain ⟨h1, h2⟩ := ok_subs h.2.2.2 g hg
        exact ⟨h1, by omega⟩
end Op

namespace Op
open PySem PySem.Spec PyProof.Rows L2 SX OpC
/-! ## dict comprehensions whose keys are tuples -/
/-- one entry more, by a comprehension -/
theorem put_tup {X : Cx} {pins : List (Addr × Obj)} {σ : L2.St} {H : Hp} {s : Shared} {E : Value → Shared → Prop} {D b : Addr} {kvs : List (List Key × V)} {k : List Key} {v : V} {u r : Value} {Q : Unit → Shared → Prop} (hu : X.A.units + 1 < cLine) (I : Inv X pins σ H s)
    (e : H D = some (.dT kvs)) (eb : H b = some (.tup (k.map kV))) (room : kvs.length < sizeLine) (ru : u = .ref b) (rr : RelV v r) (go : ∀ s2, Inv X pins σ (upd H D (.dT (putK kvs k v))) s2 → Q () s2) : wpAny (model X.prog X.w) X.A (dictSet D u r) Q E s := by
  subst ru
  obtain ⟨z, nm, xs, rel, dd⟩ := dt_of I.hok e
  have lz : xs.length ≤ sizeLine := by
    rw [← Paired.length rel]
    exact z
  have lp : (putK kvs k v).length ≤ sizeLine := Nat.le_trans (length_putK kvs k v) room
  apply wpAny_dictSet_heap (hsz := lz) (show X.A.units < cLine by omega) (key_of I.hok eb) dd
  intro h2 d2 sb
  apply go
  obtain ⟨q, es, ep, w1, w2, w3, w4, _, w5⟩ := d2
  have there : ∃ q, h2.get? D = some q := ⟨q, w1⟩
  refine d_write I (by rw [e]; trivial) sb there ⟨lp, nm, _, (rel.put k eb rr).keeps fun c ys ec => ?_, q, es, ep, w1, w2, w3, w4, w5⟩
  rw [upd_ne (ne_of ec e fun z => nomatch z)]
  exact ec
/-- {k: v for target in iter if ..}, k a tuple; D the new dict -/
def tDcT (wi : TI) (g : TG) (tt : TT) (tk tv : TE) (vs : List Nat) : TE := fun σ H Q => wi σ H fun J H1 => ∀ D, H1 D = none → ∃ W : Nat → Nat → Hp → Prop, (∃ m, W 0 m (upd H1 D (.dT []))) ∧ ∀ i m H, W i m H →
  (J.stop i H ∧ Q (.ref D) H) ∨ (J.go i H ∧ ∃ Nx : Hp → Prop, (∀ H', Nx H' → ∃ m', m' < m ∧ W (i + 1) m' H') ∧ ∀ x H', J.yld i H x H' → g x (wipe σ vs) H' fun σ2 H2 => wipe σ2 vs = wipe σ vs ∧ tt σ2 H2 fun b H3 =>
    if b = true then tk σ2 H3 fun y H4 => tv σ2 H4 fun z H5 => ∃ (kvs : List (List Key × V)) (k : List Key) (p : Addr), y = .ref p ∧ H5 D = some (.dT kvs) ∧ H5 p = some (.tup (k.map kV)) ∧ kvs.length < sizeLine ∧ Nx (upd H5 D (.dT (putK kvs k z))) else Nx H3)
section
variable {X : Cx} {kx vx tg iter : Expr} {ifs : List Expr} {scope : Scope} {own : List (Str × Nat)} {pos : Pos} {wi : TI} {g : TG} {tt : TT} {tk tv : TE}
/-- the block's own context -/
abbrev inBlk (X : Cx) (s : Shared) (H : Hp) (scope : Scope) (C : Addr) (cl : List (Str × Addr)) (fp : List Addr) : Cx := X.blk s H scope (compEnvC scope cl C X.env) fp
theorem pe_dcT (hc : X.calm = true) (hN : X.N.Nodup) (hu : X.A.units + 1 < cLine) (hi : PI X tg iter wi) (ok : BlkOk X.N X.env.scope scope own) (hg : ∀ s H C cl fp, PG (inBlk X s H scope C cl fp) tg g) (ht : ∀ s H C cl fp, PTs (inBlk X s H scope C cl fp) ifs tt)
    (hk : ∀ s H C cl fp, PE (inBlk X s H scope C cl fp) kx tk) (hv : ∀ s H C cl fp, PE (inBlk X s H scope C cl fp) vx tv) (hs : ∀ x, foldedSetIterable iter X.env x = pure x := by intro _; rfl) :
    PE X (.DictComp kx vx [⟨tg, iter, ifs, 0⟩] scope pos) (tDcT wi g tt tk tv (own.map (·.2))) := by
  refine ⟨fun pins s σ H Q I h => ?_⟩
  rw [arm_eval_DictComp]
  have hfree : ∀ y ∈ scope.names, y.2 = .free → ∃ c, X.env.cells.lookup y.1 = some c := fun y hy e => (ok.free y hy e).elim (fun k => I.ok.has _ (.inl k)) fun k => I.ok.has _ (.inr k)
  refine wpAny_comprehension_free rfl hs (closure_ok hfree) ok.kind (fun y hy e => by rw [ok.uniq y hy, e]) ?_
  refine thn (hi.run pins s σ H _ I h) fun xv s1 hx => ?_
  refine thn hx fun itv s2 ⟨it, fp, tn, J, H2, eit, I2, T, st2, f2, q⟩ => ?_
  subst eit
  refine wpAny_newObj_type (newEnv_comp ?_)
  obtain ⟨D, hD⟩ : ∃ D, s2.heap.objs.size = D := ⟨_, rfl⟩
  rw [hD]
  obtain ⟨W, ⟨m0, w0⟩, turn⟩ := q D (I2.hok.fresh (Nat.le_of_eq hD))
  -- the new dict stands
  obtain ⟨s3, e3⟩ : ∃ s3 : Shared, { s2 with heap := s2.heap.push { cls := .type "dict", data := .dict #[] } } = s3 := ⟨_, rfl⟩
  have hp3 : s3.heap = s2.heap.push { cls := .type "dict", data := .dict #[] } := by rw [← e3]
  have I3 : Inv X pins σ (upd H2 D (.dT [])) s3 := by
    have new := dt_empty (P := X.prog) (w := X.w) (H := upd H2 D (.dT [])) s2.heap I2.big
    rw [hD] at new
    rw [← e3]
    exact I2.laid (t' := s2.toks) (fun b o => Heap.get?_push_of_some _) (Nat.le_of_eq hD) new
  have low : ∀ b ∈ fp, b < s2.heap.objs.size := fun b hb => let ⟨_, e, _⟩ := T.obj _ _ st2 b hb; Heap.lt_size e
  have f3 : ∀ b ∈ fp, FpOk X pins (upd H2 D (.dT [])) b ∧ b < s3.heap.objs.size := fun b hb => by
    have l := low b hb
    obtain ⟨z1, z2⟩ := f2 b hb
    refine ⟨⟨?_, z2⟩, ?_⟩
    · rw [upd_ne (hD ▸ Nat.ne_of_lt l)]
      exact z1
    · rw [hp3, Heap.size_push]
      exact Nat.lt_succ_of_lt l
  have st3 : tn 0 s3.heap := T.keep _ _ _ st2 fun b _ o e => hp3 ▸ Heap.get?_push_of_some _ e
  have I4 := block_start I3 ok hN f3
  obtain ⟨cl, ecl⟩ : ∃ cl, cellsFrom (s3.heap.objs.size + 1) scope.names (cloFrom X.env.cells scope.names []) = cl := ⟨_, rfl⟩
  obtain ⟨H3, eH3⟩ : ∃ H3, upd H2 D (.dT []) = H3 := ⟨_, rfl⟩
  have nfp : ∀ b ∈ fp, upd H2 D (.dT []) b = none := fun b hb => (f3 b hb).1.1
  rw [eH3] at I3 I4 w0 nfp f3
  rw [ecl] at I4
  have pg := hg s3 H3 s3.heap.objs.size cl fp
  have pt := ht s3 H3 s3.heap.objs.size cl fp
  have pk := hk s3 H3 s3.heap.objs.size cl fp
  have pv := hv s3 H3 s3.heap.objs.size cl fp
  obtain ⟨ce, ece⟩ : ∃ ce, compEnvC scope cl s3.heap.objs.size X.env = ce := ⟨_, rfl⟩
  have cL : ce.locals = s3.heap.objs.size := by
    rw [← ece]
    rfl
  obtain ⟨s4, e4⟩ : ∃ s4 : Shared, { s3 with heap := pushCells (s3.heap.push { cls := .type "dict", data := .dict #[] }) scope.names } = s4 := ⟨_, rfl⟩
  unfold inBlk at pg pt pk pv
  rw [ece] at I4 pg pt pk pv
  rw [e4] at I4
  suffices fin : codeAny (model X.prog X.w) X.A (.compStart (.DictComp kx vx [⟨tg, iter, ifs, 0⟩] scope pos) 0 (.ref it) (.ref D) ce) (compPost (model X.prog X.w) X.A X.xe none (EP X pins σ Q) (.ref D) s3.heap.objs.size) s4 by
    rw [← e4, ← ece, ← ecl, ← e3] at fin
    exact fin
  clear hg ht hk hv
  have st4 : tn 0 s4.heap := T.keep _ _ _ st3 fun b _ o e => by
    rw [← e4]
    exact pushCells_keeps _ _ _ _ (Heap.get?_push_of_some _ e)
  have stat : ∀ {σ1 : L2.St} {H1 : Hp} {s1 : Shared}, Inv (X.blk s3 H3 scope ce fp) [] σ1 H1 s1 → (∀ b ∈ fp, H1 b = none) → ∀ b ∈ fp, FpOk (X.blk s3 H3 scope ce fp) [] H1 b := fun {σ1 H1 s1} J hn b hb => by
    obtain ⟨u1, u2⟩ := J.ok.exf b hb
    refine ⟨hn b hb, u1, J.ok.exfs b hb, .inl hb, u2, fun p hp => ?_⟩
    have hp' : p ∈ ([] : List (Addr × Obj)) ++ [] := hp
    cases hp'
  have loop : codeAny (model X.prog X.w) X.A (.compLoop (.DictComp kx vx [⟨tg, iter, ifs, 0⟩] scope pos) 0 (.ref it) (.ref D) ce) (compPost (model X.prog X.w) X.A X.xe none (EP X pins σ Q) (.ref D) s3.heap.objs.size) s4 := by
    refine compLoop_anyD (fun n s1 => ∃ i H1, Inv (X.blk s3 H3 scope ce fp) [] (wipe σ (own.map (·.2))) H1 s1 ∧ tn i s1.heap ∧ (∀ b ∈ fp, H1 b = none) ∧ W i n H1) ?_ m0 ⟨0, H3, I4, st4, nfp, w0⟩
    intro n s5 ⟨i, H5, I5, st5, n5, w5⟩
    rcases turn i n H5 w5 with ⟨stop, qq⟩ | ⟨next, Nx, hNx, step⟩
    · refine thnF (T.done (X.blk s3 H3 scope ce fp) rfl rfl rfl hc i [] s5 _ H5 (fun _ _ => False) I5 (stat I5 n5) st5 stop) fun r s6 ⟨er, I6⟩ => ?_
      subst er
      have back : Inv X pins σ H5 s6 := I3.call' (ch := fp) I6.os I6.base I6.hok I6.bare fun b hb => by
        obtain ⟨_, z1, _, z3, z4, z5⟩ := (f3 b hb).1
        exact ⟨z3, z1, z4, z5⟩
      have nC : H5 s3.heap.objs.size = none := cL ▸ (show H5 ce.locals = none from I6.free)
      obtain ⟨m, hm, _⟩ := I6.loc
      have hm' : s6.heap.Ns s3.heap.objs.size m := cL ▸ (show s6.heap.Ns ce.locals m from hm)
      refine ⟨m, hm', fun h2 sb => ?_⟩
      obtain ⟨g0, g1, g2, g3, g4, g5⟩ := I3.fpOk (Nat.le_refl _) nC
      exact ⟨.ref D, H5, back.turned (t' := s6.toks) (fun b o hb e => (sb.2 b hb).trans e) g0 g1 g3 g4 g5, rfl, qq⟩
    · refine thnF (T.item (X.blk s3 H3 scope ce fp) rfl rfl rfl hc i [] s5 _ H5 (fun _ _ => False) I5 (stat I5 n5) st5 next) fun r s6 ⟨u, er, h6⟩ => ?_
      subst er
      refine thnF h6 fun _ s7 ⟨x, H7, I7, r7, y7, st7, n7⟩ => ?_
      refine thnF (pg.run _ s7 _ H7 x u _ (I7.pinned (stat I7 n7) (T.obj _ _ st7)) r7 (step x H7 y7)) fun _ s8 ⟨σ8, H8, I8, hw8, q8⟩ => ?_
      refine thnF (pt.run _ s8 σ8 H8 _ I8 q8) fun c s9 ⟨H9, I9, q9⟩ => ?_
      have turned : ∀ {s1 : Shared} {H1 : Hp}, Inv (X.blk s3 H3 scope ce fp) ([] ++ pinsAt fp s7.heap) σ8 H1 s1 → Nx H1 → ∃ m, m < n ∧ ∃ i H1, Inv (X.blk s3 H3 scope ce fp) [] (wipe σ (own.map (·.2))) H1 s1 ∧ tn i s1.heap ∧ (∀ b ∈ fp, H1 b = none) ∧ W i m H1 := fun {s1 H1} J nx => by
        obtain ⟨m, hm, w1⟩ := hNx H1 nx
        have stay : ∀ b ∈ fp, ∀ o, s7.heap.get? b = some o → s1.heap.get? b = some o ∧ H1 b = none := fun b hb o e => by
          obtain ⟨z1, z2, _⟩ := J.pin (b, o) (List.mem_append_right _ (List.mem_append_right _ (mem_pinsAt hb e)))
          exact ⟨z1, z2⟩
        have len : (wipe σ (own.map (·.2))).length = σ8.length := (congrArg List.length hw8).symm.trans (wipe_length ..)
        refine ⟨m, hm, i + 1, H1, (J.unpinned (pins := [])).weak len (fun k v e => ?_), T.keep _ _ _ st7 fun b hb o e => (stay b hb o e).1, fun b hb => ?_, w1⟩
        · exact (wipe_some (hw8 ▸ e)).1
        · obtain ⟨o, e, _⟩ := T.obj _ _ st7 b hb
          exact (stay b hb o e).2
      cases c with
      | false => exact turned I9 (by simpa using q9)
      | true =>
        have q9' := (if_pos rfl) ▸ q9
        refine thnF (pk.run _ s9 σ8 H9 _ I9 q9') fun z s10 ⟨yk, H10, I10, r10, q10⟩ => ?_
        refine thnF (pv.run _ s10 σ8 H10 _ I10 q10) fun z2 s11 ⟨yv, H11, I11, r11, kvs, k, p, ek, eD, ep, room, nx⟩ => ?_
        subst ek
        exact put_tup (X := X.blk s3 H3 scope ce fp) hu I11 eD ep room r10 r11 fun s12 I12 => turned I12 nx
  exact codeAny_compStart_dict loop (T.self X.A 0 _ _ _ st4 loop)
end
end Op

namespace Op
open PySem PySem.Spec PyProof.Rows L2 SX OpC
/-! ## in and len of own instances -/
def rInOwn (C : Addr) (sp : Sp) : R2 := fun x y H Q => (∃ a dx fs, y = .ref a ∧ H a = some (.ins C dx fs)) ∧ sp [y, x] H (fun z H' => ∃ b, z = .bl b ∧ Q z H') E0
def rLenOwn (C : Addr) (sp : Sp) : List V → Hp → VK → Prop := fun vs H Q => ∃ a dx fs, vs = [.ref a] ∧ H a = some (.ins C dx fs) ∧ sp [.ref a] H (fun z H' => ∃ n : Nat, z = .int n ∧ n < 2 ^ 63 ∧ Q z H') E0
section
variable {X : Cx} {k j : Nat} {C : Addr} {m : Str} {sp : Sp}
theorem in_own (c : Cm X.prog X.w X.K X.mg X.base k C "__contains__" sp) (hr : Room j X.A) (hk : k ≤ j) : OpR X (compareOp .In) (rInOwn C sp) := by
  intro pins s σ H x y v u Q I rx ry h
  obtain ⟨⟨a, dx, fs, rfl, ha⟩, h⟩ := h
  obtain ⟨f, fd, ps, F, M, bd⟩ := c.ex
  obtain ⟨mA, O1, _⟩ := ins_get I.hok ha
  obtain ⟨od, J1, _⟩ := O1.look
  obtain ⟨mf, fr⟩ := I.fr
  cases ry
  refine PySem.W.in_K fr I.ok.mod.kin J1 M.at_ M.fn ?_
  refine wpAny_mono (run_fnS (E := fun _ => E0) F (hr.mono hk) bd (passE0 σ) I (vs := [.ref a, x]) (.cons (rfl : L2.RelV (.ref a) (.ref a)) (.cons rx .nil)) h) (fun r s' q => ?_) fun _ _ z => z
  obtain ⟨z, H', J, rz, b, rfl, q⟩ := q
  cases rz
  exact wpAny_pure ⟨.bl b, H', J, rfl, q⟩
/-- a def run one call deeper -/
theorem run_deep {f : Addr} {fd : FuncData} {ps : List Str} {pins : List (Addr × Obj)} {σ : L2.St} {H : Hp} {s : Shared} {Q : VK} {us : List Value} {vs : List V} (F : FnOk X.prog X.w X.K X.mg X.base (L2.CX X.prog X.w) k f fd ps sp) (hr : Room k X.A.in1) (bd : Binds X.K fd ps []) (I : Inv X pins σ H s) (rv : Vals vs us) (h : sp vs H Q E0) :
    wpAny (model X.prog X.w) X.A.in1 (call (.ref f) us) (EP X pins σ Q) X.xe s := by
  have hl : us.length = ps.length := rv.length.symm.trans (F.len vs H Q E0 h)
  have b := bd s us I.kIn (by rw [List.append_nil]; exact hl)
  rw [List.append_nil] at b
  apply wpAny_call
  refine codeAny_mono (F.run X.A.in1 X.stack s H ⟨us, []⟩ us vs Q E0 hr I.env0.in1 b rv h) fun r s' z => ?_
  match r, z with
  | .error e, z => exact passE0 σ pins H s e s' I z
  | .ok (.ret u), z => exact I.after z
  | .ok .next, z => exact z.elim
  | .ok .brk, z => exact z.elim
  | .ok .cont, z => exact z.elim
theorem len_own (c : Cm X.prog X.w X.K X.mg X.base k C "__len__" sp) (hr : Room j X.A) (hk : k + 1 ≤ j) : CallR X (.builtin "len") (rLenOwn C sp) := by
  intro pins s σ H vs us Q I r h
  obtain ⟨a, dx, fs, rfl, ha, h⟩ := h
  obtain ⟨f, fd, ps, F, M, bd⟩ := c.ex
  obtain ⟨mA, O1, _⟩ := ins_get I.hok ha
  obtain ⟨od, J1, _⟩ := O1.look
  obtain ⟨mf, fr⟩ := I.fr
  rw [Vals.ref1 r]
  refine PySem.W.len_K fr I.ok.mod.kin J1 M.at_ M.fn ?_
  refine wpAny_mono (run_deep F (hr.mono hk).in1 bd I (vs := [.ref a]) (.cons (rfl : L2.RelV (.ref a) (.ref a)) .nil) h) (fun r s' q => ?_) fun _ _ z => z
  obtain ⟨z, H', J, rz, n, rfl, hn, q⟩ := q
  obtain ⟨t, rfl⟩ := rz
  exact ⟨⟨by omega, by omega⟩, .int n, H', J.tok _, ⟨_, rfl⟩, q⟩
end
theorem g_lenO {C : Addr} {sp : Sp} {v : V} {H : Hp} {Q : VK} {dx : Addr} {fs : List (Str × V)} {a : Addr} (e : v = .ref a) (h : H a = some (.ins C dx fs)) (k : sp [.ref a] H (fun z H' => ∃ n : Nat, z = .int n ∧ n < 2 ^ 63 ∧ Q z H') E0) : rLenOwn C sp [v] H Q := ⟨a, dx, fs, by rw [e], h, k⟩
/-! ## one form at a place -/
theorem S_one {a b : List Nat} (h : S a = S b) : a = b := by
  have z := congrArg (fun x : Str => x.cps.toList) h
  simpa [S] using z
theorem fm_one {H : Hp} : ∀ {v : V} {a b : Fm}, FmAt H v a → FmAt H v b → a = b := by
  intro v a b h
  induction h generalizing b with
  | atm e =>
    intro h2
    cases h2 with
    | atm e2 =>
      rw [e] at e2
      injection e2 with e2
      injection e2 with e2
      injection e2 with i1 i2
      injection i2 with i2 _
      injection i1 with i1
      injection i2 with i2
      rw [i1, S_one i2]
    | un e2 f2 =>
      rw [e] at e2
      injection e2 with e2
      injection e2 with e2
      injection e2 with i1 i2
      injection i2 with i2 _
      rw [← i2] at f2
      cases f2
    | bi e2 _ _ =>
      rw [e] at e2
      injection e2 with e2
      injection e2 with e2
      injection e2 with i1 i2
      injection i2 with _ i2
      cases i2
  | un e f ih =>
    intro h2
    cases h2 with
    | atm e2 =>
      rw [e] at e2
      injection e2 with e2
      injection e2 with e2
      injection e2 with i1 i2
      injection i2 with i2 _
      rw [i2] at f
      cases f
    | un e2 f2 =>
      rw [e] at e2
      injection e2 with e2
      injection e2 with e2
      injection e2 with i1 i2
      injection i2 with i2 _
      injection i1 with i1
      rw [← i2] at f2
      rw [i1, ih f2]
    | bi e2 _ _ =>
      rw [e] at e2
      injection e2 with e2
      injection e2 with e2
      injection e2 with i1 i2
      injection i2 with _ i2
      cases i2
  | bi e f g ih1 ih2 =>
    intro h2
    cases h2 with
    | atm e2 =>
      rw [e] at e2
      injection e2 with e2
      injection e2 with e2
      injection e2 with i1 i2
      injection i2 with _ i2
      cases i2
    | un e2 f2 =>
      rw [e] at e2
      injection e2 with e2
      injection e2 with e2
      injection e2 with i1 i2
      injection i2 with _ i2
      cases i2
    | bi e2 f2 g2 =>
      rw [e] at e2
      injection e2 with e2
      injection e2 with e2
      injection e2 with i1 i2
      injection i2 with i2 i3
      injection i3 with i3 _
      injection i1 with i1
      rw [← i2] at f2
      rw [← i3] at g2
      rw [i1, ih1 f2, ih2 g2]
/-- what is asked of a form, asked of the value at which it stands -/
theorem form_fn (H : Hp) (φ : Fm → Bool) : ∃ e : Value → Bool, ∀ {v : V} {z : Value} {g : Fm}, FmAt H v g → RelV v z → e z = φ g := by
  classical
  refine ⟨fun z => if h : ∃ (p : Addr) (g : Fm), z = .ref p ∧ FmAt H (.ref p) g then φ h.choose_spec.choose else false, fun {v z g} f r => ?_⟩
  have hp : ∃ p, v = .ref p := by
    cases f with
    | atm e => exact ⟨_, rfl⟩
    | un e _ => exact ⟨_, rfl⟩
    | bi e _ _ => exact ⟨_, rfl⟩
  obtain ⟨p, rfl⟩ := hp
  cases r
  have h : ∃ (p' : Addr) (g : Fm), Value.ref p = .ref p' ∧ FmAt H (.ref p') g := ⟨p, g, rfl, f⟩
  show (if h : ∃ (p' : Addr) (g : Fm), Value.ref p = .ref p' ∧ FmAt H (.ref p') g then φ h.choose_spec.choose else false) = φ g
  rw [dif_pos h]
  obtain ⟨e1, e2⟩ := h.choose_spec.choose_spec
  have e3 : h.choose = p := (Value.ref.inj e1).symm
  have f' : FmAt H (.ref h.choose) g := by
    rw [e3]
    exact f
  rw [fm_one e2 f']
/-! ## a form among a list of forms -/
def rInFs (K : PySem.W.Frag) : R2 := fun x y H Q => ∃ (l : Addr) (us : List V) (gs : List Fm) (a : Fm), y = .ref l ∧ SqL K H l us ∧ FsAt H us gs ∧ FmAt H x a ∧ a.ok = true ∧ a.dep ≤ 60 ∧ (∀ g ∈ gs, g.ok = true) ∧ Q (.bl (gs.any fun g => PyData.eqv g.data a.data)) H
theorem op_inFs {X : Cx} {K : PySem.W.Frag} (hK : X.K = K) (hu : X.A.units + 64 < cLine) : OpR X (compareOp .In) (rInFs K) := by
  subst hK
  intro pins s σ H x y v u Q I rx ry h
  obtain ⟨l, us, gs, a, rfl, hq, hf, ha, oa, da, og, q⟩ := h
  cases ry
  obtain ⟨its, r, pl, hz⟩ := I.list hq
  obtain ⟨as, r1⟩ := Dp.reads I _ x v (dp_fm ha) rx
  have dd := Fm.depth_le a
  obtain ⟨e, he⟩ := form_fn H fun g : Fm => PyData.eqv g.data a.data
  have items : ∀ {us : List V} {gs : List Fm} {its : List Value}, FsAt H us gs → Vals us its → (∀ g ∈ gs, g.ok = true) → its.any e = gs.any (fun g => PyData.eqv g.data a.data) ∧ ∀ z ∈ its, SeqAt.EqAt X.A.in1 s z v (e z) := by
    intro us gs its hf
    induction hf generalizing its with
    | nil =>
      intro r _
      cases r
      exact ⟨rfl, fun e he => nomatch he⟩
    | @cons w ws g gs' hg hr ih =>
      intro r og
      cases r with
      | @cons _ z _ zs rz rr =>
        obtain ⟨h1, h2⟩ := ih rr fun g' hg' => og g' (List.mem_cons_of_mem _ hg')
        obtain ⟨bs, r2⟩ := Dp.reads I _ w z (dp_fm hg) rz
        have ez := he hg rz
        refine ⟨by rw [List.any_cons, List.any_cons, h1, ez], fun y hy => ?_⟩
        rcases List.mem_cons.mp hy with rfl | hy
        · rw [ez]
          exact SeqAt.eqAt_reads g.data a.data X.A.in1 s y v _ as r2 r1 (Fm.lay (og g List.mem_cons_self)) (Fm.lay oa) (by show X.A.units + 1 + min g.data.depth a.data.depth < cLine; omega)
        · exact h2 y hy
  obtain ⟨h1, h2⟩ := items hf r og
  refine SeqAt.in_listAt e pl.isList (fun w hw => h2 w (by simpa using hw)) ⟨.bl _, H, I, rfl, ?_⟩
  rw [List.any_toArray, h1]
  exact q
theorem ix_tupK {X : Cx} {K : PySem.W.Frag} (hK : X.K = K) : IxR X (rIxT K) := by
  subst hK
  exact ix_tup
/-! ## comprehensions over a list, whose tests and items change nothing -/
def rLcLF (K : PySem.W.Frag) (j : Nat) (tt : TT) (te : TE) (vs : List Nat) (σ : L2.St) (v : V) (H : Hp) (Q : VK) : Prop := ∃ a, v = .ref a ∧ (∃ xs, SqL K H a xs) ∧ ∀ D, H D = none → ∃ W : Nat → Nat → Hp → Prop, (∃ m, W 0 m (upd H D (.lst []))) ∧ ∀ i m H, W i m H →
  ((Itl K a).stop i H ∧ Q (.ref D) H) ∨ ((Itl K a).go i H ∧ ∃ Nx : Hp → Prop, (∀ H', Nx H' → ∃ m', m' < m ∧ W (i + 1) m' H') ∧ ∀ x H', (Itl K a).yld i H x H' → gName j x (wipe σ vs) H' fun σ2 H2 => wipe σ2 vs = wipe σ vs ∧ tt σ2 H2 fun b H3 =>
    if b = true then te σ2 H3 fun y H4 => ∃ acc, H4 D = some (.lst acc) ∧ acc.length < sizeLine ∧ Nx (upd H4 D (.lst (acc ++ [y]))) else Nx H3)
theorem g_lcLF {K : PySem.W.Frag} {σ : L2.St} {H : Hp} {Q : VK} {tl : TE} {tt : TT} {te : TE} {j : Nat} {vs : List Nat} (k : tl σ H fun v H1 => rLcLF K j tt te vs σ v H1 Q) : tLc (iList K tl) (gName j) tt te vs σ H Q := k
theorem r_lcLF {K : PySem.W.Frag} {σ : L2.St} {H : Hp} {Q : VK} {tt : TT} {te : TE} {j : Nat} {a : Addr} {xs : List V} {vs : List Nat} (b : V → Bool) (f : V → V) (hT : ∀ H2, Same H H2 → SqL K H2 a xs) (hl : xs.length < 1000000) (hw : ∀ x, wipe ((wipe σ vs).set j (some x)) vs = wipe σ vs)
    (ht : ∀ x H2 (R : Bool → Hp → Prop), x ∈ xs → Same H H2 → R (b x) H2 → tt ((wipe σ vs).set j (some x)) H2 R) (he : ∀ x H2 (R : VK), x ∈ xs → b x = true → Same H H2 → R (f x) H2 → te ((wipe σ vs).set j (some x)) H2 R)
    (k : ∀ D, H D = none → Q (.ref D) (upd H D (.lst ((xs.filter b).map f)))) : rLcLF K j tt te vs σ (.ref a) H Q := by
  refine ⟨a, rfl, ⟨xs, hT H (Same.refl H)⟩, fun D hD => ?_⟩
  have hS : ∀ l, Same H (upd H D (.lst l)) := fun l => Same.upd hD
  refine lc_list (xs := xs) (fun i H2 => H2 = upd H D (.lst (((xs.take i).filter b).map f))) rfl (fun i H2 hi p => ?_) (fun i x H2 hi p => ?_) (fun H2 p => ?_)
  · rw [p]
    exact hT _ (hS _)
  · subst p
    have hm : x ∈ xs := List.mem_of_getElem? hi
    have tk : xs.take (i + 1) = xs.take i ++ [x] := by rw [List.take_succ, hi]; rfl
    refine ⟨hw _, ht x _ _ hm (hS _) ?_⟩
    cases hb : b x with
    | false =>
      rw [if_neg Bool.false_ne_true, tk, List.filter_append, List.filter_cons, if_neg (by rw [hb]; decide), List.filter_nil, List.append_nil]
    | true =>
      rw [if_pos rfl]
      refine he x _ _ hm hb (hS _) ⟨_, upd_same, ?_, ?_⟩
      · have h1 := List.length_filter_le b (xs.take i)
        rw [List.length_take] at h1
        rw [List.length_map, sizeLine_eq]
        omega
      · rw [tk, List.filter_append, List.filter_cons, if_pos hb, List.filter_nil, List.map_append, upd_upd]
        rfl
  · subst p
    rw [List.take_of_length_le (Nat.le_refl _)]
    exact k D hD
end Op

namespace Op
open PySem PySem.Spec PyProof.Rows L2 SX OpC
local macro_rules | `(tactic| walk_at "go1") => `(tactic| first
  | ((with_reducible refine' g_var ?h ?_); (case h => rfl)) | with_reducible refine' g_c ?_ | with_reducible refine' g_op ?_ | with_reducible refine' g_un ?_ | with_reducible refine' g_if ?_ | with_reducible refine' g_test ?_ | with_reducible refine' g_B ?_ | with_reducible refine' g_bl ?_
  | with_reducible refine' g_not ?_ | with_reducible refine' g_and ?_ | with_reducible refine' g_or ?_ | with_reducible refine' g_andV ?_ | with_reducible refine' g_orV ?_ | with_reducible refine' g_notV ?_ | with_reducible refine' g_nil ?_ | with_reducible refine' g_cons ?_ | with_reducible refine' g_CB ?_ | with_reducible refine' g_ca ?_
  | with_reducible refine' g_seq ?_ | with_reducible refine' g_next ?_ | with_reducible refine' g_asg ?_ | with_reducible refine' g_name ?_ | with_reducible refine' g_ret ?_ | with_reducible refine' g_retN ?_ | with_reducible refine' g_drop ?_ | with_reducible refine' g_ifS ?_ | with_reducible refine' g_sub ?_
  | with_reducible refine' g_I0 ?_ | with_reducible refine' g_U ?_ | ((with_reducible refine' g_eq ?h ?_); (case h => rfl)) | ((with_reducible refine' g_ne ?h ?_); (case h => rfl))
  | ((with_reducible refine' g_lenL ?h ?_); (case h => first | assumption | exact SqL.of (by assumption) | exact SqL.of upd_same)) | ((with_reducible refine' g_lenT ?h ?_); (case h => first | assumption | exact SqT.of (by assumption) | exact SqT.of upd_same))
  | ((with_reducible refine' g_ixL ?h ?ha ?_); (case h => first | assumption | exact SqL.of (by assumption) | exact SqL.of upd_same); (case ha => rfl)) | ((with_reducible refine' g_ixT ?h ?ha ?_); (case h => first | assumption | exact SqT.of (by assumption) | exact SqT.of upd_same); (case ha => rfl))
  | ((with_reducible refine' g_I ?h ?_); (case h => first | decide | omega | (first | refine' ⟨?_, ?_, ?_⟩ | refine' ⟨?_, ?_⟩ | refine' Or.inl ⟨?_, ?_⟩) <;> omega | (refine' Or.inr ⟨?_, ?_⟩ <;> omega)))
  | ((with_reducible refine' g_setL ?h ?ha ?_); (case h => first | assumption | exact upd_same); (case ha => rfl))
  | with_reducible refine' g_lcR ?_
  | with_reducible refine' g_M1 ?_ | with_reducible refine' g_isS ?_ | with_reducible refine' g_tyS ?_ | ((with_reducible refine' g_tyL ?h ?_); (case h => first | assumption | exact upd_same))
  | ((with_reducible refine' g_cat ?h ?h2 ?hl ?_); (case h => first | assumption | exact upd_same); (case h2 => first | assumption | exact upd_same); (case hl => first | decide | (simp; omega)))
  | with_reducible refine' g_lcS ?_
  | with_reducible refine' g_starts ?_ | with_reducible refine' g_chain ?_
  | ((with_reducible refine' g_lenS ?h ?_); (case h => first | exact len_le (by assumption) | exact len_le (by omega))) | ((with_reducible refine' g_rstrip ?h ?_); (case h => first | exact len_le (by assumption) | exact len_le (by omega))) | ((with_reducible refine' g_slX ?h ?_); (case h => first | exact len_le (by assumption) | exact len_le (by omega)))
  | with_reducible refine' g_sl ?_ | with_reducible refine' g_nopart ?_ | with_reducible refine' g_part ?_ | with_reducible refine' g_isI ?_
  | with_reducible refine' g_tru ?_
  | with_reducible refine' iteT ?_ | with_reducible refine' iteF ?_ | with_reducible refine' iteNT ?_ | with_reducible refine' iteNF ?_
  | with_reducible refine' g_int ?_ | with_reducible refine' g_insg ?_ | with_reducible refine' g_ninsg ?_ | with_reducible refine' g_isN ?_ | with_reducible refine' g_notN ?_ | with_reducible refine' g_lst ?_ | with_reducible refine' g_tup ?_ | with_reducible refine' g_BM ?_ | with_reducible refine' g_BM0 ?_)
local macro_rules | `(tactic| walk_at "go") => `(tactic| repeat' walk_at "go1")
local macro_rules | `(tactic| walk_at "go2") => `(tactic| repeat' (first | walk_at "go1" | with_reducible refine' g_cm ?_ | with_reducible refine' g_mk ?_ | with_reducible refine' g_for ?_ | ((with_reducible refine' g_rcm ?h ?ha ?_); (case h => first | assumption | exact upd_same); (case ha => first | rfl | decide | simp [List.lookup]))))
/- macro2 -/
local macro_rules | `(tactic| walk_at "go3a") => `(tactic| first
  | walk_at "go1" | with_reducible refine' g_cm ?_ | with_reducible refine' g_mk ?_ | with_reducible refine' g_for ?_ | with_reducible refine' g_fld ?_ | with_reducible refine' g_lcT0 ?_
  | ((with_reducible refine' g_rcm ?h ?ha ?_); (case h => first | assumption | exact upd_same); (case ha => first | rfl | decide | simp [List.lookup]))
  | ((with_reducible refine' g_shape ?hc ?hn ?h ?_); (case hc => assumption); (case hn => assumption); (case h => first | assumption | exact upd_same | (rw [upd_ne (by assumption)]; assumption))))
local macro_rules | `(tactic| walk_at "go3") => `(tactic| repeat' walk_at "go3a")
local macro_rules | `(tactic| walk_at "go4") => `(tactic| repeat' (first
  | walk_at "go3a" | ((with_reducible refine' iteDT ?h ?_); (case h => first | rfl | decide +kernel)) | ((with_reducible refine' iteDF ?h ?_); (case h => decide +kernel))))
/-! ## filled forms -/
def Fm.fill (φ : List Nat → Option Fm) : Fm → Fm
  | .atm k t => if k = kUnk then (φ t).getD (.atm k t) else .atm k t
  | .un k a => .un k (a.fill φ)
  | .bi k a b => .bi k (a.fill φ) (b.fill φ)
theorem g_dget2 {td ty tx : TE} {σ : L2.St} {H : Hp} {Q : VK} (k : td σ H fun x H1 => ∃ a, x = V.ref a ∧ IsD H1 a ∧ ty σ H1 fun y H2 => tx σ H2 fun z H3 => ∃ o, DGet H3 a y o ∧ Q (o.getD z) H3) : tDGet2 td ty tx σ H Q := k
theorem Tps.but {H H' : Hp} {l : Addr} {xs : List V} (b : But l H H') (e : H l = some (.lst xs)) : Tps H H' := fun x ys h => b x _ (ne_of h e fun z => nomatch z) h
end Op

namespace Op
open PySem PySem.Spec PyProof.Rows L2 SX OpC
/-! ## walks of a locked dict; dict comprehensions that are stored -/
theorem sw_dc {kx vx : Expr} {gs : List Comprehension} {scope : Scope} {pos py : Pos} {y : Str} {l : Nat} {env : Env} (h1 : env.scope.kind = .function) (h2 : env.scope.names.lookup y = some .local) (h3 : (py.line == pos.line) = true)
    (h4 : (scope.names.any fun (n, k) => n == y && (k == .local || k == .cell)) = false) : swapsWith (.DictComp kx vx gs scope pos) (some (.Name y py)) l env = pure true := by
  have e1 : env.kindOf y = some .local := h2
  have e2 : env.blockKind = .function := by
    unfold Env.blockKind
    rw [h1]
    rfl
  unfold swapsWith
  simp only [e1, e2, h4, Expr.pos, h3]
  rfl
section
variable {X : Cx} {kx vx tg iter : Expr} {ifs : List Expr} {scope : Scope} {own : List (Str × Nat)} {pos : Pos} {wi : TI} {g : TG} {tt : TT} {tk tv : TE}
/-- name = {k: v for ..}, the name a local, on the same line -/
theorem ps_setDc {i : Nat} {y : Str} {py spos : Pos} (hc : X.calm = true) (hN : X.N.Nodup) (hy : X.N[i]? = some y) (hyl : X.env.scope.names.lookup y = some .local)
    (hsw : swapsWith (.DictComp kx vx [⟨tg, iter, ifs, 0⟩] scope pos) (some (.Name y py)) spos.line X.env = pure true) (hi : PI X tg iter wi) (ok : BlkOk X.N X.env.scope scope own) (hg : ∀ s H C cl fp, PG (inBlk X s H scope C cl fp) tg g)
    (ht : ∀ s H C cl fp, PTs (inBlk X s H scope C cl fp) ifs tt) (hk : ∀ s H C cl fp, PE (inBlk X s H scope C cl fp) kx tk) (hv : ∀ s H C cl fp, PE (inBlk X s H scope C cl fp) vx tv) (hs : ∀ x, foldedSetIterable iter X.env x = pure x := by intro _; rfl) :
    PS X (.Assign [.Name y py] (.DictComp kx vx [⟨tg, iter, ifs, 0⟩] scope pos) spos) (tAsg (tDc wi g tt tk tv (own.map (·.2))) (gName i)) := by
  refine ⟨fun pins s σ H D I h => ?_⟩
  rw [exec_Assign_Name_used _ _ _ _ hsw]
  apply wpAny_bind
  apply wpAny_standAt
  apply wpAny_bind
  show wpAny _ X.A (comprehension (.DictComp kx vx [⟨tg, iter, ifs, 0⟩] scope pos) scope X.env (firstIterPos [⟨tg, iter, ifs, 0⟩] pos) newDict false (eval iter X.env) (some (assign (.Name y py) X.env)) >>= fun _ => pure PUnit.unit) _ _ s
  apply wpAny_bind
  refine thn (dc_core (Q := fun x H1 => gName i x σ H1 D.nx) (Qf := fun _ s1 => SP X pins D .next s1) hc hN I hi ok hg ht hk hv hs h fun L C s1 m H1 J q hn fp => ?_) fun _ s1 q => wpAny_pure (wpAny_pure q)
  obtain ⟨f0, f1, f2, f3, f4, f5⟩ := fp
  show wpAny _ _ (assign (.Name y py) X.env (.ref L)) _ _ _
  refine wpAny_assign_Name (store_ok2 (v := V.ref L) J hN hy (.inl hyl) rfl (fun s2 J2 ⟨a, sb, ha⟩ => ?_) (.inr hyl))
  have nC : C ≠ a := ha.elim (fun z => z ▸ f1) fun z e => f4 y a z e.symm
  refine ⟨m, hn.sameBut sb nC, fun h3 sb3 => ?_⟩
  exact ⟨_, H1, J2.turned (t' := s2.toks) (fun b o hb e => (sb3.2 b hb).trans e) f0 f1 f3 f4 f5, q⟩
end
theorem lock_same {H H' : Hp} {d : Addr} {od : Obj} {u : HO} (e : H d = some u) (s : Same (upd H d (.frz od u)) H') : Same H (upd H' d u) := fun b o h => by
  by_cases z : b = d
  · rw [z] at h ⊢
    rw [upd_same, ← h, e]
  · rw [upd_ne z]
    exact s b o (by rw [upd_ne z]; exact h)
theorem Tps.frz {H : Hp} {d : Addr} {od : Obj} {u v : HO} (e : H d = some (.frz od u)) : Tps H (upd H d v) := fun b xs h => by
  rw [upd_ne (ne_of h e fun z => nomatch z)]
  exact h
theorem Tps.lock {H : Hp} {d : Addr} {kvs : List (Key × V)} {v : HO} (e : H d = some (.dK kvs)) : Tps H (upd H d v) := fun b xs h => by
  rw [upd_ne (ne_of h e fun z => nomatch z)]
  exact h
theorem LetAt.upd {CL : Addr} {H : Hp} {d : Addr} {v : HO} {x : V} {a : Fm} (l : LetAt CL H x a) (ne : ∀ C dx fs, H d ≠ some (.ins C dx fs)) (t : Tps H (upd H d v)) : LetAt CL (upd H d v) x a := by
  obtain ⟨p, dx, u, rfl, e, f⟩ := l
  refine ⟨p, dx, u, rfl, ?_, f.tps t⟩
  rw [upd_ne fun z => ne _ _ _ (z ▸ e)]
  exact e
theorem LsAt.upd {CL : Addr} {H : Hp} {d : Addr} {v : HO} (ne : ∀ C dx fs, H d ≠ some (.ins C dx fs)) (t : Tps H (upd H d v)) : ∀ {xs : List V} {as : List Fm}, LsAt CL H xs as → LsAt CL (upd H d v) xs as
  | _, _, .nil => .nil
  | _, _, .cons h r => .cons (h.upd ne t) (LsAt.upd ne t r)
theorem g_lockE {t : TE} {σ : L2.St} {H : Hp} {Q : VK} {d : Addr} {kvs : List (Key × V)} (e : H d = some (.dK kvs)) (k : ∀ od, t σ (upd H d (.frz od (.dK kvs))) fun v H' => H' d = some (.frz od (.dK kvs)) ∧ Q v (upd H' d (.dK kvs))) : tLockE t σ H Q := ⟨d, _, e, trivial, k⟩
section
variable {σ : L2.St} {H : Hp} {Q : VK} {td te tk tv : TE} {j : Nat} {vs : List Nat} {d : Addr} {o : Obj} {kvs : List (Key × V)}
/-- [e for k in d] -/
theorem lc_keys (ht : ∀ R : VK, R (.ref d) H → td σ H R) (hd : H d = some (.frz o (.dK kvs))) (hl : kvs.length < 1000000) (J : Addr → Nat → List V → Hp → Prop) (hw : ∀ x, wipe ((wipe σ vs).set j (some x)) vs = wipe σ vs) (hst : ∀ D i acc H2, J D i acc H2 → H2 d = some (.frz o (.dK kvs)))
    (h0 : ∀ D, H D = none → J D 0 [] (upd H D (.lst []))) (hs : ∀ (D : Addr) (i : Nat) (k : Key) (v : V) (acc : List V) (H2 : Hp), H D = none → kvs[i]? = some (k, v) → H2 D = some (.lst acc) → acc.length = i → J D i acc H2 → te ((wipe σ vs).set j (some (kV k))) H2 (lcPost J D i))
    (hq : ∀ D acc H2, H D = none → H2 D = some (.lst acc) → acc.length = kvs.length → J D kvs.length acc H2 → Q (.ref D) H2) : tLc (iKeys td) (gName j) tYes te vs σ H Q := by
  apply ht
  refine ⟨d, o, rfl, .inl ⟨kvs, hd, fun D hD => ?_⟩⟩
  refine ⟨fun i m H2 => m = kvs.length - i ∧ i ≤ kvs.length ∧ ∃ acc, H2 D = some (.lst acc) ∧ acc.length = i ∧ J D i acc H2, ⟨_, rfl, Nat.zero_le _, [], upd_same, rfl, h0 D hD⟩, ?_⟩
  rintro i m H2 ⟨rfl, hi, acc, a1, a2, a3⟩
  have ed := hst D i acc H2 a3
  by_cases lt : i < kvs.length
  · refine .inr ⟨⟨ed, lt⟩, fun H' => ∃ acc', H' D = some (.lst acc') ∧ acc'.length = i + 1 ∧ J D (i + 1) acc' H', fun H' p => ⟨_, by omega, rfl, lt, p⟩, fun x H' ⟨e, k, v, ek, ex⟩ => ?_⟩
    subst e ex
    exact ⟨hw _, hs D i k v acc _ hD ek a1 a2 a3⟩
  · obtain rfl : i = kvs.length := by omega
    exact .inl ⟨⟨ed, Nat.le_refl _⟩, hq D acc H2 hD a1 a2 a3⟩
/-- a turn's end in a dict's comprehension -/
def dcPost (J : Addr → Nat → List (Key × V) → Hp → Prop) (D : Addr) (i : Nat) (y : V) : VK := fun z H5 => ∃ (es : List (Key × V)) (k : Key), y = kV k ∧ H5 D = some (.dK es) ∧ es.length < sizeLine ∧ ∃ es', (upd H5 D (.dK (putK es k z))) D = some (.dK es') ∧ J D (i + 1) es' (upd H5 D (.dK (putK es k z)))
theorem dcPost.of {J : Addr → Nat → List (Key × V) → Hp → Prop} {D : Addr} {i : Nat} {y z : V} {H5 : Hp} {es : List (Key × V)} {k : Key} (e : y = kV k) (h : H5 D = some (.dK es)) (l : es.length < sizeLine) (p : J D (i + 1) (putK es k z) (upd H5 D (.dK (putK es k z)))) : dcPost J D i y z H5 := ⟨es, k, e, h, l, _, upd_same, p⟩
def dtPost (J : Addr → Nat → List (List Key × V) → Hp → Prop) (D : Addr) (i : Nat) (y : V) : VK := fun z H5 => ∃ (es : List (List Key × V)) (k : List Key) (p : Addr), y = .ref p ∧ H5 D = some (.dT es) ∧ H5 p = some (.tup (k.map kV)) ∧ es.length < sizeLine ∧ ∃ es', (upd H5 D (.dT (putK es k z))) D = some (.dT es') ∧ J D (i + 1) es' (upd H5 D (.dT (putK es k z)))
theorem dtPost.of {J : Addr → Nat → List (List Key × V) → Hp → Prop} {D : Addr} {i : Nat} {y z : V} {H5 : Hp} {es : List (List Key × V)} {k : List Key} {p : Addr} (e : y = .ref p) (h : H5 D = some (.dT es)) (ep : H5 p = some (.tup (k.map kV))) (l : es.length < sizeLine) (q : J D (i + 1) (putK es k z) (upd H5 D (.dT (putK es k z)))) : dtPost J D i y z H5 :=
  ⟨es, k, p, e, h, ep, l, _, upd_same, q⟩
/-- {k: v for k in d}, keys texts -/
theorem dc_keys (ht : ∀ R : VK, R (.ref d) H → td σ H R) (hd : H d = some (.frz o (.dK kvs))) (J : Addr → Nat → List (Key × V) → Hp → Prop) (hw : ∀ x, wipe ((wipe σ vs).set j (some x)) vs = wipe σ vs) (hst : ∀ D i es H2, J D i es H2 → H2 d = some (.frz o (.dK kvs)))
    (h0 : ∀ D, H D = none → J D 0 [] (upd H D (.dK []))) (hs : ∀ (D : Addr) (i : Nat) (k : Key) (v : V) (es : List (Key × V)) (H2 : Hp), H D = none → kvs[i]? = some (k, v) → H2 D = some (.dK es) → J D i es H2 → tk ((wipe σ vs).set j (some (kV k))) H2 fun y H4 => tv ((wipe σ vs).set j (some (kV k))) H4 (dcPost J D i y))
    (hq : ∀ D es H2, H D = none → H2 D = some (.dK es) → J D kvs.length es H2 → Q (.ref D) H2) : tDc (iKeys td) (gName j) tYes tk tv vs σ H Q := by
  apply ht
  refine ⟨d, o, rfl, .inl ⟨kvs, hd, fun D hD => ?_⟩⟩
  refine ⟨fun i m H2 => m = kvs.length - i ∧ i ≤ kvs.length ∧ ∃ es, H2 D = some (.dK es) ∧ J D i es H2, ⟨_, rfl, Nat.zero_le _, [], upd_same, h0 D hD⟩, ?_⟩
  rintro i m H2 ⟨rfl, hi, es, a1, a3⟩
  have ed := hst D i es H2 a3
  by_cases lt : i < kvs.length
  · refine .inr ⟨⟨ed, lt⟩, fun H' => ∃ es', H' D = some (.dK es') ∧ J D (i + 1) es' H', fun H' p => ⟨_, by omega, rfl, lt, p⟩, fun x H' ⟨e, k, v, ek, ex⟩ => ?_⟩
    subst e ex
    exact ⟨hw _, hs D i k v es _ hD ek a1 a3⟩
  · obtain rfl : i = kvs.length := by omega
    exact .inl ⟨⟨ed, Nat.le_refl _⟩, hq D es H2 hD a1 a3⟩
/-- {k: v for k in d}, keys tuples -/
theorem dt_keys (ht : ∀ R : VK, R (.ref d) H → td σ H R) (hd : H d = some (.frz o (.dK kvs))) (J : Addr → Nat → List (List Key × V) → Hp → Prop) (hw : ∀ x, wipe ((wipe σ vs).set j (some x)) vs = wipe σ vs) (hst : ∀ D i es H2, J D i es H2 → H2 d = some (.frz o (.dK kvs)))
    (h0 : ∀ D, H D = none → J D 0 [] (upd H D (.dT []))) (hs : ∀ (D : Addr) (i : Nat) (k : Key) (v : V) (es : List (List Key × V)) (H2 : Hp), H D = none → kvs[i]? = some (k, v) → H2 D = some (.dT es) → J D i es H2 → tk ((wipe σ vs).set j (some (kV k))) H2 fun y H4 => tv ((wipe σ vs).set j (some (kV k))) H4 (dtPost J D i y))
    (hq : ∀ D es H2, H D = none → H2 D = some (.dT es) → J D kvs.length es H2 → Q (.ref D) H2) : tDcT (iKeys td) (gName j) tYes tk tv vs σ H Q := by
  apply ht
  refine ⟨d, o, rfl, .inl ⟨kvs, hd, fun D hD => ?_⟩⟩
  refine ⟨fun i m H2 => m = kvs.length - i ∧ i ≤ kvs.length ∧ ∃ es, H2 D = some (.dT es) ∧ J D i es H2, ⟨_, rfl, Nat.zero_le _, [], upd_same, h0 D hD⟩, ?_⟩
  rintro i m H2 ⟨rfl, hi, es, a1, a3⟩
  have ed := hst D i es H2 a3
  by_cases lt : i < kvs.length
  · refine .inr ⟨⟨ed, lt⟩, fun H' => ∃ es', H' D = some (.dT es') ∧ J D (i + 1) es' H', fun H' p => ⟨_, by omega, rfl, lt, p⟩, fun x H' ⟨e, k, v, ek, ex⟩ => ?_⟩
    subst e ex
    exact ⟨hw _, hs D i k v es _ hD ek a1 a3⟩
  · obtain rfl : i = kvs.length := by omega
    exact .inl ⟨⟨ed, Nat.le_refl _⟩, hq D es H2 hD a1 a3⟩
/-- for k in d -/
theorem for_keys {tb : TS} {D : Ends} (ht : ∀ R : VK, R (.ref d) H → td σ H R) (hd : H d = some (.frz o (.dK kvs))) (Pv : Nat → L2.St → Hp → Prop) (hst : ∀ i σ H2, Pv i σ H2 → H2 d = some (.frz o (.dK kvs))) (h0 : Pv 0 σ H)
    (hs : ∀ i k v σ H2, kvs[i]? = some (k, v) → Pv i σ H2 → tb { D with nx := Pv (i + 1), ct := Pv (i + 1), bk := D.nx } (σ.set j (some (kV k))) H2) (hq : ∀ σ H2, Pv kvs.length σ H2 → D.nx σ H2) : tFor (iKeys td) (gName j) tb D σ H := by
  apply ht
  refine ⟨d, o, rfl, .inl ⟨kvs, hd, fun i m σ H2 => m = kvs.length - i ∧ i ≤ kvs.length ∧ Pv i σ H2, ⟨_, rfl, Nat.zero_le _, h0⟩, ?_⟩⟩
  rintro i m σ H2 ⟨rfl, hi, p⟩
  have ed := hst i σ H2 p
  by_cases lt : i < kvs.length
  · refine .inr ⟨⟨ed, lt⟩, Pv (i + 1), fun σ' H' p => ⟨_, by omega, rfl, lt, p⟩, fun x H' ⟨e, k, v, ek, ex⟩ => ?_⟩
    subst e ex
    exact hs i k v σ _ ek p
  · obtain rfl : i = kvs.length := by omega
    exact .inl ⟨⟨ed, Nat.le_refl _⟩, hq σ H2 p⟩
end
end Op

namespace Op
open PySem PySem.Spec PyProof.Rows L2 SX OpC
local macro_rules | `(tactic| walk_at "go1") => `(tactic| first
  | ((with_reducible refine' g_var ?h ?_); (case h => rfl)) | with_reducible refine' g_c ?_ | with_reducible refine' g_op ?_ | with_reducible refine' g_un ?_ | with_reducible refine' g_if ?_ | with_reducible refine' g_test ?_ | with_reducible refine' g_B ?_ | with_reducible refine' g_bl ?_
  | with_reducible refine' g_not ?_ | with_reducible refine' g_and ?_ | with_reducible refine' g_or ?_ | with_reducible refine' g_andV ?_ | with_reducible refine' g_orV ?_ | with_reducible refine' g_notV ?_ | with_reducible refine' g_nil ?_ | with_reducible refine' g_cons ?_ | with_reducible refine' g_CB ?_ | with_reducible refine' g_ca ?_
  | with_reducible refine' g_seq ?_ | with_reducible refine' g_next ?_ | with_reducible refine' g_asg ?_ | with_reducible refine' g_name ?_ | with_reducible refine' g_ret ?_ | with_reducible refine' g_retN ?_ | with_reducible refine' g_drop ?_ | with_reducible refine' g_ifS ?_ | with_reducible refine' g_sub ?_
  | with_reducible refine' g_I0 ?_ | with_reducible refine' g_U ?_ | ((with_reducible refine' g_eq ?h ?_); (case h => rfl)) | ((with_reducible refine' g_ne ?h ?_); (case h => rfl))
  | ((with_reducible refine' g_lenL ?h ?_); (case h => first | assumption | exact SqL.of (by assumption) | exact SqL.of upd_same)) | ((with_reducible refine' g_lenT ?h ?_); (case h => first | assumption | exact SqT.of (by assumption) | exact SqT.of upd_same))
  | ((with_reducible refine' g_ixL ?h ?ha ?_); (case h => first | assumption | exact SqL.of (by assumption) | exact SqL.of upd_same); (case ha => rfl)) | ((with_reducible refine' g_ixT ?h ?ha ?_); (case h => first | assumption | exact SqT.of (by assumption) | exact SqT.of upd_same); (case ha => rfl))
  | ((with_reducible refine' g_I ?h ?_); (case h => first | decide | omega | (first | refine' ⟨?_, ?_, ?_⟩ | refine' ⟨?_, ?_⟩ | refine' Or.inl ⟨?_, ?_⟩) <;> omega | (refine' Or.inr ⟨?_, ?_⟩ <;> omega)))
  | ((with_reducible refine' g_setL ?h ?ha ?_); (case h => first | assumption | exact upd_same); (case ha => rfl))
  | with_reducible refine' g_lcR ?_
  | with_reducible refine' g_M1 ?_ | with_reducible refine' g_isS ?_ | with_reducible refine' g_tyS ?_ | ((with_reducible refine' g_tyL ?h ?_); (case h => first | assumption | exact upd_same))
  | ((with_reducible refine' g_cat ?h ?h2 ?hl ?_); (case h => first | assumption | exact upd_same); (case h2 => first | assumption | exact upd_same); (case hl => first | decide | (simp; omega)))
  | with_reducible refine' g_lcS ?_
  | with_reducible refine' g_starts ?_ | with_reducible refine' g_chain ?_
  | ((with_reducible refine' g_lenS ?h ?_); (case h => first | exact len_le (by assumption) | exact len_le (by omega))) | ((with_reducible refine' g_rstrip ?h ?_); (case h => first | exact len_le (by assumption) | exact len_le (by omega))) | ((with_reducible refine' g_slX ?h ?_); (case h => first | exact len_le (by assumption) | exact len_le (by omega)))
  | with_reducible refine' g_sl ?_ | with_reducible refine' g_nopart ?_ | with_reducible refine' g_part ?_ | with_reducible refine' g_isI ?_
  | with_reducible refine' g_tru ?_
  | with_reducible refine' iteT ?_ | with_reducible refine' iteF ?_ | with_reducible refine' iteNT ?_ | with_reducible refine' iteNF ?_
  | with_reducible refine' g_int ?_ | with_reducible refine' g_insg ?_ | with_reducible refine' g_ninsg ?_ | with_reducible refine' g_isN ?_ | with_reducible refine' g_notN ?_ | with_reducible refine' g_lst ?_ | with_reducible refine' g_tup ?_ | with_reducible refine' g_BM ?_ | with_reducible refine' g_BM0 ?_)
local macro_rules | `(tactic| walk_at "go") => `(tactic| repeat' walk_at "go1")
local macro_rules | `(tactic| walk_at "go2") => `(tactic| repeat' (first | walk_at "go1" | with_reducible refine' g_cm ?_ | with_reducible refine' g_mk ?_ | with_reducible refine' g_for ?_ | ((with_reducible refine' g_rcm ?h ?ha ?_); (case h => first | assumption | exact upd_same); (case ha => first | rfl | decide | simp [List.lookup]))))
/- macro2 -/
local macro_rules | `(tactic| walk_at "go3a") => `(tactic| first
  | walk_at "go1" | with_reducible refine' g_cm ?_ | with_reducible refine' g_mk ?_ | with_reducible refine' g_for ?_ | with_reducible refine' g_fld ?_ | with_reducible refine' g_lcT0 ?_
  | ((with_reducible refine' g_rcm ?h ?ha ?_); (case h => first | assumption | exact upd_same); (case ha => first | rfl | decide | simp [List.lookup]))
  | ((with_reducible refine' g_shape ?hc ?hn ?h ?_); (case hc => assumption); (case hn => assumption); (case h => first | assumption | exact upd_same | (rw [upd_ne (by assumption)]; assumption))))
local macro_rules | `(tactic| walk_at "go3") => `(tactic| repeat' walk_at "go3a")
local macro_rules | `(tactic| walk_at "go4") => `(tactic| repeat' (first
  | walk_at "go3a" | ((with_reducible refine' iteDT ?h ?_); (case h => first | rfl | decide +kernel)) | ((with_reducible refine' iteDF ?h ?_); (case h => decide +kernel))))
/-! ## fillings -/
/-- an unknown, its form, what stands there -/
abbrev Ent := List Nat × Fm × V
def kvE (e : Ent) : Key × V := (.inr (S e.1), e.2.2)
def kvT (e : Ent) : List Key × V := ([.inr kUnk, .inr (S e.1)], e.2.2)
/-- what an unknown becomes -/
def look (es : List Ent) (t : List Nat) : Option Fm := (es.find? fun e => decide (e.1 = t)).map (·.2.1)
/-- a filling stands at d -/
def FilAt (CL : Addr) (H : Hp) (d : Addr) (es : List Ent) : Prop := H d = some (.dK (es.map kvE)) ∧ (∀ e ∈ es, LetAt CL H e.2.2 e.2.1) ∧ (es.map (·.1)).Nodup ∧ es.length < 1000
theorem valV_mapE {κ : Type} [DecidableEq κ] (f : Ent → κ) (c : List Nat → κ) (hf : ∀ e, f e = c e.1) (hc : ∀ a b, c a = c b → a = b) (t : List Nat) : ∀ es : List Ent, valV (es.map fun e => (f e, e.2.2)) (c t) = (es.find? fun e => decide (e.1 = t)).map (·.2.2)
  | [] => rfl
  | e :: es => by
    have ih := valV_mapE f c hf hc t es
    rw [List.map_cons, List.find?_cons]
    by_cases h : e.1 = t
    · rw [valV_pos (p := (f e, e.2.2)) (by rw [hf, h]), decide_eq_true h]
      rfl
    · rw [valV_neg (p := (f e, e.2.2)) (fun z => h (hc _ _ (by rw [← hf]; exact z))), decide_eq_false h, ih]
theorem valK (t : List Nat) (es : List Ent) : valV (es.map kvE) (.inr (S t)) = (es.find? fun e => decide (e.1 = t)).map (·.2.2) :=
  valV_mapE (fun e => (.inr (S e.1) : Key)) (fun a => .inr (S a)) (fun _ => rfl) (fun a b h => S_one (Sum.inr.inj h)) t es
theorem valT (t : List Nat) (es : List Ent) : valV (es.map kvT) [.inr kUnk, .inr (S t)] = (es.find? fun e => decide (e.1 = t)).map (·.2.2) :=
  valV_mapE (fun e => ([.inr kUnk, .inr (S e.1)] : List Key)) (fun a => [.inr kUnk, .inr (S a)]) (fun _ => rfl) (fun a b h => by
    injection h with _ h
    injection h with h _
    exact S_one (Sum.inr.inj h)) t es
theorem valT_not {k : Str} (hk : k ≠ kUnk) (t : List Nat) : ∀ es : List Ent, valV (es.map kvT) [.inr k, .inr (S t)] = none
  | [] => rfl
  | e :: es => by
    rw [List.map_cons, valV_neg (p := kvT e) (fun z => ?_), valT_not hk t es]
    injection z with z _
    exact hk (Sum.inr.inj z).symm
theorem find_at {es : List Ent} (nd : (es.map (·.1)).Nodup) {e : Ent} (he : e ∈ es) : es.find? (fun x => decide (x.1 = e.1)) = some e := by
  induction es with
  | nil => cases he
  | cons x es ih =>
    rw [List.map_cons] at nd
    obtain ⟨n1, n2⟩ := List.nodup_cons.mp nd
    rw [List.find?_cons]
    rcases List.mem_cons.mp he with rfl | he
    · rw [decide_eq_true rfl]
    · have ne : x.1 ≠ e.1 := fun z => n1 (z ▸ List.mem_map_of_mem he)
      rw [decide_eq_false ne]
      exact ih n2 he
theorem look_at {es : List Ent} (nd : (es.map (·.1)).Nodup) {e : Ent} (he : e ∈ es) : look es e.1 = some e.2.1 := by
  unfold look
  rw [find_at nd he]
  rfl
theorem look_none {es : List Ent} {t : List Nat} (h : t ∉ es.map (·.1)) : look es t = none := by
  unfold look
  rw [List.find?_eq_none.mpr fun e he => ?_]
  · rfl
  · intro z
    exact h (of_decide_eq_true z ▸ List.mem_map_of_mem he)
theorem look_mem {es : List Ent} {t : List Nat} {g : Fm} (h : look es t = some g) : ∃ e ∈ es, e.1 = t ∧ e.2.1 = g := by
  unfold look at h
  obtain ⟨e, he, rfl⟩ := Option.map_eq_some_iff.mp h
  exact ⟨e, List.mem_of_find?_eq_some he, of_decide_eq_true (List.find?_some (p := fun e : Ent => decide (e.1 = t)) he), rfl⟩
theorem mem_look {es : List Ent} {t : List Nat} : t ∈ es.map (·.1) ↔ (look es t).isSome = true := by
  constructor
  · intro h
    cases hl : look es t with
    | some g => rfl
    | none =>
      unfold look at hl
      obtain ⟨e, he, rfl⟩ := List.mem_map.mp h
      have := List.find?_eq_none.mp (Option.map_eq_none_iff.mp hl) e he
      simp at this
  · intro h
    obtain ⟨g, hg⟩ := Option.isSome_iff_exists.mp h
    obtain ⟨e, he, rfl, _⟩ := look_mem hg
    exact List.mem_map_of_mem he
theorem look_snoc {es : List Ent} {e : Ent} (h : e.1 ∉ es.map (·.1)) (t : List Nat) : look (es ++ [e]) t = if e.1 = t then some e.2.1 else look es t := by
  unfold look
  rw [List.find?_append]
  by_cases z : e.1 = t
  · have hn : es.find? (fun e => decide (e.1 = t)) = none := List.find?_eq_none.mpr fun x hx q => h (z ▸ of_decide_eq_true q ▸ List.mem_map_of_mem hx)
    rw [if_pos z, hn]
    simp [z]
  · rw [if_neg z]
    cases es.find? (fun e => decide (e.1 = t)) with
    | some x => rfl
    | none => simp [z]
/-- one entry more -/
theorem put_at {es : List Ent} {u : List Nat} {g : Fm} {z : V} (nd : (es.map (·.1)).Nodup) : ∃ es' : List Ent, putK (es.map kvE) (.inr (S u)) z = es'.map kvE ∧ (es'.map (·.1)).Nodup ∧ (∀ e ∈ es', e ∈ es ∨ e = (u, g, z)) ∧ es'.length ≤ es.length + 1 ∧ ∀ t, look es' t = if u = t then some g else look es t := by
  by_cases h : u ∈ es.map (·.1)
  · refine ⟨es.map fun e => if e.1 = u then (u, g, z) else e, ?_, ?_, fun e he => ?_, by rw [List.length_map]; omega, fun t => ?_⟩
    · unfold putK
      rw [if_pos]
      · rw [List.map_map, List.map_map]
        refine List.map_congr_left fun e _ => ?_
        show (if (kvE e).1 = Sum.inr (S u) then ((kvE e).1, z) else kvE e) = kvE (if e.1 = u then (u, g, z) else e)
        by_cases q : e.1 = u
        · rw [if_pos q, if_pos (by rw [← q]; rfl), ← q]
          rfl
        · rw [if_neg q, if_neg (show ¬ (kvE e).1 = Sum.inr (S u) from fun w => q (S_one (Sum.inr.inj w)))]
      · obtain ⟨e, he, rfl⟩ := List.mem_map.mp h
        exact List.any_eq_true.mpr ⟨kvE e, List.mem_map_of_mem he, decide_eq_true rfl⟩
    · rw [List.map_map, show ((fun e : Ent => e.1) ∘ fun e : Ent => if e.1 = u then (u, g, z) else e) = fun e => e.1 from funext fun e => ?_]
      · exact nd
      · show (if e.1 = u then (u, g, z) else e).1 = e.1
        by_cases q : e.1 = u
        · rw [if_pos q, q]
        · rw [if_neg q]
    · obtain ⟨x, hx, rfl⟩ := List.mem_map.mp he
      by_cases q : x.1 = u
      · rw [if_pos q]
        exact .inr rfl
      · rw [if_neg q]
        exact .inl hx
    · clear nd
      induction es with
      | nil => cases h
      | cons x es ih =>
        unfold look at ih ⊢
        rw [List.map_cons, List.find?_cons, List.find?_cons]
        by_cases q : x.1 = u
        · rw [if_pos q]
          by_cases w : u = t
          · rw [decide_eq_true (show (u, g, z).1 = t from w), if_pos w]
            rfl
          · rw [decide_eq_false (show ¬ (u, g, z).1 = t from w), decide_eq_false (fun v => w (q ▸ v)), if_neg w]
            clear ih h
            have e2 : ∀ es : List Ent, ((es.map fun e => if e.1 = u then (u, g, z) else e).find? fun e => decide (e.1 = t)) = es.find? fun e => decide (e.1 = t) := by
              intro es
              induction es with
              | nil => rfl
              | cons y es ih =>
                rw [List.map_cons, List.find?_cons, List.find?_cons, ih]
                by_cases v : y.1 = u
                · rw [if_pos v, decide_eq_false (show ¬ (u, g, z).1 = t from w), decide_eq_false (fun v' => w (v ▸ v'))]
                · rw [if_neg v]
            show ((es.map fun e => if e.1 = u then (u, g, z) else e).find? fun e => decide (e.1 = t)).map _ = _
            rw [e2]
        · rw [if_neg q]
          by_cases w : x.1 = t
          · rw [decide_eq_true w, if_neg (fun v => q (w.trans v.symm))]
          · rw [decide_eq_false w]
            rcases List.mem_cons.mp h with h | h
            · exact absurd h.symm q
            · exact ih h
  · refine ⟨es ++ [(u, g, z)], ?_, ?_, fun e he => ?_, by rw [List.length_append]; exact Nat.le_refl _, fun t => look_snoc h t⟩
    · have hv : valV (es.map kvE) (.inr (S u)) = none := by
        rw [valK, Option.map_eq_none_iff, List.find?_eq_none]
        intro e he q
        exact h (of_decide_eq_true q ▸ List.mem_map_of_mem he)
      rw [putK_new _ hv, List.map_append]
      rfl
    · rw [List.map_append]
      exact nd_snoc nd h
    · rcases List.mem_append.mp he with he | he
      · exact .inl he
      · exact .inr (List.mem_singleton.mp he)
theorem g_dget {td ty : TE} {σ : L2.St} {H : Hp} {Q : VK} (k : td σ H fun x H1 => ty σ H1 fun y H2 => ∃ a v, x = V.ref a ∧ DGet H2 a y (some v) ∧ Q v H2) : tDGet td ty σ H Q := k
theorem dget_rd {H : Hp} {d : Addr} {es : List Ent} {e : Ent} (h : Rd H d (.dK (es.map kvE))) (nd : (es.map (·.1)).Nodup) (he : e ∈ es) : DGet H d (.str (S e.1)) (some e.2.2) :=
  .inl ⟨_, .inr (S e.1), h, rfl, by rw [valK, find_at nd he]; rfl⟩
theorem FilAt.same {CL : Addr} {H H' : Hp} {d : Addr} {es : List Ent} (h : FilAt CL H d es) (s : Same H H') : FilAt CL H' d es := ⟨s _ _ h.1, fun e he => (h.2.1 e he).same s, h.2.2⟩
theorem let_form9 {CL : Addr} {H : Hp} {x : V} {a : Fm} {Q : VK} {σ : L2.St} (l : LetAt CL H x a) (q : ∀ u, FmAt H u a → Q u H) : rCm CL "form" (spForm CL) tNil σ x H Q := by
  obtain ⟨p, dx, u, rfl, e, f⟩ := l
  exact ⟨p, dx, _, rfl, e, rfl, p, dx, u, rfl, e, q u f⟩
theorem nd_take {es : List Ent} (nd : (es.map (·.1)).Nodup) {i : Nat} {e : Ent} (he : es[i]? = some e) : e.1 ∉ (es.take i).map (·.1) := fun hin => by
  have hi : i < es.length := (List.getElem?_eq_some_iff.mp he).1
  have hie : es[i] = e := by
    rw [List.getElem?_eq_getElem hi] at he
    exact Option.some.inj he
  have hsp : es.map (·.1) = (es.take i).map (·.1) ++ e.1 :: (es.drop (i + 1)).map (·.1) := by
    rw [← List.map_cons (f := fun e : Ent => e.1), ← List.map_append, ← hie, ← List.drop_eq_getElem_cons hi, List.take_append_drop]
  rw [hsp] at nd
  exact (List.nodup_append.mp nd).2.2 _ hin _ List.mem_cons_self rfl
theorem put_snoc {es : List Ent} {e : Ent} (h : e.1 ∉ es.map (·.1)) : putK (es.map kvE) (.inr (S e.1)) e.2.2 = (es ++ [e]).map kvE := by
  have hv : valV (es.map kvE) (.inr (S e.1)) = none := by
    rw [valK, Option.map_eq_none_iff, List.find?_eq_none]
    intro x hx q
    exact h (of_decide_eq_true q ▸ List.mem_map_of_mem hx)
  rw [putK_new _ hv, List.map_append]
  rfl
theorem let_rcm {CL : Addr} {m : Str} {sp : Sp} {t : TA} {H : Hp} {x : V} {a : Fm} {Q : VK} {σ : L2.St} (hm : ([("shape", V.non)] : List (Str × V)).lookup m = none) (l : LetAt CL H x a) (k : t σ H fun vs H2 => sp (x :: vs) H2 Q E0) : rCm CL m sp t σ x H Q := by
  obtain ⟨p, dx, u, rfl, e, f⟩ := l
  refine ⟨p, dx, _, rfl, e, ?_, k⟩
  simp only [List.lookup] at hm ⊢
  cases h : m == ("shape" : Str) with
  | true =>
    rw [h] at hm
    cases hm
  | false => rfl
theorem g_lockS {t : TS} {D : Ends} {σ : L2.St} {H : Hp} {d : Addr} {kvs : List (Key × V)} (e : H d = some (.dK kvs)) (k : ∀ od, t ⟨fun σ' H' => H' d = some (.frz od (.dK kvs)) ∧ D.nx σ' (upd H' d (.dK kvs)), fun v H' => H' d = some (.frz od (.dK kvs)) ∧ D.rt v (upd H' d (.dK kvs)),
    fun σ' H' => H' d = some (.frz od (.dK kvs)) ∧ D.bk σ' (upd H' d (.dK kvs)), fun σ' H' => H' d = some (.frz od (.dK kvs)) ∧ D.ct σ' (upd H' d (.dK kvs))⟩ σ (upd H d (.frz od (.dK kvs)))) : tLock t D σ H := ⟨d, _, e, trivial, k⟩
theorem g_dput {td ty tv : TE} {D : Ends} {σ : L2.St} {H : Hp} (k : tv σ H fun v H1 => td σ H1 fun x H2 => ty σ H2 fun y H3 => ∃ a H4, x = V.ref a ∧ DPut H3 a y v H4 ∧ D.nx σ H4) : sDPut td ty tv D σ H := k
/-- first one filling, then another -/
def fol (es1 es2 : List Ent) (t : List Nat) : Option Fm := match look es1 t with
  | some g => some (g.fill (look es2))
  | none => look es2 t
theorem fol_snoc {es1 es2 : List Ent} {e : Ent} (h : e.1 ∉ es1.map (·.1)) (t : List Nat) : fol (es1 ++ [e]) es2 t = if e.1 = t then some (e.2.1.fill (look es2)) else fol es1 es2 t := by
  unfold fol
  rw [look_snoc h]
  by_cases z : e.1 = t
  · rw [if_pos z, if_pos z]
  · rw [if_neg z, if_neg z]
end Op

namespace Op
open PySem PySem.Spec PyProof.Rows L2 SX OpC RZ
local macro_rules | `(tactic| walk_at "go1") => `(tactic| first
  | ((with_reducible refine' g_var ?h ?_); (case h => rfl)) | with_reducible refine' g_c ?_ | with_reducible refine' g_op ?_ | with_reducible refine' g_un ?_ | with_reducible refine' g_if ?_ | with_reducible refine' g_test ?_ | with_reducible refine' g_B ?_ | with_reducible refine' g_bl ?_
  | with_reducible refine' g_not ?_ | with_reducible refine' g_and ?_ | with_reducible refine' g_or ?_ | with_reducible refine' g_andV ?_ | with_reducible refine' g_orV ?_ | with_reducible refine' g_notV ?_ | with_reducible refine' g_nil ?_ | with_reducible refine' g_cons ?_ | with_reducible refine' g_CB ?_ | with_reducible refine' g_ca ?_
  | with_reducible refine' g_seq ?_ | with_reducible refine' g_next ?_ | with_reducible refine' g_asg ?_ | with_reducible refine' g_name ?_ | with_reducible refine' g_ret ?_ | with_reducible refine' g_retN ?_ | with_reducible refine' g_drop ?_ | with_reducible refine' g_ifS ?_ | with_reducible refine' g_sub ?_
  | with_reducible refine' g_I0 ?_ | with_reducible refine' g_U ?_ | ((with_reducible refine' g_eq ?h ?_); (case h => rfl)) | ((with_reducible refine' g_ne ?h ?_); (case h => rfl))
  | ((with_reducible refine' g_lenL ?h ?_); (case h => first | assumption | exact SqL.of (by assumption) | exact SqL.of upd_same)) | ((with_reducible refine' g_lenT ?h ?_); (case h => first | assumption | exact SqT.of (by assumption) | exact SqT.of upd_same))
  | ((with_reducible refine' g_ixL ?h ?ha ?_); (case h => first | assumption | exact SqL.of (by assumption) | exact SqL.of upd_same); (case ha => rfl)) | ((with_reducible refine' g_ixT ?h ?ha ?_); (case h => first | assumption | exact SqT.of (by assumption) | exact SqT.of upd_same); (case ha => rfl))
  | ((with_reducible refine' g_I ?h ?_); (case h => first | decide | omega | (first | refine' ⟨?_, ?_, ?_⟩ | refine' ⟨?_, ?_⟩ | refine' Or.inl ⟨?_, ?_⟩) <;> omega | (refine' Or.inr ⟨?_, ?_⟩ <;> omega)))
  | ((with_reducible refine' g_setL ?h ?ha ?_); (case h => first | assumption | exact upd_same); (case ha => rfl))
  | with_reducible refine' g_lcR ?_
  | with_reducible refine' g_M1 ?_ | with_reducible refine' g_isS ?_ | with_reducible refine' g_tyS ?_ | ((with_reducible refine' g_tyL ?h ?_); (case h => first | assumption | exact upd_same))
  | ((with_reducible refine' g_cat ?h ?h2 ?hl ?_); (case h => first | assumption | exact upd_same); (case h2 => first | assumption | exact upd_same); (case hl => first | decide | (simp; omega)))
  | with_reducible refine' g_lcS ?_
  | with_reducible refine' g_starts ?_ | with_reducible refine' g_chain ?_
  | ((with_reducible refine' g_lenS ?h ?_); (case h => first | exact len_le (by assumption) | exact len_le (by omega))) | ((with_reducible refine' g_rstrip ?h ?_); (case h => first | exact len_le (by assumption) | exact len_le (by omega))) | ((with_reducible refine' g_slX ?h ?_); (case h => first | exact len_le (by assumption) | exact len_le (by omega)))
  | with_reducible refine' g_sl ?_ | with_reducible refine' g_nopart ?_ | with_reducible refine' g_part ?_ | with_reducible refine' g_isI ?_
  | with_reducible refine' g_tru ?_
  | with_reducible refine' iteT ?_ | with_reducible refine' iteF ?_ | with_reducible refine' iteNT ?_ | with_reducible refine' iteNF ?_
  | with_reducible refine' g_int ?_ | with_reducible refine' g_insg ?_ | with_reducible refine' g_ninsg ?_ | with_reducible refine' g_isN ?_ | with_reducible refine' g_notN ?_ | with_reducible refine' g_lst ?_ | with_reducible refine' g_tup ?_ | with_reducible refine' g_BM ?_ | with_reducible refine' g_BM0 ?_)
local macro_rules | `(tactic| walk_at "go") => `(tactic| repeat' walk_at "go1")
local macro_rules | `(tactic| walk_at "go2") => `(tactic| repeat' (first | walk_at "go1" | with_reducible refine' g_cm ?_ | with_reducible refine' g_mk ?_ | with_reducible refine' g_for ?_ | ((with_reducible refine' g_rcm ?h ?ha ?_); (case h => first | assumption | exact upd_same); (case ha => first | rfl | decide | simp [List.lookup]))))
/- macro2 -/
local macro_rules | `(tactic| walk_at "go3a") => `(tactic| first
  | walk_at "go1" | with_reducible refine' g_cm ?_ | with_reducible refine' g_mk ?_ | with_reducible refine' g_for ?_ | with_reducible refine' g_fld ?_ | with_reducible refine' g_lcT0 ?_
  | ((with_reducible refine' g_rcm ?h ?ha ?_); (case h => first | assumption | exact upd_same); (case ha => first | rfl | decide | simp [List.lookup]))
  | ((with_reducible refine' g_shape ?hc ?hn ?h ?_); (case hc => assumption); (case hn => assumption); (case h => first | assumption | exact upd_same | (rw [upd_ne (by assumption)]; assumption))))
local macro_rules | `(tactic| walk_at "go3") => `(tactic| repeat' walk_at "go3a")
local macro_rules | `(tactic| walk_at "go4") => `(tactic| repeat' (first
  | walk_at "go3a" | ((with_reducible refine' iteDT ?h ?_); (case h => first | rfl | decide +kernel)) | ((with_reducible refine' iteDF ?h ?_); (case h => decide +kernel))))
/-! ## list(zip(a tuple, a tuple)) -/
section
variable {prog : Program} {w : World} {A : Around} {E : Value → Shared → Prop} {s : Shared}
/-- how the zip at c goes on: its two walks at place j -/
structure ZtAt (h : Heap) (c d e m1 m2 a b : Addr) (us vs : Array Value) (j : Nat) : Prop where
  way : IsZip h c d e .none ∨ ∃ g f og, IsZipHeld h c d e g f ∧ h.get? g = some og ∧ g ≠ c ∧ g ≠ e ∧ g ≠ m1 ∧ g ≠ m2
  two : IsPair h d (.ref m1) (.ref m2)
  own : ∃ x y, IsPair h e x y
  w1 : h.IsTupleIter m1 a j
  w2 : h.IsTupleIter m2 b j
  ta : h.IsTuple a us
  tb : h.IsTuple b vs
theorem ZtAt.ty {c d e m1 m2 a b : Addr} {us vs : Array Value} {j : Nat} (t : ZtAt s.heap c d e m1 m2 a b us vs j) : s.TypeIs (.ref c) "zip" := by
  rcases t.way with h | ⟨g, f, og, h, _⟩
  · exact ⟨_, h, rfl⟩
  · exact ⟨_, h, rfl⟩
/-- what else may change -/
theorem ZtAt.keep {h h' : Heap} {c d e m1 m2 a b : Addr} {us vs : Array Value} {j : Nat} {S : Addr} (t : ZtAt h c d e m1 m2 a b us vs j) (n : ∀ g, S ≠ g → True) (k : ∀ x o, x ≠ S → h.get? x = some o → h'.get? x = some o)
    (n1 : c ≠ S) (n2 : d ≠ S) (n3 : e ≠ S) (n4 : m1 ≠ S) (n5 : m2 ≠ S) (n6 : a ≠ S) (n7 : b ≠ S) (n8 : ∀ g f, IsZipHeld h c d e g f → g ≠ S) : ZtAt h' c d e m1 m2 a b us vs j := by
  obtain ⟨r, p, ⟨x, y, o⟩, i1, i2, t1, t2⟩ := t
  refine ⟨?_, k _ _ n2 p, ⟨x, y, k _ _ n3 o⟩, i1.at fun o => k _ o n4, i2.at fun o => k _ o n5, ?_, ?_⟩
  · rcases r with h | ⟨g, f, og, h1, h2, h3⟩
    · exact .inl (k _ _ n1 h)
    · exact .inr ⟨g, f, og, k _ _ n1 h1, k _ _ (n8 g f h1) h2, h3⟩
  · obtain ⟨o, h1, h2⟩ := t1
    exact ⟨o, k _ _ n6 h1, h2⟩
  · obtain ⟨o, h1, h2⟩ := t2
    exact ⟨o, k _ _ n7 h1, h2⟩
theorem zt_held {c d e g m1 m2 a b : Addr} {f : Bool} {og : Obj} {j : Nat} {us vs : Array Value} {u v : Value} {Q : Value → Shared → Prop} (D : ZipApart c d e m1 m2 a b)
    (iz : IsZipHeld s.heap c d e g f) (ig : s.heap.get? g = some og) (ip : IsPair s.heap d (.ref m1) (.ref m2)) (i1 : s.heap.IsTupleIter m1 a j) (i2 : s.heap.IsTupleIter m2 b j) (ta : s.heap.IsTuple a us) (tb : s.heap.IsTuple b vs)
    (eu : us[j]? = some u) (ev : vs[j]? = some v)
    (q : ∀ h', IsZipHeld h' c d e g true → h'.IsTupleIter m1 a (j + 1) → h'.IsTupleIter m2 b (j + 1) → IsPair h' s.heap.objs.size u v → h'.objs.size = s.heap.objs.size + 1 →
      (∀ x o, x ≠ c → x ≠ m1 → x ≠ m2 → s.heap.get? x = some o → h'.get? x = some o) → Q (.ref s.heap.objs.size) { s with heap := h' }) :
    wpAny (model prog w) A (Builtin.«zip.__next__» ⟨[.ref c], []⟩) (fun r s' => ∃ y, r = .done (.ret y) ∧ Q y s') E s := by
  show wpAny _ _ (field (.ref c) 2 >>= _) _ _ _
  refine wpAny_bind (wpAny_field iz rfl (x := .bool false) rfl ?_)
  show wpAny _ _ (field (.ref c) 3 >>= _) _ _ _
  refine wpAny_bind (wpAny_field iz rfl (x := .ref d) rfl ?_)
  refine wpAny_bind (wpAny_seqItems ip rfl ?_)
  show wpAny _ _ (Builtin.SmallTypes.ownedTupleIsFree (.ref c) >>= _) _ _ _
  refine wpAny_bind (wpAny_tupleHeld_zip iz ig fun h1 z1 s1 => ?_)
  simp only [Bool.false_eq_true, if_false]
  refine wpAny_bind ?_
  rw [← Array.forIn_toList]
  simp only [List.forIn_cons, List.forIn_nil]
  refine wpAny_bind (wpAny_bind (wpAny_holding ?_))
  show wpAny _ _ (Builtin.SmallTypes.nextOf (.ref m1) >>= _) _ _ _
  refine wpAny_bind (nextOf_tuple_item (s := { s with heap := h1 }) (i1.extBut s1.extBut D.i1z) (ta.extBut s1.extBut D.l1z) eu fun h2 j1 s2 => wpAny_pure ?_)
  refine wpAny_pure ?_
  refine wpAny_bind (wpAny_bind (wpAny_holding ?_))
  show wpAny _ _ (Builtin.SmallTypes.nextOf (.ref m2) >>= _) _ _ _
  refine wpAny_bind (nextOf_tuple_item (s := { s with heap := h2 }) ((i2.extBut s1.extBut D.i2z).extBut s2.extBut D.i12.symm) ((tb.extBut s1.extBut D.l2z).extBut s2.extBut D.l2i1) ev fun h3 j2 s3 => wpAny_pure ?_)
  refine wpAny_pure (wpAny_pure ?_)
  show wpAny _ _ (newTuple [u, v] >>= _) _ _ _
  refine wpAny_bind (wpAny_newTuple ?_)
  have sz : h3.objs.size = s.heap.objs.size := by rw [s3.1, s2.1, s1.1]
  have z3 : IsZipHeld h3 c d e g true := s3.extBut _ _ D.i2z.symm (s2.extBut _ _ D.i1z.symm z1)
  have kp : ∀ x o, x ≠ c → x ≠ m1 → x ≠ m2 → s.heap.get? x = some o → h3.get? x = some o := fun x o n1 n2 n3 h => s3.extBut _ _ n3 (s2.extBut _ _ n2 (s1.extBut _ _ n1 h))
  have j13 : h3.IsTupleIter m1 a (j + 1) := j1.extBut s3.extBut D.i12
  refine wpAny_pure ⟨_, rfl, ?_⟩
  show Q (.ref h3.objs.size) _
  have pp : IsPair (h3.push { cls := .type "tuple", data := .seq #[u, v] }) h3.objs.size u v := Heap.get?_push_size _ rfl
  have sz2 : (h3.push { cls := .type "tuple", data := .seq #[u, v] }).objs.size = h3.objs.size + 1 := Heap.size_push ..
  rw [sz] at pp sz2 ⊢
  exact q _ (Heap.get?_push_of_some _ z3) (j13.at fun o h => Heap.get?_push_of_some _ h) (j2.at fun o h => Heap.get?_push_of_some _ h) pp sz2 fun x o n1 n2 n3 h => Heap.get?_push_of_some _ (kp x o n1 n2 n3 h)
theorem zt_stop {c d e g m1 m2 a b : Addr} {f : Bool} {og : Obj} {j : Nat} {us : Array Value} {Q : Fin → Shared → Prop} (hh : A.handled = none) (D : ZipApart c d e m1 m2 a b)
    (iz : IsZipHeld s.heap c d e g f) (ig : s.heap.get? g = some og) (ip : IsPair s.heap d (.ref m1) (.ref m2)) (i1 : s.heap.IsTupleIter m1 a j) (ta : s.heap.IsTuple a us) (eu : us[j]? = none)
    (q : ∀ h' t, (∀ x o, x ≠ c → x ≠ m1 → s.heap.get? x = some o → h'.get? x = some o) → (∃ o, h'.get? t = some o ∧ o.cls = .type "StopIteration") → E (.ref t) { s with heap := h' }) :
    wpAny (model prog w) A (Builtin.«zip.__next__» ⟨[.ref c], []⟩) Q E s := by
  show wpAny _ _ (field (.ref c) 2 >>= _) _ _ _
  refine wpAny_bind (wpAny_field iz rfl (x := .bool false) rfl ?_)
  show wpAny _ _ (field (.ref c) 3 >>= _) _ _ _
  refine wpAny_bind (wpAny_field iz rfl (x := .ref d) rfl ?_)
  refine wpAny_bind (wpAny_seqItems ip rfl ?_)
  show wpAny _ _ (Builtin.SmallTypes.ownedTupleIsFree (.ref c) >>= _) _ _ _
  refine wpAny_bind (wpAny_tupleHeld_zip iz ig fun h1 z1 s1 => ?_)
  simp only [Bool.false_eq_true, if_false]
  refine wpAny_bind ?_
  rw [← Array.forIn_toList]
  simp only [List.forIn_cons, List.forIn_nil]
  refine wpAny_bind (wpAny_bind (wpAny_holding ?_))
  show wpAny _ _ (Builtin.SmallTypes.nextOf (.ref m1) >>= _) _ _ _
  refine wpAny_bind (nextOf_tuple_end (s := { s with heap := h1 }) hh (i1.extBut s1.extBut D.i1z) (ta.extBut s1.extBut D.l1z) eu fun h2 t s2 ht => ?_)
  exact q h2 t (fun x o n1 n2 h => s2 _ _ n2 (s1.extBut _ _ n1 h)) ht
theorem held_inj {h : Heap} {c d e g g' : Addr} {f f' : Bool} (h1 : IsZipHeld h c d e g f) (h2 : IsZipHeld h c d e g' f') : g = g' := by
  have := h1.symm.trans h2
  simp [rawInt] at this
  exact Int.ofNat.inj this.1
/-- the next pair -/
theorem zt_next {c d e m1 m2 a b : Addr} {j : Nat} {us vs : Array Value} {u v : Value} {Q : Option Value → Shared → Prop} (D : ZipApart c d e m1 m2 a b) (t : ZtAt s.heap c d e m1 m2 a b us vs j) (eu : us[j]? = some u) (ev : vs[j]? = some v)
    (q : ∀ h', ZtAt h' c d e m1 m2 a b us vs (j + 1) → (∀ g f, IsZipHeld h' c d e g f → g = s.heap.objs.size ∨ ∃ f', IsZipHeld s.heap c d e g f') → IsPair h' s.heap.objs.size u v → h'.objs.size = s.heap.objs.size + 1 → (∀ x o, x ≠ c → x ≠ e → x ≠ m1 → x ≠ m2 → s.heap.get? x = some o → h'.get? x = some o) → Q (some (.ref s.heap.objs.size)) { s with heap := h' }) :
    wpAny (model prog w) A (pyNext (.ref c)) Q E s := by
  have ht := t.ty
  obtain ⟨r, p, ⟨x, y, o⟩, i1, i2, t1, t2⟩ := t
  have lt : ∀ {g : Addr} {og : Obj}, s.heap.get? g = some og → s.heap.objs.size ≠ g := fun h => Nat.ne_of_gt (Heap.lt_size h)
  have l1 : s.heap.objs.size ≠ m1 := by obtain ⟨_, h, _⟩ := i1; exact lt h
  have l2 : s.heap.objs.size ≠ m2 := by obtain ⟨_, h, _⟩ := i2; exact lt h
  have l3 : s.heap.objs.size ≠ e := lt o
  have l4 : s.heap.objs.size ≠ c := by
    rcases r with h | ⟨_, _, _, h, _⟩
    · exact lt h
    · exact lt h
  have tt : ∀ {l : Addr} {xs : Array Value} {h' : Heap}, s.heap.IsTuple l xs → (∀ x o, x ≠ c → x ≠ e → x ≠ m1 → x ≠ m2 → s.heap.get? x = some o → h'.get? x = some o) → l ≠ c → l ≠ e → l ≠ m1 → l ≠ m2 → h'.IsTuple l xs := fun h k n1 n2 n3 n4 => by
    obtain ⟨o, h1, h2⟩ := h
    exact ⟨o, k _ _ n1 n2 n3 n4 h1, h2⟩
  rcases r with h | ⟨g, f, og, h, hg, g1, g2, g3, g4⟩
  · refine pyNext_zipT_item D h p o i1 i2 t1 t2 eu ev fun h' z1 z2 z3 z4 z5 z6 z7 => ?_
    exact q h' ⟨.inr ⟨s.heap.objs.size, false, _, z1, z5, l4, l3, l1, l2⟩, z7 _ _ D.TIz D.TITO D.TIi1 D.TIi2 p, ⟨_, _, z2⟩, z3, z4, tt t1 z7 D.l1z D.l1TO D.l1i1 D.l1i2, tt t2 z7 D.l2z D.l2TO D.l2i1 D.l2i2⟩ (fun g f hg => .inl (held_inj hg z1)) z5 z6 z7
  · unfold pyNext
    refine wpAny_bind (wpAny_attempt (wpAny_callSpecial?_slot (name := Str.ofString "__next__") ht F.slot_zip_next (wpAny_call_entry F.slot_zip_next ht F.entry_zip_next
      (zt_held D h hg p i1 i2 t1 t2 eu ev fun h' z1 z3 z4 z5 z6 z7 => wpAny_pure ?_) (F.args_zip_next_1 _))))
    have z8 : ∀ x o, x ≠ c → x ≠ e → x ≠ m1 → x ≠ m2 → s.heap.get? x = some o → h'.get? x = some o := fun x o n1 _ n3 n4 hx => z7 x o n1 n3 n4 hx
    exact q h' ⟨.inr ⟨g, true, og, z1, z7 _ _ g1 g3 g4 hg, g1, g2, g3, g4⟩, z7 _ _ D.TIz D.TIi1 D.TIi2 p, ⟨_, _, z7 _ _ D.TOz D.TOi1 D.TOi2 o⟩, z3, z4, tt t1 z8 D.l1z D.l1TO D.l1i1 D.l1i2, tt t2 z8 D.l2z D.l2TO D.l2i1 D.l2i2⟩ (fun g' f' hg' => .inr ⟨f, held_inj z1 hg' ▸ h⟩) z5 z6 z8
theorem zt_end {c d e m1 m2 a b : Addr} {j : Nat} {us vs : Array Value} {Q : Option Value → Shared → Prop} (hh : A.handled = none) (D : ZipApart c d e m1 m2 a b) (t : ZtAt s.heap c d e m1 m2 a b us vs j) (eu : us[j]? = none)
    (q : ∀ h', (∀ x o, x ≠ c → x ≠ e → x ≠ m1 → x ≠ m2 → s.heap.get? x = some o → h'.get? x = some o) → Q none { s with heap := h' }) : wpAny (model prog w) A (pyNext (.ref c)) Q E s := by
  have ht := t.ty
  obtain ⟨r, p, ⟨x, y, o⟩, i1, i2, t1, t2⟩ := t
  rcases r with h | ⟨g, f, og, h, hg, g1, g2, g3, g4⟩
  · exact pyNext_zipT_end hh D h p o i1 i2 t1 t2 (.inl eu) q
  · unfold pyNext
    refine wpAny_bind (wpAny_attempt (wpAny_callSpecial?_slot (name := Str.ofString "__next__") ht F.slot_zip_next (wpAny_call_entry F.slot_zip_next ht F.entry_zip_next
      (zt_stop hh D h hg p i1 t1 eu fun h' t k ht => ?_) (F.args_zip_next_1 _))))
    obtain ⟨ot, h1, h2⟩ := ht
    refine wpAny_bind (wpAny_isInstance (T := "StopIteration") (b := true) ⟨ot, h1, h2⟩ isSubtype_stop ?_)
    exact wpAny_pure (q _ fun x o n1 _ n3 _ hx => k x o n1 n3 hx)
/-- the pairs of us, vs stand at acc, each at a place of its own, from n0 on -/
structure Zs (n0 : Nat) (h : Heap) (acc : Array Value) (us vs : Array Value) : Prop where
  here : ∀ (i : Nat) (p : Value), acc[i]? = some p → ∃ t u v, p = .ref t ∧ us[i]? = some u ∧ vs[i]? = some v ∧ IsPair h t u v
  inj : ∀ (i j : Nat) (t : Addr), acc[i]? = some (Value.ref t) → acc[j]? = some (Value.ref t) → i = j
  lo : ∀ (i : Nat) (t : Addr), acc[i]? = some (Value.ref t) → n0 ≤ t
theorem Zs.keep {n0 : Nat} {h h' : Heap} {acc us vs : Array Value} (z : Zs n0 h acc us vs) (k : ∀ t, (∃ i : Nat, acc[i]? = some (Value.ref t)) → ∀ o, h.get? t = some o → h'.get? t = some o) : Zs n0 h' acc us vs := ⟨fun i p e => by
  obtain ⟨t, u, v, rfl, e1, e2, e3⟩ := z.here i p e
  exact ⟨t, u, v, rfl, e1, e2, k t ⟨i, e⟩ _ e3⟩, z.inj, z.lo⟩
theorem zt_loop {n0 : Nat} {c d e m1 m2 a b S : Addr} {us vs : Array Value} {res : Value} {R : Result → Shared → Prop} (hh : A.handled = none) (D : ZipApart c d e m1 m2 a b) (hl : us.size = vs.size) (hz : us.size ≤ 1000)
    (n1 : c ≠ S) (n2 : d ≠ S) (n3 : e ≠ S) (n4 : m1 ≠ S) (n5 : m2 ≠ S) (n6 : a ≠ S) (n7 : b ≠ S) :
    ∀ (k j : Nat) (s : Shared) (acc : Array Value) (cap : Nat), n0 ≤ s.heap.objs.size → us.size - j = k → j ≤ us.size → ZtAt s.heap c d e m1 m2 a b us vs j → (∀ g f, IsZipHeld s.heap c d e g f → g ≠ S) →
    s.heap.get? S = some { cls := .type "list", dict := none, data := .seq acc cap, slots := #[] } → acc.size = j → Zs n0 s.heap acc us vs → (∀ t, (∃ i : Nat, acc[i]? = some (Value.ref t)) → t ≠ c ∧ t ≠ e ∧ t ≠ m1 ∧ t ≠ m2 ∧ t ≠ S) →
    (∀ h' acc' cap', (∀ x o, x ≠ c → x ≠ e → x ≠ m1 → x ≠ m2 → x ≠ S → s.heap.get? x = some o → h'.get? x = some o) → h'.get? S = some { cls := .type "list", dict := none, data := .seq acc' cap', slots := #[] } → acc'.size = us.size → Zs n0 h' acc' us vs →
      R (.ok (.ret res)) { s with heap := h' }) →
    codeAny (model prog w) A (.builtin "list.extend.loop" ⟨[.ref S, .ref c, res], []⟩) R s := by
  intro k
  induction k with
  | zero =>
    intro j s acc cap hn0 hk hj t hg hS hsz hp hn q
    have e1 : us[j]? = none := by
      rw [Array.getElem?_eq_none_iff]
      omega
    refine codeAny_builtin (F.entry_extend_loop) ?_
    rw [Around.under_plainId (F.plain_extend_loop) _]
    show wpAny _ A.in1 (pyNext (.ref c) >>= _) _ _ s
    refine wpAny_bind (zt_end hh D t e1 fun h' k => ?_)
    refine wpAny_pure (q h' acc cap (fun x o x1 x2 x3 x4 _ hx => k x o x1 x2 x3 x4 hx) (k _ _ n1.symm n3.symm n4.symm n5.symm hS) (by omega) (hp.keep fun t ht o ho => ?_))
    obtain ⟨y1, y2, y3, y4, _⟩ := hn t ht
    exact k _ _ y1 y2 y3 y4 ho
  | succ k ih =>
    intro j s acc cap hn0 hk hj t hg hS hsz hp hn q
    have jl : j < us.size := by omega
    refine codeAny_builtin (F.entry_extend_loop) ?_
    rw [Around.under_plainId (F.plain_extend_loop) _]
    show wpAny _ A.in1 (pyNext (.ref c) >>= _) _ _ s
    have lt : ∀ {g : Addr} {og : Obj}, s.heap.get? g = some og → s.heap.objs.size ≠ g := fun h => Nat.ne_of_gt (Heap.lt_size h)
    have t0 := t
    obtain ⟨r0, p0, ⟨x0, y0, o0⟩, i10, i20, t10, t20⟩ := t0
    have l1 : s.heap.objs.size ≠ m1 := by obtain ⟨_, h, _⟩ := i10; exact lt h
    have l2 : s.heap.objs.size ≠ m2 := by obtain ⟨_, h, _⟩ := i20; exact lt h
    have l3 : s.heap.objs.size ≠ e := lt o0
    have l4 : s.heap.objs.size ≠ c := by
      rcases r0 with h | ⟨_, _, _, h, _⟩
      · exact lt h
      · exact lt h
    have l5 : s.heap.objs.size ≠ S := lt hS
    have eu := Array.getElem?_eq_getElem jl
    have ev := Array.getElem?_eq_getElem (show j < vs.size by omega)
    refine wpAny_bind (zt_next D t eu ev fun h' t1 hg1 pp sz kk => ?_)
    have hS1 := kk _ _ n1.symm n3.symm n4.symm n5.symm hS
    show wpAny _ A.in1 (updateSeq S (·.push (.ref s.heap.objs.size)) >>= _) _ _ _
    refine wpAny_bind ?_
    have oth : ∀ x o, x ≠ S → h'.get? x = some o → (h'.update S (Obj.mapSeq (·.push (Value.ref s.heap.objs.size)))).get? x = some o := fun x o nx hx => (Heap.get?_update_other _ _ (Ne.symm nx)).trans hx
    have hgS : ∀ g f, IsZipHeld h' c d e g f → g ≠ S := fun g f hgf => by
      rcases hg1 g f hgf with rfl | ⟨f', h⟩
      · exact l5
      · exact hg g f' h
    have hacc : ∀ (i : Nat) (p : Value), (acc.push (.ref s.heap.objs.size))[i]? = some p → (i < acc.size ∧ acc[i]? = some p) ∨ (i = acc.size ∧ p = .ref s.heap.objs.size) := fun i p hi => by
      rw [Array.getElem?_push] at hi
      by_cases hz : i = acc.size
      · rw [if_pos hz] at hi
        exact .inr ⟨hz, (Option.some.inj hi).symm⟩
      · rw [if_neg hz] at hi
        exact .inl ⟨(Array.getElem?_eq_some_iff.mp hi).1, hi⟩
    refine wpAny_updateSeq (s := { s with heap := h' }) hS1 rfl (wpAny_pure ⟨plainId_quiet (F.plain_extend_loop) _, ih (j + 1) _ (acc.push (.ref s.heap.objs.size)) _ ?_ (by omega) jl ?_ ?_ (Heap.get?_update_self _ hS1 rfl) (by rw [Array.size_push, hsz]) ?_ ?_ fun h2 acc2 cap2 k2 hS2 hz2 hp2 => ?_⟩)
      (by rw [hsz]; have : sizeLine = 16777216 := rfl; omega) (by show (acc.push _).size ≤ sizeLine + 1; rw [Array.size_push, hsz]; have : sizeLine = 16777216 := rfl; omega)
    · show n0 ≤ (h'.update S _).objs.size
      rw [Heap.size_update, sz]
      omega
    · exact t1.keep (S := S) (fun _ _ => trivial) oth n1 n2 n3 n4 n5 n6 n7 hgS
    · intro g f hgf
      refine hgS g f ?_
      have := (Heap.get?_update_other (h := h') (Obj.mapSeq (·.push (Value.ref s.heap.objs.size))) (a := S) (b := c) n1.symm).symm.trans hgf
      exact this
    · refine ⟨fun i p hi => ?_, fun i i' t' hi hi' => ?_, fun i t' hi => ?_⟩
      · rcases hacc i p hi with ⟨hlt, hi⟩ | ⟨rfl, rfl⟩
        · obtain ⟨t', u', v', rfl, e1, e2, e3⟩ := hp.here i p hi
          obtain ⟨y1, y2, y3, y4, y5⟩ := hn t' ⟨i, hi⟩
          exact ⟨t', u', v', rfl, e1, e2, oth _ _ y5 (kk _ _ y1 y2 y3 y4 e3)⟩
        · rw [hsz]
          exact ⟨_, _, _, rfl, eu, ev, oth _ _ l5 pp⟩
      · have old : ∀ (i : Nat), acc[i]? = some (Value.ref t') → t' ≠ s.heap.objs.size := fun i hi z => by
          obtain ⟨t2, u', v', q2, _, _, e3⟩ := hp.here i _ hi
          injection q2 with q2
          rw [← q2, z] at e3
          exact lt e3 rfl
        rcases hacc i _ hi with ⟨_, h1⟩ | ⟨z1, h1⟩
        · rcases hacc i' _ hi' with ⟨_, h2⟩ | ⟨z2, h2⟩
          · exact hp.inj _ _ _ h1 h2
          · injection h2 with h2
            exact absurd h2 (old i h1)
        · rcases hacc i' _ hi' with ⟨_, h2⟩ | ⟨z2, h2⟩
          · injection h1 with h1
            exact absurd h1 (old i' h2)
          · rw [z1, z2]
      · rcases hacc i _ hi with ⟨_, h1⟩ | ⟨_, h1⟩
        · exact hp.lo i t' h1
        · injection h1 with h1
          rw [h1]
          exact hn0
    · rintro t' ⟨i, hi⟩
      rcases hacc i _ hi with ⟨hlt, hi⟩ | ⟨_, hi⟩
      · exact hn t' ⟨i, hi⟩
      · injection hi with hi
        rw [hi]
        exact ⟨l4, l3, l1, l2, l5⟩
    · refine q h2 acc2 cap2 (fun x o x1 x2 x3 x4 x5 hx => ?_) hS2 hz2 hp2
      exact k2 x o x1 x2 x3 x4 x5 (oth _ _ x5 (kk _ _ x1 x2 x3 x4 hx))
theorem zip_nolen : typeLookup (.type "zip") "__len__" = pure none := am_miss_of_fast (by decide +kernel)
theorem zip_nohint : typeLookup (.type "zip") "__length_hint__" = pure none := am_miss_of_fast (by decide +kernel)
theorem zt_self {c d e m1 m2 a b : Addr} {us vs : Array Value} {j : Nat} {Q : Value → Shared → Prop} (t : ZtAt s.heap c d e m1 m2 a b us vs j) (q : Q (.ref c) s) : wpAny (model prog w) A (pyIter (.ref c)) Q E s := by
  have ht := t.ty
  rcases t.way with h | ⟨g, f, og, h, _⟩
  · exact wpAny_pyIter_zip h q
  · refine wpAny_pyIter_slot ht F.slot_zip_iter (wpAny_call_entry F.slot_zip_iter ht F.entry_zip_iter ?_ (F.args_zip_iter_1 _))
    show wpAny _ _ (ret (.ref c)) _ _ s
    exact wpAny_pure ⟨_, rfl, "zip", _, ht, F.slot_zip_next.lookup, q⟩
theorem zt_list {c d e m1 m2 a b : Addr} {us vs : Array Value} {Q : Value → Shared → Prop} (hh : A.handled = none) (D : ZipApart c d e m1 m2 a b) (hl : us.size = vs.size) (hz : us.size ≤ 1000) (t : ZtAt s.heap c d e m1 m2 a b us vs 0)
    (q : ∀ h' acc cap, (∀ x o, x ≠ c → x ≠ e → x ≠ m1 → x ≠ m2 → s.heap.get? x = some o → h'.get? x = some o) → h'.get? s.heap.objs.size = some { cls := .type "list", dict := none, data := .seq acc cap, slots := #[] } → acc.size = us.size → Zs s.heap.objs.size h' acc us vs →
      Q (.ref s.heap.objs.size) { s with heap := h' }) : wpAny (model prog w) A (call (.type "list") [.ref c]) Q E s := by
  have t0 := t
  obtain ⟨r, p, ⟨x0, y0, o⟩, i1, i2, ta, tb⟩ := t0
  have lt : ∀ {g : Addr} {og : Obj}, s.heap.get? g = some og → g ≠ s.heap.objs.size := fun h => Nat.ne_of_lt (Heap.lt_size h)
  have n1 : c ≠ s.heap.objs.size := by
    rcases r with h | ⟨_, _, _, h, _⟩
    · exact lt h
    · exact lt h
  have n2 : d ≠ s.heap.objs.size := lt p
  have n3 : e ≠ s.heap.objs.size := lt o
  have n4 : m1 ≠ s.heap.objs.size := by obtain ⟨_, h, _⟩ := i1; exact lt h
  have n5 : m2 ≠ s.heap.objs.size := by obtain ⟨_, h, _⟩ := i2; exact lt h
  have n6 : a ≠ s.heap.objs.size := by obtain ⟨_, h, _⟩ := ta; exact lt h
  have n7 : b ≠ s.heap.objs.size := by obtain ⟨_, h, _⟩ := tb; exact lt h
  have n8 : ∀ g f, IsZipHeld s.heap c d e g f → g ≠ s.heap.objs.size := fun g f h => by
    rcases r with h0 | ⟨g', f', og, h0, hg, _⟩
    · have := h0.symm.trans h
      simp [rawInt] at this
    · rw [held_inj h h0]
      exact lt hg
  have lt5 : ∀ x o, s.heap.get? x = some o → x ≠ s.heap.objs.size := fun x o h => Nat.ne_of_lt (Heap.lt_size h)
  generalize hS : s.heap.objs.size = S at *
  refine callType_codes (Q₁ := fun obj s1 => obj = .ref S ∧ s1 = { s with heap := s.heap.push { cls := .type "list", data := .seq #[] } }) F.called_list (F.typeCall_list_1 _) F.entry_list_init
    (code_list_new _ ⟨by rw [hS], rfl⟩) fun obj s1 h1 => ?_
  obtain ⟨rfl, rfl⟩ := h1
  have eS : (s.heap.push { cls := .type "list", data := .seq #[] }).get? S = some { cls := .type "list", data := .seq #[] } := by rw [← hS]; exact Heap.get?_push_size _ rfl
  have k0 : ∀ x o, s.heap.get? x = some o → (s.heap.push { cls := .type "list", data := .seq #[] }).get? x = some o := fun x o h => Heap.get?_push_of_some _ h
  refine ⟨⟨_, eS, rfl⟩, F.args_list_init_2 _ _, ?_⟩
  show wpAny _ A.in1.in1 (do let was ← Builtin.List.listItems (.ref S); Builtin.List.listUpdate (.ref S) (fun _ => #[]); letGo was.toList.reverse; Builtin.List.listExtendWith (.ref S) (.ref c) .none) _ _ _
  refine wpAny_bind ?_
  unfold Builtin.List.listItems
  refine wpAny_bind (wpAny_seqItems eS rfl (wpAny_pure ?_))
  show wpAny _ A.in1.in1 (updateSeq S (fun _ => #[]) >>= fun _ => letGo (#[] : Array Value).toList.reverse >>= fun _ => Builtin.List.listExtendWith (.ref S) (.ref c) .none) _ _ _
  refine wpAny_bind (wpAny_updateSeq eS rfl ?_)
  have eS2 := Heap.get?_update_self (Obj.mapSeq (fun _ => (#[] : Array Value))) eS rfl
  have k1 : ∀ x o, x ≠ S → s.heap.get? x = some o → ((s.heap.push { cls := .type "list", data := .seq #[] }).update S (Obj.mapSeq (fun _ => (#[] : Array Value)))).get? x = some o := fun x o n h => (Heap.get?_update_other _ _ (Ne.symm n)).trans (k0 x o h)
  generalize ((s.heap.push { cls := .type "list", data := .seq #[] }).update S (Obj.mapSeq (fun _ => (#[] : Array Value)))) = h2 at eS2 k1 ⊢
  refine wpAny_bind (wpAny_letGo ?_)
  have t2 : ZtAt h2 c d e m1 m2 a b us vs 0 := t.keep (S := S) (fun _ _ => trivial) k1 n1 n2 n3 n4 n5 n6 n7 n8
  unfold Builtin.List.listExtendWith
  refine wpAny_bind (wpAny_typeOf (ZtAt.ty (s := { s with heap := h2 }) t2) ?_)
  have c1 : Builtin.List.listSameRef (.ref S) (.ref c) = false := by simp [Builtin.List.listSameRef, n1.symm]
  have c2 : (Value.type "zip" == Value.type "list") = false := by decide
  have c3 : (Value.type "zip" == Value.type "tuple") = false := by decide
  simp only [c1, c2, c3, Bool.or_false, Bool.false_eq_true, if_false]
  refine wpAny_bind (zt_self (s := { s with heap := h2 }) t2 ?_)
  refine wpAny_bind (wpAny_holding ?_)
  unfold Builtin.List.listLengthHint
  refine wpAny_bind (wpAny_specialOf (ZtAt.ty (s := { s with heap := h2 }) t2) zip_nolen ?_)
  show wpAny _ A.in1.in1 (specialOf (Value.ref c) (Str.ofString "__length_hint__") >>= _) _ _ _
  refine wpAny_bind (wpAny_specialOf (ZtAt.ty (s := { s with heap := h2 }) t2) zip_nohint ?_)
  refine wpAny_pure ?_
  show wpAny _ A.in1.in1 (rule "list.extend.makes-room" >>= fun _ => Builtin.List.listTouch (.ref S) >>= fun _ => again (.builtin "list.extend.loop" ⟨[.ref S, .ref c, .none], []⟩)) _ _ _
  refine wpAny_bind (wpAny_rule ?_)
  refine wpAny_bind ?_
  show wpAny _ A.in1.in1 (updateSeq S (·.push .none) >>= fun _ => updateSeq S (·.pop)) _ _ _
  refine wpAny_bind (wpAny_updateSeq (s := { s with heap := h2 }) eS2 rfl ?_)
  have eS3 := Heap.get?_update_self (Obj.mapSeq (·.push Value.none)) eS2 rfl
  refine wpAny_updateSeq (s := { s with heap := _ }) eS3 rfl ?_
  have eS4 := Heap.get?_update_self (Obj.mapSeq (·.pop)) eS3 rfl
  have k2 : ∀ x o, x ≠ S → h2.get? x = some o → ((h2.update S (Obj.mapSeq (·.push Value.none))).update S (Obj.mapSeq (·.pop))).get? x = some o := fun x o n h => (Heap.get?_update_other _ _ (Ne.symm n)).trans ((Heap.get?_update_other _ _ (Ne.symm n)).trans h)
  have hgS : ∀ g f, IsZipHeld h2 c d e g f → g ≠ S := fun g f h => by
    rcases t.way with h0 | ⟨g', f', og, h0, hg, _⟩
    · have := (k1 _ _ n1 h0).symm.trans h
      simp [rawInt] at this
    · rw [held_inj h (k1 _ _ n1 h0)]
      exact n8 g' f' h0
  refine wpAny_pure ⟨plainId_quiet (F.plain_extend_loop) _, zt_loop (n0 := S) (prog := prog) (w := w) (A := A.in1) (us := us) (vs := vs) hh D hl hz n1 n2 n3 n4 n5 n6 n7 us.size 0 _ _ _ ?_ (Nat.sub_zero _) (Nat.zero_le _) (t2.keep (S := S) (fun _ _ => trivial) k2 n1 n2 n3 n4 n5 n6 n7 hgS) (fun g f hgf => ?_) eS4 rfl ?_ ?_
    fun h3 acc cap k3 hS3 hz3 hp3 => ?_⟩
  · show S ≤ ((h2.update S _).update S _).objs.size
    rw [Heap.size_update, Heap.size_update]
    exact Nat.le_of_lt (Heap.lt_size eS2)
  · exact hgS g f (((Heap.get?_update_other _ _ n1.symm).trans (Heap.get?_update_other _ _ n1.symm)).symm.trans hgf)
  · exact ⟨fun i p hi => by simp at hi, fun i j t hi => by simp at hi, fun i t hi => by simp at hi⟩
  · intro t hi
    obtain ⟨i, hi⟩ := hi
    simp at hi
  · refine ⟨rfl, q h3 acc cap (fun x o x1 x2 x3 x4 hx => ?_) hS3 hz3 hp3⟩
    have x5 : x ≠ S := lt5 x o hx
    exact k3 x o x1 x2 x3 x4 x5 (k2 _ _ x5 (k1 _ _ x5 hx))
end
end Op

namespace Op
open PySem PySem.Spec PyProof.Rows L2 SX OpC RZ
local macro_rules | `(tactic| walk_at "go1") => `(tactic| first
  | ((with_reducible refine' g_var ?h ?_); (case h => rfl)) | with_reducible refine' g_c ?_ | with_reducible refine' g_op ?_ | with_reducible refine' g_un ?_ | with_reducible refine' g_if ?_ | with_reducible refine' g_test ?_ | with_reducible refine' g_B ?_ | with_reducible refine' g_bl ?_
  | with_reducible refine' g_not ?_ | with_reducible refine' g_and ?_ | with_reducible refine' g_or ?_ | with_reducible refine' g_andV ?_ | with_reducible refine' g_orV ?_ | with_reducible refine' g_notV ?_ | with_reducible refine' g_nil ?_ | with_reducible refine' g_cons ?_ | with_reducible refine' g_CB ?_ | with_reducible refine' g_ca ?_
  | with_reducible refine' g_seq ?_ | with_reducible refine' g_next ?_ | with_reducible refine' g_asg ?_ | with_reducible refine' g_name ?_ | with_reducible refine' g_ret ?_ | with_reducible refine' g_retN ?_ | with_reducible refine' g_drop ?_ | with_reducible refine' g_ifS ?_ | with_reducible refine' g_sub ?_
  | with_reducible refine' g_I0 ?_ | with_reducible refine' g_U ?_ | ((with_reducible refine' g_eq ?h ?_); (case h => rfl)) | ((with_reducible refine' g_ne ?h ?_); (case h => rfl))
  | ((with_reducible refine' g_lenL ?h ?_); (case h => first | assumption | exact SqL.of (by assumption) | exact SqL.of upd_same)) | ((with_reducible refine' g_lenT ?h ?_); (case h => first | assumption | exact SqT.of (by assumption) | exact SqT.of upd_same))
  | ((with_reducible refine' g_ixL ?h ?ha ?_); (case h => first | assumption | exact SqL.of (by assumption) | exact SqL.of upd_same); (case ha => rfl)) | ((with_reducible refine' g_ixT ?h ?ha ?_); (case h => first | assumption | exact SqT.of (by assumption) | exact SqT.of upd_same); (case ha => rfl))
  | ((with_reducible refine' g_I ?h ?_); (case h => first | decide | omega | (first | refine' ⟨?_, ?_, ?_⟩ | refine' ⟨?_, ?_⟩ | refine' Or.inl ⟨?_, ?_⟩) <;> omega | (refine' Or.inr ⟨?_, ?_⟩ <;> omega)))
  | ((with_reducible refine' g_setL ?h ?ha ?_); (case h => first | assumption | exact upd_same); (case ha => rfl))
  | with_reducible refine' g_lcR ?_
  | with_reducible refine' g_M1 ?_ | with_reducible refine' g_isS ?_ | with_reducible refine' g_tyS ?_ | ((with_reducible refine' g_tyL ?h ?_); (case h => first | assumption | exact upd_same))
  | ((with_reducible refine' g_cat ?h ?h2 ?hl ?_); (case h => first | assumption | exact upd_same); (case h2 => first | assumption | exact upd_same); (case hl => first | decide | (simp; omega)))
  | with_reducible refine' g_lcS ?_
  | with_reducible refine' g_starts ?_ | with_reducible refine' g_chain ?_
  | ((with_reducible refine' g_lenS ?h ?_); (case h => first | exact len_le (by assumption) | exact len_le (by omega))) | ((with_reducible refine' g_rstrip ?h ?_); (case h => first | exact len_le (by assumption) | exact len_le (by omega))) | ((with_reducible refine' g_slX ?h ?_); (case h => first | exact len_le (by assumption) | exact len_le (by omega)))
  | with_reducible refine' g_sl ?_ | with_reducible refine' g_nopart ?_ | with_reducible refine' g_part ?_ | with_reducible refine' g_isI ?_
  | with_reducible refine' g_tru ?_
  | with_reducible refine' iteT ?_ | with_reducible refine' iteF ?_ | with_reducible refine' iteNT ?_ | with_reducible refine' iteNF ?_
  | with_reducible refine' g_int ?_ | with_reducible refine' g_insg ?_ | with_reducible refine' g_ninsg ?_ | with_reducible refine' g_isN ?_ | with_reducible refine' g_notN ?_ | with_reducible refine' g_lst ?_ | with_reducible refine' g_tup ?_ | with_reducible refine' g_BM ?_ | with_reducible refine' g_BM0 ?_)
local macro_rules | `(tactic| walk_at "go") => `(tactic| repeat' walk_at "go1")
local macro_rules | `(tactic| walk_at "go2") => `(tactic| repeat' (first | walk_at "go1" | with_reducible refine' g_cm ?_ | with_reducible refine' g_mk ?_ | with_reducible refine' g_for ?_ | ((with_reducible refine' g_rcm ?h ?ha ?_); (case h => first | assumption | exact upd_same); (case ha => first | rfl | decide | simp [List.lookup]))))
/- macro2 -/
local macro_rules | `(tactic| walk_at "go3a") => `(tactic| first
  | walk_at "go1" | with_reducible refine' g_cm ?_ | with_reducible refine' g_mk ?_ | with_reducible refine' g_for ?_ | with_reducible refine' g_fld ?_ | with_reducible refine' g_lcT0 ?_
  | ((with_reducible refine' g_rcm ?h ?ha ?_); (case h => first | assumption | exact upd_same); (case ha => first | rfl | decide | simp [List.lookup]))
  | ((with_reducible refine' g_shape ?hc ?hn ?h ?_); (case hc => assumption); (case hn => assumption); (case h => first | assumption | exact upd_same | (rw [upd_ne (by assumption)]; assumption))))
local macro_rules | `(tactic| walk_at "go3") => `(tactic| repeat' walk_at "go3a")
local macro_rules | `(tactic| walk_at "go4") => `(tactic| repeat' (first
  | walk_at "go3a" | ((with_reducible refine' iteDT ?h ?_); (case h => first | rfl | decide +kernel)) | ((with_reducible refine' iteDF ?h ?_); (case h => decide +kernel))))
/-- new tuples of pairs -/
def zipH (H : Hp) : List Addr → List V → List V → Hp
  | p :: ps, x :: xs, y :: ys => upd (zipH H ps xs ys) p (.tup [x, y])
  | _, _, _ => H
theorem zipH_out {H : Hp} {b : Addr} : ∀ {ps : List Addr} {xs ys : List V}, b ∉ ps → zipH H ps xs ys b = H b
  | [], _, _, _ => by unfold zipH; rfl
  | p :: ps, [], _, _ => by unfold zipH; rfl
  | p :: ps, x :: xs, [], _ => by unfold zipH; rfl
  | p :: ps, x :: xs, y :: ys, h => by
    unfold zipH
    rw [upd_ne (fun z : b = p => h (by rw [z]; exact List.mem_cons_self))]
    exact zipH_out fun z => h (List.mem_cons_of_mem _ z)
theorem zipH_in {H : Hp} : ∀ {ps : List Addr} {xs ys : List V}, ps.Nodup → ∀ (i : Nat) (p : Addr) (x y : V), ps[i]? = some p → xs[i]? = some x → ys[i]? = some y → zipH H ps xs ys p = some (.tup [x, y])
  | [], _, _, _, i, p, x, y, h, _, _ => by simp at h
  | p :: ps, [], _, _, i, _, x, y, _, h, _ => by simp at h
  | p :: ps, x :: xs, [], _, i, _, _, y, _, _, h => by simp at h
  | p :: ps, x :: xs, y :: ys, nd, i, q, x', y', h1, h2, h3 => by
    obtain ⟨n1, n2⟩ := List.nodup_cons.mp nd
    unfold zipH
    cases i with
    | zero =>
      obtain rfl := Option.some.inj h1
      obtain rfl := Option.some.inj h2
      obtain rfl := Option.some.inj h3
      exact upd_same
    | succ i =>
      have hm : q ∈ ps := List.mem_of_getElem? h1
      rw [upd_ne (fun z : q = p => n1 (by rw [← z]; exact hm))]
      exact zipH_in n2 i q x' y' h1 h2 h3
theorem refs_of : ∀ {l : List Value}, (∀ v ∈ l, ∃ t : Addr, v = .ref t) → ∃ ps : List Addr, l = ps.map Value.ref
  | [], _ => ⟨[], rfl⟩
  | v :: l, h => by
    obtain ⟨t, rfl⟩ := h v List.mem_cons_self
    obtain ⟨ps, rfl⟩ := refs_of fun v hv => h v (List.mem_cons_of_mem _ hv)
    exact ⟨t :: ps, rfl⟩
theorem refs_vals : ∀ ps : List Addr, Vals (ps.map V.ref) (ps.map Value.ref)
  | [] => .nil
  | p :: ps => .cons rfl (refs_vals ps)
/-- what is new is held too -/
theorem Inv.grow {X : Cx} {pins : List (Addr × Obj)} {σ : L2.St} {H H' : Hp} {s : Shared} {h' : Heap} {t' : Nat} (I : Inv X pins σ H s) (k : ∀ b u, s.heap.get? b = some u → h'.get? b = some u) (old : ∀ b u, H b = some u → H' b = some u)
    (lo : ∀ b o, s.heap.get? b = some o → H' b = H b) (new : ∀ b u, H' b = some u → H b = none → ObjOk X.prog X.w H' h' b u) : Inv X pins σ H' { s with heap := h', toks := t' } :=
  I.un ⟨fun b o e _ _ _ => k b o e, fun b o e _ _ _ => ⟨o.slots, k b o e⟩, fun b o e n _ => (lo b o e).trans n, fun b o e _ => ⟨o, k b o e⟩, fun b xs e => old b _ e, fun b o u e => old b _ e, fun b ps e => ⟨#[], by rw [old b _ e]; simp⟩⟩
    fun b u e => by
      cases hb : H b with
      | none => exact new b u e hb
      | some u' =>
        have e2 := (old b u' hb).symm.trans e
        obtain rfl := Option.some.inj e2
        exact (I.hok b u' hb).stay (fun b u _ q => k b u q) (fun b q => old b _ q) fun b xs q => old b _ q
/-- list(zip(a tuple, a tuple)), both of one length -/
def tLzip (K : PySem.W.Frag) (ta : TA) : TE := fun σ H Q => ta σ H fun vs H1 => ∃ (a b : Addr) (xs ys : List V), vs = [.ref a, .ref b] ∧ SqT K H1 a xs ∧ SqT K H1 b ys ∧ xs.length = ys.length ∧ xs.length ≤ 1000 ∧
  ∀ (H2 : Hp) (D : Addr) (ps : List Addr), Same H1 H2 → H1 D = none → H2 D = some (.lst (ps.map V.ref)) → ps.length = xs.length → (∀ (i : Nat) (p : Addr) (x y : V), ps[i]? = some p → xs[i]? = some x → ys[i]? = some y → H2 p = some (.tup [x, y])) → Q (.ref D) H2
theorem g_lzip {K : PySem.W.Frag} {ta : TA} {σ : L2.St} {H : Hp} {Q : VK} (k : ta σ H fun vs H1 => ∃ (a b : Addr) (xs ys : List V), vs = [.ref a, .ref b] ∧ SqT K H1 a xs ∧ SqT K H1 b ys ∧ xs.length = ys.length ∧ xs.length ≤ 1000 ∧
  ∀ (H2 : Hp) (D : Addr) (ps : List Addr), Same H1 H2 → H1 D = none → H2 D = some (.lst (ps.map V.ref)) → ps.length = xs.length → (∀ (i : Nat) (p : Addr) (x y : V), ps[i]? = some p → xs[i]? = some x → ys[i]? = some y → H2 p = some (.tup [x, y])) → Q (.ref D) H2) : tLzip K ta σ H Q := k
theorem pe_lzip {X : Cx} {e e2 : Expr} {ta : TA} {p p2 pos pos2 : Pos} (hg : Gl X "list") (hm : X.mg "list" = none) (hg2 : Gl X "zip") (hm2 : X.mg "zip" = none) (ha : PA X [e, e2] ta) (hc : X.calm = true := by rfl)
    (hs : starEach [e, e2] X.env = (false, eval e X.env) :: starEach [e2] X.env := by rfl) (hpl : (backTo pos2 (starEach [e2] X.env)).any (·.1) = false := by rfl)
    (na : starEach [Expr.Call (.Name "zip" p2) [e, e2] [] pos2] X.env = (false, eval (.Call (.Name "zip" p2) [e, e2] [] pos2) X.env) :: starEach [] X.env := by rfl) :
    PE X (.Call (.Name "list" p) [.Call (.Name "zip" p2) [e, e2] [] pos2] [] pos) (tLzip X.K ta) := by
  refine ⟨fun pins s σ H Q I h => ?_⟩
  unfold tLzip at h
  refine Call_ (ld_blt I hg hm PyProof.Rows.boot_list ?_)
  refine PyProof.Rows.callWith_type1 (PyProof.Rows.args_cons (Call_ (ld_blt I hg2 hm2 PyProof.Rows.boot_zip (PyProof.Rows.callWith_type1 (thn (ha.run pos2 pins s σ H _ I h) fun us s1 ⟨vs, H1, I1, r1, q1⟩ => ?_) hs hpl))) na) na rfl
  obtain ⟨a, b, xs, ys, rfl, hqx, hqy, hl, hz, q⟩ := q1
  obtain ⟨u1, us', rfl, r2, r3⟩ : ∃ u us', us = u :: us' ∧ RelV (.ref a) u ∧ Vals [.ref b] us' := by
    cases r1 with
    | cons r rr => exact ⟨_, _, rfl, r, rr⟩
  obtain ⟨u2, rfl, r4⟩ := vals1 r3
  cases r2
  cases r4
  obtain ⟨its, rv, p1, _⟩ := I1.tuple hqx
  obtain ⟨its2, rv2, p22, _⟩ := I1.tuple hqy
  obtain ⟨o1, ho1, hc1⟩ := id p1
  obtain ⟨o2, ho2, hc2⟩ := id p22
  have la := Heap.lt_size ho1
  have lb := Heap.lt_size ho2
  have hlu : its.toArray.size = its2.toArray.size := by rw [List.size_toArray, List.size_toArray, ← rv.length, ← rv2.length, hl]
  have hlx : its.toArray.size = xs.length := by rw [List.size_toArray, ← rv.length]
  refine call_zipT (show s1.heap.IsTuple a its.toArray from p1) (show s1.heap.IsTuple b its2.toArray from p22) fun h' z1 z2 z3 z4 z5 z6 z7 => ?_
  refine PyProof.Rows.args_nil ?_
  have n : ∀ {x y : Nat}, x ≠ y → s1.heap.objs.size + x ≠ s1.heap.objs.size + y := fun h z => h (Nat.add_left_cancel z)
  have nl : ∀ {x y : Nat}, x < s1.heap.objs.size → x ≠ s1.heap.objs.size + y := fun h z => by omega
  have D : ZipApart (s1.heap.objs.size + 4) (s1.heap.objs.size + 2) (s1.heap.objs.size + 3) s1.heap.objs.size (s1.heap.objs.size + 1) a b := PySem.W.ktu_apart s1.heap.objs.size a b la lb
  refine zt_list (s := { s1 with heap := h' }) (us := its.toArray) (vs := its2.toArray) (I1.ok.hd hc) D hlu (by omega) ⟨.inl z1, z2, ⟨_, _, z3⟩, z4, z5, ⟨o1, z7 _ _ ho1, hc1⟩, ⟨o2, z7 _ _ ho2, hc2⟩⟩ fun h3 acc cap k3 eS hzs Z => ?_
  replace k3 : ∀ x o, x ≠ s1.heap.objs.size + 4 → x ≠ s1.heap.objs.size + 3 → x ≠ s1.heap.objs.size → x ≠ s1.heap.objs.size + 1 → h'.get? x = some o → h3.get? x = some o := k3
  replace eS : h3.get? h'.objs.size = some { cls := .type "list", dict := none, data := .seq acc cap, slots := #[] } := eS
  replace Z : Zs h'.objs.size h3 acc its.toArray its2.toArray := Z
  have kk : ∀ x o, s1.heap.get? x = some o → h3.get? x = some o := fun x o h => by
    have := Heap.lt_size h
    exact k3 x o (Nat.ne_of_lt (Nat.lt_of_lt_of_le this (Nat.le_add_right _ _))) (Nat.ne_of_lt (Nat.lt_of_lt_of_le this (Nat.le_add_right _ _))) (Nat.ne_of_lt this) (Nat.ne_of_lt (Nat.lt_of_lt_of_le this (Nat.le_add_right _ _))) (z7 x o h)
  obtain ⟨ps, hps⟩ := refs_of (l := acc.toList) fun v hv => by
    obtain ⟨i, hi, rfl⟩ := List.getElem_of_mem hv
    obtain ⟨t, _, _, h, _⟩ := Z.here i _ (Array.getElem?_eq_getElem (by simpa using hi))
    exact ⟨t, by simpa using h⟩
  have hpl : ps.length = xs.length := by
    have := congrArg List.length hps
    rw [List.length_map, Array.length_toList] at this
    omega
  have hat : ∀ (i : Nat) (t : Addr), ps[i]? = some t → acc[i]? = some (Value.ref t) := fun i t h => by
    rw [← Array.getElem?_toList, hps, List.getElem?_map, h]
    rfl
  have nd : ps.Nodup := by
    rw [List.nodup_iff_pairwise_ne, List.pairwise_iff_getElem]
    intro i j hi hj hij z
    have h1 := hat i _ (List.getElem?_eq_getElem hi)
    have h2 := hat j _ (List.getElem?_eq_getElem hj)
    rw [z] at h1
    have := Z.inj _ _ _ h1 h2
    omega
  have hlo : ∀ b, b < s1.heap.objs.size → b ∉ ps := fun b hb hm => by
    obtain ⟨i, hi, e⟩ := List.getElem_of_mem hm
    have := Z.lo i b (hat i b (by rw [List.getElem?_eq_getElem hi, e]))
    omega
  have nS : h'.objs.size ∉ ps := fun hm => by
    obtain ⟨i, hi, e⟩ := List.getElem_of_mem hm
    obtain ⟨t, u, v, q1, _, _, q2⟩ := Z.here i _ (hat i _ (List.getElem?_eq_getElem hi))
    injection q1 with q1
    rw [← q1, e] at q2
    have := q2.symm.trans eS
    simp at this
  have hlow : ∀ b, b < s1.heap.objs.size → upd (zipH H1 ps xs ys) h'.objs.size (.lst (ps.map V.ref)) b = H1 b := fun b hb => by
    rw [upd_ne (Nat.ne_of_lt (by omega : (b : Nat) < h'.objs.size)), zipH_out (hlo b hb)]
  have I2 : Inv X pins σ (upd (zipH H1 ps xs ys) h'.objs.size (.lst (ps.map V.ref))) { s1 with heap := h3 } := by
    refine Inv.grow (t' := s1.toks) I1 kk (fun b u e => (hlow b (I1.hok.lt e)).trans e) (fun b o e => hlow b (Heap.lt_size e)) fun b u e hn => ?_
    by_cases hb : b = h'.objs.size
    · rw [hb, upd_same] at e
      obtain rfl := Option.some.inj e
      rw [hb]
      refine ⟨by rw [List.length_map, hpl]; have : sizeLine = 16777216 := rfl; omega, acc.toList, cap, by rw [hps]; exact refs_vals ps, ?_⟩
      rw [Array.toArray_toList]
      exact eS
    · rw [upd_ne hb] at e
      by_cases hm : b ∈ ps
      · obtain ⟨i, hi, hbi⟩ := List.getElem_of_mem hm
        have g1 : ps[i]? = some b := by rw [List.getElem?_eq_getElem hi, hbi]
        have hx : xs[i]? = some xs[i] := List.getElem?_eq_getElem (by omega)
        have hy : ys[i]? = some ys[i] := List.getElem?_eq_getElem (by omega)
        rw [zipH_in nd i b _ _ g1 hx hy] at e
        obtain rfl := Option.some.inj e
        obtain ⟨t, u, v, q1, e1, e2, q2⟩ := Z.here i _ (hat i b g1)
        injection q1 with q1
        rw [← q1] at q2
        obtain ⟨u', hu', ru⟩ := rv.get hx
        obtain ⟨v', hv', rv'⟩ := rv2.get hy
        have c1 : u' = u := by
          have : its[i]? = some u := by simpa using e1
          exact Option.some.inj (hu'.symm.trans this)
        have c2 : v' = v := by
          have : its2[i]? = some v := by simpa using e2
          exact Option.some.inj (hv'.symm.trans this)
        subst c1 c2
        exact ⟨by show 2 ≤ sizeLine; decide, [u', v'], .cons ru (.cons rv' .nil), ⟨_, q2, rfl, _, rfl⟩⟩
      · rw [zipH_out hm, hn] at e
        cases e
  refine ⟨.ref h'.objs.size, _, I2, rfl, q _ _ ps (fun b u e => (hlow b (I1.hok.lt e)).trans e) (I1.hok.fresh (by omega)) upd_same hpl fun i p x y g1 g2 g3 => ?_⟩
  rw [upd_ne (fun z : p = h'.objs.size => nS (by rw [← z]; exact List.mem_of_getElem? g1))]
  exact zipH_in nd i p x y g1 g2 g3
end Op

namespace Op
open PySem PySem.Spec PyProof.Rows L2 SX OpC
local macro_rules | `(tactic| walk_at "go1") => `(tactic| first
  | ((with_reducible refine' g_var ?h ?_); (case h => rfl)) | with_reducible refine' g_c ?_ | with_reducible refine' g_op ?_ | with_reducible refine' g_un ?_ | with_reducible refine' g_if ?_ | with_reducible refine' g_test ?_ | with_reducible refine' g_B ?_ | with_reducible refine' g_bl ?_
  | with_reducible refine' g_not ?_ | with_reducible refine' g_and ?_ | with_reducible refine' g_or ?_ | with_reducible refine' g_andV ?_ | with_reducible refine' g_orV ?_ | with_reducible refine' g_notV ?_ | with_reducible refine' g_nil ?_ | with_reducible refine' g_cons ?_ | with_reducible refine' g_CB ?_ | with_reducible refine' g_ca ?_
  | with_reducible refine' g_seq ?_ | with_reducible refine' g_next ?_ | with_reducible refine' g_asg ?_ | with_reducible refine' g_name ?_ | with_reducible refine' g_ret ?_ | with_reducible refine' g_retN ?_ | with_reducible refine' g_drop ?_ | with_reducible refine' g_ifS ?_ | with_reducible refine' g_sub ?_
  | with_reducible refine' g_I0 ?_ | with_reducible refine' g_U ?_ | ((with_reducible refine' g_eq ?h ?_); (case h => rfl)) | ((with_reducible refine' g_ne ?h ?_); (case h => rfl))
  | ((with_reducible refine' g_lenL ?h ?_); (case h => first | assumption | exact SqL.of (by assumption) | exact SqL.of upd_same)) | ((with_reducible refine' g_lenT ?h ?_); (case h => first | assumption | exact SqT.of (by assumption) | exact SqT.of upd_same))
  | ((with_reducible refine' g_ixL ?h ?ha ?_); (case h => first | assumption | exact SqL.of (by assumption) | exact SqL.of upd_same); (case ha => rfl)) | ((with_reducible refine' g_ixT ?h ?ha ?_); (case h => first | assumption | exact SqT.of (by assumption) | exact SqT.of upd_same); (case ha => rfl))
  | ((with_reducible refine' g_I ?h ?_); (case h => first | decide | omega | (first | refine' ⟨?_, ?_, ?_⟩ | refine' ⟨?_, ?_⟩ | refine' Or.inl ⟨?_, ?_⟩) <;> omega | (refine' Or.inr ⟨?_, ?_⟩ <;> omega)))
  | ((with_reducible refine' g_setL ?h ?ha ?_); (case h => first | assumption | exact upd_same); (case ha => rfl))
  | with_reducible refine' g_lcR ?_
  | with_reducible refine' g_M1 ?_ | with_reducible refine' g_isS ?_ | with_reducible refine' g_tyS ?_ | ((with_reducible refine' g_tyL ?h ?_); (case h => first | assumption | exact upd_same))
  | ((with_reducible refine' g_cat ?h ?h2 ?hl ?_); (case h => first | assumption | exact upd_same); (case h2 => first | assumption | exact upd_same); (case hl => first | decide | (simp; omega)))
  | with_reducible refine' g_lcS ?_
  | with_reducible refine' g_starts ?_ | with_reducible refine' g_chain ?_
  | ((with_reducible refine' g_lenS ?h ?_); (case h => first | exact len_le (by assumption) | exact len_le (by omega))) | ((with_reducible refine' g_rstrip ?h ?_); (case h => first | exact len_le (by assumption) | exact len_le (by omega))) | ((with_reducible refine' g_slX ?h ?_); (case h => first | exact len_le (by assumption) | exact len_le (by omega)))
  | with_reducible refine' g_sl ?_ | with_reducible refine' g_nopart ?_ | with_reducible refine' g_part ?_ | with_reducible refine' g_isI ?_
  | with_reducible refine' g_tru ?_
  | with_reducible refine' iteT ?_ | with_reducible refine' iteF ?_ | with_reducible refine' iteNT ?_ | with_reducible refine' iteNF ?_
  | with_reducible refine' g_int ?_ | with_reducible refine' g_insg ?_ | with_reducible refine' g_ninsg ?_ | with_reducible refine' g_isN ?_ | with_reducible refine' g_notN ?_ | with_reducible refine' g_lst ?_ | with_reducible refine' g_tup ?_ | with_reducible refine' g_BM ?_ | with_reducible refine' g_BM0 ?_)
local macro_rules | `(tactic| walk_at "go") => `(tactic| repeat' walk_at "go1")
local macro_rules | `(tactic| walk_at "go2") => `(tactic| repeat' (first | walk_at "go1" | with_reducible refine' g_cm ?_ | with_reducible refine' g_mk ?_ | with_reducible refine' g_for ?_ | ((with_reducible refine' g_rcm ?h ?ha ?_); (case h => first | assumption | exact upd_same); (case ha => first | rfl | decide | simp [List.lookup]))))
/- macro2 -/
local macro_rules | `(tactic| walk_at "go3a") => `(tactic| first
  | walk_at "go1" | with_reducible refine' g_cm ?_ | with_reducible refine' g_mk ?_ | with_reducible refine' g_for ?_ | with_reducible refine' g_fld ?_ | with_reducible refine' g_lcT0 ?_
  | ((with_reducible refine' g_rcm ?h ?ha ?_); (case h => first | assumption | exact upd_same); (case ha => first | rfl | decide | simp [List.lookup]))
  | ((with_reducible refine' g_shape ?hc ?hn ?h ?_); (case hc => assumption); (case hn => assumption); (case h => first | assumption | exact upd_same | (rw [upd_ne (by assumption)]; assumption))))
local macro_rules | `(tactic| walk_at "go3") => `(tactic| repeat' walk_at "go3a")
local macro_rules | `(tactic| walk_at "go4") => `(tactic| repeat' (first
  | walk_at "go3a" | ((with_reducible refine' iteDT ?h ?_); (case h => first | rfl | decide +kernel)) | ((with_reducible refine' iteDF ?h ?_); (case h => decide +kernel))))
/-! ## dicts of forms -/
/-- != of two dicts that have equal forms at equal texts -/
def rNeF : R2 := fun x y H Q => ∃ a b ks ls, x = V.ref a ∧ y = .ref b ∧ H a = some (.dK ks) ∧ H b = some (.dK ls) ∧ ks.length = ls.length ∧ (∀ p ∈ ks, ∃ v' g, valV ls p.1 = some v' ∧ FmAt H p.2 g ∧ FmAt H v' g ∧ g.ok = true ∧ g.dep ≤ 60) ∧ Q (.bl false) H
theorem op_neF {X : Cx} (hu : X.A.units + 64 < cLine) : OpR X (compareOp .NotEq) rNeF := by
  intro pins s σ H x y v u Q I rx ry h
  obtain ⟨a, b, ks, ls, rfl, rfl, ea, eb, hlen, hp, q⟩ := h
  cases rx
  cases ry
  obtain ⟨za, ya, va, ra, da⟩ := (show ObjOk X.prog X.w H s.heap a (.dK ks) from I.hok a _ ea)
  obtain ⟨_, yb, vb, rb, db⟩ := (show ObjOk X.prog X.w H s.heap b (.dK ls) from I.hok b _ eb)
  have hits : PySem.W.KeqHits X.A.in1 s vb va true := by
    clear da ea hlen za
    unfold KV at ra
    induction ra with
    | nil => exact .nil
    | @cons p w ps ws h t ih =>
      have rest := ih (fun p' hm => hp p' (List.mem_cons_of_mem _ hm))
      obtain ⟨v', g, e, f1, f2, og, dg⟩ := hp p List.mem_cons_self
      have rr : RelO (some v') (valueAt vb p.1) := by
        rw [← e]
        exact rb.val p.1
      obtain ⟨y, hy, ry⟩ := rr.some_of
      obtain ⟨k, v⟩ := w
      obtain ⟨h1, h2⟩ := h
      obtain ⟨as, r1⟩ := Dp.reads I _ _ v (dp_fm f1) h2
      obtain ⟨bs, r2⟩ := Dp.reads I _ _ y (dp_fm f2) ry
      have dd := Fm.depth_le g
      have eq := SeqAt.eqAt_reads g.data g.data X.A.in1 s v y as bs r1 r2 (Fm.lay og) (Fm.lay og) (by rw [Nat.min_self]; show X.A.units + 1 + g.data.depth < cLine; omega)
      rw [SeqAt.eqv_refl _ (Fm.lay og)] at eq
      have hk : p.1 = k := h1
      rw [hk] at hy
      show PySem.W.KeqHits X.A.in1 s vb ((k, v) :: ws) (true && true)
      exact .hit hy eq rest
  have hl : va.length = vb.length := by
    rw [← ra.length, ← rb.length]
    exact hlen
  exact PySem.W.keq_ne (knd := mixKind X.prog X.w) (r := true) ya yb da db (by omega) (fun _ => hits) (fin_bl I q (by simp [hl]))
/-- a dict from unknowns to forms -/
def FrmAt (H : Hp) (d : Addr) (es : List Ent) : Prop := H d = some (.dK (es.map kvE)) ∧ (∀ e ∈ es, FmAt H e.2.2 e.2.1) ∧ (es.map (·.1)).Nodup ∧ es.length < 1000
theorem FrmAt.same {H H' : Hp} {d : Addr} {es : List Ent} (h : FrmAt H d es) (s : Same H H') : FrmAt H' d es := ⟨s _ _ h.1, fun e he => (h.2.1 e he).same s, h.2.2⟩
theorem ne_forms {H : Hp} {d1 d2 : Addr} {es ls : List Ent} {Q : VK} (h1 : FrmAt H d1 es) (h2 : FrmAt H d2 ls) (eq : ∀ t, look es t = look ls t) (ok : ∀ e ∈ es, e.2.1.ok = true ∧ e.2.1.dep ≤ 60) (q : Q (.bl false) H) : rNeF (.ref d1) (.ref d2) H Q := by
  refine ⟨d1, d2, _, _, rfl, rfl, h1.1, h2.1, ?_, fun p hp => ?_, q⟩
  · rw [List.length_map, List.length_map]
    have pm : (es.map (·.1)).Perm (ls.map (·.1)) := (List.perm_ext_iff_of_nodup h1.2.2.1 h2.2.2.1).mpr fun t => by rw [mem_look, mem_look, eq]
    have := pm.length_eq
    rw [List.length_map, List.length_map] at this
    exact this
  · obtain ⟨e, he, rfl⟩ := List.mem_map.mp hp
    have l1 := look_at h1.2.2.1 he
    rw [eq] at l1
    obtain ⟨e2, he2, k1, k2⟩ := look_mem l1
    refine ⟨e2.2.2, e.2.1, ?_, h1.2.1 e he, k2 ▸ h2.2.1 e2 he2, ok e he⟩
    show valV (ls.map kvE) (.inr (S e.1)) = some e2.2.2
    rw [← k1, valK, find_at h2.2.2.1 he2]
    rfl
theorem g_catT9 {K : PySem.W.Frag} {H : Hp} {Q : VK} {a b : Addr} {xs ys : List V} (ha : H a = some (.tup xs)) (hb : H b = some (.tup ys)) (hl : xs.length + ys.length ≤ sizeLine) (k : ∀ c H', Same H H' → H' c = some (.tup (xs ++ ys)) → Q (.ref c) H') : rCatA K (.ref a) (.ref b) H Q :=
  ⟨a, b, xs, ys, rfl, rfl, SqT.of ha, SqT.of hb, hl, fun e => k b H (Same.refl _) (by rw [e]; exact hb), fun _ e => k a H (Same.refl _) (by rw [e, List.append_nil]; exact ha), fun _ _ c hc => k c _ (Same.upd hc) upd_same⟩
theorem kids_fill {H : Hp} {v : V} {a : Fm} (h : FmAt H v a) (ok : a.ok = true) : (∃ p k t, v = .ref p ∧ a = .atm k t ∧ H p = some (.tup [.str k, .str (S t)]) ∧ atK k = true) ∨
    ∃ (p : Addr) (k : Str) (ks : List (V × Fm)), v = .ref p ∧ H p = some (.tup (.str k :: ks.map (·.1))) ∧ atK k = false ∧ (∀ y ∈ ks, FmAt H y.1 y.2 ∧ y.2.ok = true ∧ y.2.dep < a.dep) ∧ ks.length ≤ 2 ∧
      ∀ (φ : List Nat → Option Fm) (H' : Hp) (q : Addr) (zs : List V), H' q = some (.tup (.str k :: zs)) → FsAt H' zs (ks.map fun y => y.2.fill φ) → FmAt H' (.ref q) (a.fill φ) := by
  cases h with
  | @atm p k t h => exact .inl ⟨p, k, t, rfl, rfl, h, Fm.ok_kin ok⟩
  | @un p k w b h f =>
    simp only [Fm.ok, Bool.and_eq_true] at ok
    refine .inr ⟨p, k, [(w, b)], rfl, h, unK_at ok.1, fun y hy => ?_, by show 1 ≤ 2; decide, fun φ H' q zs hq hz => ?_⟩
    · rw [List.mem_singleton.mp hy]
      exact ⟨f, ok.2, Nat.lt_succ_self _⟩
    · cases hz with
      | cons h1 r =>
        cases r
        exact .un hq h1
  | @bi p k w z b c h f g =>
    simp only [Fm.ok, Bool.and_eq_true] at ok
    refine .inr ⟨p, k, [(w, b), (z, c)], rfl, h, biK_at ok.1, fun y hy => ?_, by show 2 ≤ 2; decide, fun φ H' q zs hq hz => ?_⟩
    · simp only [List.mem_cons, List.not_mem_nil, or_false] at hy
      rcases hy with rfl | rfl
      · exact ⟨f, ok.2.2.1, by show b.dep < max b.dep c.dep + 1; omega⟩
      · exact ⟨g, ok.2.2.2, by show c.dep < max b.dep c.dep + 1; omega⟩
    · cases hz with
      | cons h1 r =>
        cases r with
        | cons h2 r =>
          cases r
          exact .bi hq h1 h2
theorem inV_wn {k : Str} (h : atK k = false) : inV (.str k) [V.str kWord, V.str kName] = false := by
  simp only [atK, Bool.or_eq_false_iff, beq_eq_false_iff_ne] at h
  show ((kWord == k) || ((kName == k) || false)) = false
  rw [beq_eq_false_iff_ne.mpr (Ne.symm h.1.1), beq_eq_false_iff_ne.mpr (Ne.symm h.1.2)]
  rfl
def spLFilled (n : Nat) : Sp := fun vs H Q _ => ∃ (v : V) (d : Addr) (a : Fm) (es : List Ent), vs = [v, .ref d] ∧ FmAt H v a ∧ a.ok = true ∧ a.dep < n ∧ FrmAt H d es ∧ ∀ H' z, Same H H' → FmAt H' z (a.fill (look es)) → Q z H'
section
variable {P : Program} {w : World} {K : PySem.W.Frag} {mg : Str → Option Value} {base : Heap}
theorem ca_lfilled (T : Bl K mg) (D : Df K mg "_law_filled" s_law_filled p_law_filled) : ∀ n, Ca P w K mg base (1 + n) "_law_filled" (spLFilled n)
  | 0 => by
    refine ca_n D sc_law_filled (fun vs H Q E h => ?_) (fun f cdv A outer s H vs Q E hr h => ?_)
    · obtain ⟨v, d, a, es, rfl, _⟩ := h
      rfl
    · obtain ⟨v, d, a, es, rfl, _, _, hd, _⟩ := h
      exact absurd hd (Nat.not_lt_zero _)
  | n + 1 => by
    have c_law_filled := ca_lfilled T D n
    refine ca_n (k := 1 + n) D sc_law_filled (fun vs H Q E h => ?_) (fun f cdv A outer s H vs Q E hr h => ?_)
    · obtain ⟨v, d, a, es, rfl, _⟩ := h
      rfl
    · obtain ⟨v, d, a, es, rfl, fa, ok, hd, hF, q⟩ := h
      refine ⟨_, (pss_cons (ps_if (pt_cmpR op_eq (pe_ix ix_tup (pv 0) pe_int (fun _ _ => rfl)) pe_str (nomark _))
  (pss_one (ps_ret (pe_dget2 (hu_of hr) (pv 1) (pe_ix ix_tup (pv 0) pe_int (fun _ _ => rfl)) (pv 0) ⟨by rfl, by rfl, by rfl, by rfl⟩)))
  pss_nil)
  (pss_cons (ps_if (pt_cmpR op_in_seq (pe_ix ix_tup (pv 0) pe_int (fun _ _ => rfl)) (pe_tup (pa_cons pe_str (pa_cons pe_str pa_nil))) rfl)
  (pss_one (ps_ret (pv 0)))
  pss_nil)
  (pss_one (ps_ret (pe_op op_catA (pe_tup (pa_cons (pe_ix ix_tup (pv 0) pe_int (fun _ _ => rfl)) pa_nil)) (pe_callTy call_tuple_of (by rfl) T.b_tuple (by decide +kernel) (pa_cons (pe_lc (own := [("_law_part", 2)]) (g := gName 2) (tt := tYes) rfl sc_law_filled.nd (pi_tup (pe_slice sl_tup (pv 0) (po_some pe_int) po_none)) (blkOk_by (own := [("_law_part", 2)]) (N := N_law_filled) (sc := defScope s_law_filled) (by decide +kernel)) (fun _ _ _ _ _ => pg_name (i := 2) sc_law_filled.nd rfl (Or.inl rfl)) (fun _ _ _ _ _ => pts_nil) (fun _ _ _ _ _ => (pe_ca c_law_filled hr (by omega) (by rfl) (pa_cons (pv 2) (pa_cons (pv 1) pa_nil))))) pa_nil))))))), ?_⟩
      rcases kids_fill fa ok with ⟨p, k, t, rfl, rfl, ep, hk⟩ | ⟨p, k, ks, rfl, ep, hk, hks, hk2, hfill⟩
      · walk_at "go3"
        refine iteD (fun h => ?_) (fun h => ?_)
        · have e : k = kUnk := V.str.inj h
          subst e
          walk_at "go3"
          refine g_dget2 ?_
          walk_at "go3"
          refine ⟨d, rfl, .inl ⟨_, .inl hF.1⟩, ?_⟩
          walk_at "go3"
          refine ⟨_, DGet.k (k := .inr (S t)) hF.1, ?_⟩
          refine q _ _ (Same.refl _) ?_
          show FmAt H _ (if kUnk = kUnk then (look es t).getD (.atm kUnk t) else .atm kUnk t)
          rw [if_pos rfl, valK]
          unfold look
          cases hfi : es.find? (fun e => decide (e.1 = t)) with
          | none => exact fa
          | some e => exact hF.2.1 e (List.mem_of_find?_eq_some hfi)
        · have hne : k ≠ kUnk := fun z => h (congrArg V.str z)
          walk_at "go3"
          refine ⟨by show 2 ≤ sizeLine; decide, fun p2 hp2 => ?_⟩
          refine g_inT (SqT.of upd_same) rfl rfl ?_
          have hin : inV (.str k) [V.str kWord, V.str kName] = true := by
            simp only [atK, Bool.or_eq_true, beq_iff_eq] at hk
            rcases hk with (rfl | rfl) | rfl
            · decide +kernel
            · decide +kernel
            · exact absurd rfl hne
          rw [hin]
          walk_at "go3"
          refine q _ _ (Same.upd hp2) ?_
          show FmAt _ _ (if k = kUnk then _ else _)
          rw [if_neg hne]
          exact fa.same (Same.upd hp2)
      · walk_at "go3"
        refine g_ixT (v := .str k) (SqT.of ep) at0 ?_
        walk_at "go3"
        refine iteD (fun h => absurd hk (by rw [V.str.inj h]; decide +kernel)) (fun _ => ?_)
        walk_at "go3"
        refine g_ixT (v := .str k) (SqT.of ep) at0 ?_
        walk_at "go3"
        refine ⟨by show 2 ≤ sizeLine; decide, fun p2 hp2 => ?_⟩
        refine g_inT (SqT.of upd_same) rfl rfl ?_
        rw [inV_wn hk]
        have s2 : Same H (upd H p2 (.tup [.str kWord, .str kName])) := Same.upd hp2
        have hks2 : ∀ y ∈ ks, FmAt (upd H p2 (.tup [.str kWord, .str kName])) y.1 y.2 := fun y hy => (hks y hy).1.same s2
        have hF2 := hF.same s2
        have ep2 := s2 _ _ ep
        generalize upd H p2 (.tup [.str kWord, .str kName]) = H2 at s2 hks2 hF2 ep2 ⊢
        walk_at "go3"
        refine g_ixT (v := .str k) (SqT.of ep2) at0 ?_
        walk_at "go3"
        refine ⟨by show 1 ≤ sizeLine; decide, fun p3 hp3 => ?_⟩
        have s3 : Same H2 (upd H2 p3 (.tup [.str k])) := Same.upd hp3
        have e3 : upd H2 p3 (.tup [.str k]) p3 = some (.tup [.str k]) := upd_same
        have hks3 : ∀ y ∈ ks, FmAt (upd H2 p3 (.tup [.str k])) y.1 y.2 := fun y hy => (hks2 y hy).same s3
        have hF3 := hF2.same s3
        have ep3 := s3 _ _ ep2
        have sH3 := s2.trans s3
        generalize upd H2 p3 (.tup [.str k]) = H3 at sH3 hks3 hF3 ep3 e3 ⊢
        clear s2 s3 hks2 hF2 ep2 hp2 hp3
        walk_at "go3"
        refine g_slT (SqT.of ep3) (nowhole _ _) fun p4 hp4 => ?_
        rw [cut_tail]
        have s4 : Same H3 (upd H3 p4 (.tup (ks.map (·.1)))) := Same.upd hp4
        have e4 : upd H3 p4 (.tup (ks.map (·.1))) p4 = some (.tup (ks.map (·.1))) := upd_same
        have hks4 : ∀ y ∈ ks, FmAt (upd H3 p4 (.tup (ks.map (·.1)))) y.1 y.2 := fun y hy => (hks3 y hy).same s4
        have hF4 := hF3.same s4
        have e34 := s4 _ _ e3
        have sH4 := sH3.trans s4
        generalize upd H3 p4 (.tup (ks.map (·.1))) = H4 at sH4 hks4 hF4 e34 e4 ⊢
        clear s4 hks3 hF3 ep3 e3 sH3 hp4
        refine r_lcT (xs := ks.map (·.1)) (fun D i acc H5 => Same H4 H5 ∧ FsAt H5 acc ((ks.take i).map fun y => y.2.fill (look es))) (SqT.of e4) (by rw [List.length_map]; omega) (fun _ => rfl) (fun D i acc H5 J => SqT.of (J.1 _ _ e4)) (fun D hD => ⟨Same.upd hD, by simpa using FsAt.nil⟩) (fun D i x acc H5 hD hx hacc hlen J => ?_) (fun D acc H5 hD hacc hlen J => ?_)
        · obtain ⟨sJ, hJ⟩ := J
          rw [List.getElem?_map] at hx
          obtain ⟨y, hy, rfl⟩ := Option.map_eq_some_iff.mp hx
          have hm : y ∈ ks := List.mem_of_getElem? hy
          have hi : i < ks.length := (List.getElem?_eq_some_iff.mp hy).1
          walk_at "go3"
          refine ⟨y.1, d, y.2, es, rfl, (hks4 y hm).same sJ, (hks y hm).2.1, by have := (hks y hm).2.2; omega, hF4.same sJ, fun H6 z s6 fz => ?_⟩
          have t7 : Tps H6 (upd H6 D (.lst (acc ++ [z]))) := Tps.lst (s6 _ _ hacc)
          refine lcPost.of (s6 _ _ hacc) hlen (by omega) ⟨Same.mut (sJ.trans s6) hD, ?_⟩
          rw [List.take_succ, hy, List.map_append]
          exact ((hJ.same s6).app fz).tps t7
        · obtain ⟨sJ, hJ⟩ := J
          rw [List.length_map, List.take_of_length_le (Nat.le_refl _)] at hJ
          have hal := hJ.len
          rw [List.length_map] at hal
          walk_at "go3"
          refine ⟨D, acc, rfl, .inl ⟨SqL.of hacc, fun p7 hp7 => ?_⟩⟩
          have s7 : Same H5 (upd H5 p7 (.tup acc)) := Same.upd hp7
          walk_at "go3"
          refine g_catT9 (s7 _ _ (sJ _ _ e34)) upd_same (by rw [sizeLine_eq]; show 1 + acc.length ≤ _; omega) fun c H8 s8 e8 => ?_
          exact q _ _ (sH4.trans (sJ.trans (s7.trans s8))) (hfill _ _ _ _ e8 ((hJ.same s7).same s8))
end
end Op

namespace Op
open PySem PySem.Spec PyProof.Rows L2 SX OpC
local macro_rules | `(tactic| walk_at "go1") => `(tactic| first
  | ((with_reducible refine' g_var ?h ?_); (case h => rfl)) | with_reducible refine' g_c ?_ | with_reducible refine' g_op ?_ | with_reducible refine' g_un ?_ | with_reducible refine' g_if ?_ | with_reducible refine' g_test ?_ | with_reducible refine' g_B ?_ | with_reducible refine' g_bl ?_
  | with_reducible refine' g_not ?_ | with_reducible refine' g_and ?_ | with_reducible refine' g_or ?_ | with_reducible refine' g_andV ?_ | with_reducible refine' g_orV ?_ | with_reducible refine' g_notV ?_ | with_reducible refine' g_nil ?_ | with_reducible refine' g_cons ?_ | with_reducible refine' g_CB ?_ | with_reducible refine' g_ca ?_
  | with_reducible refine' g_seq ?_ | with_reducible refine' g_next ?_ | with_reducible refine' g_asg ?_ | with_reducible refine' g_name ?_ | with_reducible refine' g_ret ?_ | with_reducible refine' g_retN ?_ | with_reducible refine' g_drop ?_ | with_reducible refine' g_ifS ?_ | with_reducible refine' g_sub ?_
  | with_reducible refine' g_I0 ?_ | with_reducible refine' g_U ?_ | ((with_reducible refine' g_eq ?h ?_); (case h => rfl)) | ((with_reducible refine' g_ne ?h ?_); (case h => rfl))
  | ((with_reducible refine' g_lenL ?h ?_); (case h => first | assumption | exact SqL.of (by assumption) | exact SqL.of upd_same)) | ((with_reducible refine' g_lenT ?h ?_); (case h => first | assumption | exact SqT.of (by assumption) | exact SqT.of upd_same))
  | ((with_reducible refine' g_ixL ?h ?ha ?_); (case h => first | assumption | exact SqL.of (by assumption) | exact SqL.of upd_same); (case ha => rfl)) | ((with_reducible refine' g_ixT ?h ?ha ?_); (case h => first | assumption | exact SqT.of (by assumption) | exact SqT.of upd_same); (case ha => rfl))
  | ((with_reducible refine' g_I ?h ?_); (case h => first | decide | omega | (first | refine' ⟨?_, ?_, ?_⟩ | refine' ⟨?_, ?_⟩ | refine' Or.inl ⟨?_, ?_⟩) <;> omega | (refine' Or.inr ⟨?_, ?_⟩ <;> omega)))
  | ((with_reducible refine' g_setL ?h ?ha ?_); (case h => first | assumption | exact upd_same); (case ha => rfl))
  | with_reducible refine' g_lcR ?_
  | with_reducible refine' g_M1 ?_ | with_reducible refine' g_isS ?_ | with_reducible refine' g_tyS ?_ | ((with_reducible refine' g_tyL ?h ?_); (case h => first | assumption | exact upd_same))
  | ((with_reducible refine' g_cat ?h ?h2 ?hl ?_); (case h => first | assumption | exact upd_same); (case h2 => first | assumption | exact upd_same); (case hl => first | decide | (simp; omega)))
  | with_reducible refine' g_lcS ?_
  | with_reducible refine' g_starts ?_ | with_reducible refine' g_chain ?_
  | ((with_reducible refine' g_lenS ?h ?_); (case h => first | exact len_le (by assumption) | exact len_le (by omega))) | ((with_reducible refine' g_rstrip ?h ?_); (case h => first | exact len_le (by assumption) | exact len_le (by omega))) | ((with_reducible refine' g_slX ?h ?_); (case h => first | exact len_le (by assumption) | exact len_le (by omega)))
  | with_reducible refine' g_sl ?_ | with_reducible refine' g_nopart ?_ | with_reducible refine' g_part ?_ | with_reducible refine' g_isI ?_
  | with_reducible refine' g_tru ?_
  | with_reducible refine' iteT ?_ | with_reducible refine' iteF ?_ | with_reducible refine' iteNT ?_ | with_reducible refine' iteNF ?_
  | with_reducible refine' g_int ?_ | with_reducible refine' g_insg ?_ | with_reducible refine' g_ninsg ?_ | with_reducible refine' g_isN ?_ | with_reducible refine' g_notN ?_ | with_reducible refine' g_lst ?_ | with_reducible refine' g_tup ?_ | with_reducible refine' g_BM ?_ | with_reducible refine' g_BM0 ?_)
local macro_rules | `(tactic| walk_at "go") => `(tactic| repeat' walk_at "go1")
local macro_rules | `(tactic| walk_at "go2") => `(tactic| repeat' (first | walk_at "go1" | with_reducible refine' g_cm ?_ | with_reducible refine' g_mk ?_ | with_reducible refine' g_for ?_ | ((with_reducible refine' g_rcm ?h ?ha ?_); (case h => first | assumption | exact upd_same); (case ha => first | rfl | decide | simp [List.lookup]))))
/- macro2 -/
local macro_rules | `(tactic| walk_at "go3a") => `(tactic| first
  | walk_at "go1" | with_reducible refine' g_cm ?_ | with_reducible refine' g_mk ?_ | with_reducible refine' g_for ?_ | with_reducible refine' g_fld ?_ | with_reducible refine' g_lcT0 ?_
  | ((with_reducible refine' g_rcm ?h ?ha ?_); (case h => first | assumption | exact upd_same); (case ha => first | rfl | decide | simp [List.lookup]))
  | ((with_reducible refine' g_shape ?hc ?hn ?h ?_); (case hc => assumption); (case hn => assumption); (case h => first | assumption | exact upd_same | (rw [upd_ne (by assumption)]; assumption))))
local macro_rules | `(tactic| walk_at "go3") => `(tactic| repeat' walk_at "go3a")
local macro_rules | `(tactic| walk_at "go4") => `(tactic| repeat' (first
  | walk_at "go3a" | ((with_reducible refine' iteDT ?h ?_); (case h => first | rfl | decide +kernel)) | ((with_reducible refine' iteDF ?h ?_); (case h => decide +kernel))))
/-! ## dicts made of lists of pairs -/
def pr (e : Ent) : List Nat × Fm := (e.1, e.2.1)
theorem look_pr : ∀ (l : List Ent) (t : List Nat), look l t = ((l.map pr).find? (fun p => decide (p.1 = t))).map (·.2)
  | [], t => rfl
  | y :: l, t => by
    have ih := look_pr l t
    unfold look at ih ⊢
    rw [List.map_cons, List.find?_cons, List.find?_cons]
    by_cases q : y.1 = t
    · rw [decide_eq_true q, decide_eq_true (show (pr y).1 = t from q)]
      rfl
    · rw [decide_eq_false q, decide_eq_false (show ¬ (pr y).1 = t from q)]
      exact ih
theorem look_of {l m : List Ent} (h : l.map pr = m.map pr) : ∀ t, look l t = look m t := fun t => by rw [look_pr, look_pr, h]
theorem fst_pr (l : List Ent) : l.map (·.1) = (l.map pr).map (·.1) := by
  rw [List.map_map]
  rfl
theorem merge_snoc : ∀ (es pre : List Ent), ((pre ++ es).map (·.1)).Nodup → mergeK (pre.map kvE) (es.map kvE) = (pre ++ es).map kvE
  | [], pre, _ => by rw [List.append_nil]; rfl
  | e :: es, pre, nd => by
    have hno : e.1 ∉ pre.map (·.1) := fun hin => by
      rw [List.map_append, List.map_cons] at nd
      exact (List.nodup_append.mp nd).2.2 _ hin _ List.mem_cons_self rfl
    show mergeK (putK (pre.map kvE) (.inr (S e.1)) e.2.2) (es.map kvE) = _
    rw [put_snoc hno, merge_snoc es (pre ++ [e]) (by rw [List.append_assoc]; exact nd), List.append_assoc]
    rfl
/-- pairs stand at ps -/
def PrsAt (H : Hp) (ps : List Addr) (ws : List Ent) : Prop := ps.length = ws.length ∧ ∀ (i : Nat) (p : Addr) (w : Ent), ps[i]? = some p → ws[i]? = some w → H p = some (.tup [.str (S w.1), w.2.2])
theorem PrsAt.tps {H H' : Hp} {ps : List Addr} {ws : List Ent} (h : PrsAt H ps ws) (t : Tps H H') : PrsAt H' ps ws := ⟨h.1, fun i p w hp hw => t _ _ (h.2 i p w hp hw)⟩
theorem PrsAt.snoc {H : Hp} {ps : List Addr} {ws : List Ent} {p : Addr} {w : Ent} (h : PrsAt H ps ws) (e : H p = some (.tup [.str (S w.1), w.2.2])) : PrsAt H (ps ++ [p]) (ws ++ [w]) := by
  refine ⟨by rw [List.length_append, List.length_append, h.1]; rfl, fun i p' w' hp hw => ?_⟩
  rcases Nat.lt_or_ge i ps.length with hi | hi
  · rw [List.getElem?_append_left hi] at hp
    rw [List.getElem?_append_left (h.1 ▸ hi)] at hw
    exact h.2 i p' w' hp hw
  · rw [List.getElem?_append_right hi] at hp
    rw [List.getElem?_append_right (h.1 ▸ hi)] at hw
    have h0 : i - ps.length = 0 := by
      have := (List.getElem?_eq_some_iff.mp hp).1
      simp at this
      omega
    rw [h0] at hp
    rw [← h.1, h0] at hw
    obtain rfl := Option.some.inj hp
    obtain rfl := Option.some.inj hw
    exact e
theorem PrsAt.pair {K : PySem.W.Frag} {H : Hp} : ∀ {ps : List Addr} {ws : List Ent}, PrsAt H ps ws → Paired (fun p (kv : Key × V) => SqT K H p [kV kv.1, kv.2]) ps (ws.map kvE)
  | [], [], _ => .nil
  | [], _ :: _, h => nomatch h.1
  | _ :: _, [], h => nomatch h.1
  | p :: ps, w :: ws, h => .cons (SqT.of (h.2 0 p w rfl rfl)) (PrsAt.pair (ps := ps) (ws := ws) ⟨Nat.succ.inj h.1, fun i p' w' hp hw => h.2 (i + 1) p' w' hp hw⟩)
theorem mk_dict {K : PySem.W.Frag} {H : Hp} {D : Addr} {ps : List Addr} {ws : List Ent} {Q : VK} (e : H D = some (.lst (ps.map V.ref))) (h : PrsAt H ps ws) (nd : (ws.map (·.1)).Nodup) (q : ∀ p, H p = none → Q (.ref p) (upd H p (.dK (ws.map kvE)))) :
    ∃ (a : Addr) (ps : List Addr) (kvs : List (Key × V)), [V.ref D] = [V.ref a] ∧ SqL K H a (ps.map V.ref) ∧ Paired (fun p kv => SqT K H p [kV kv.1, kv.2]) ps kvs ∧ ∀ p, H p = none → Q (.ref p) (upd H p (.dK (mergeK [] kvs))) := by
  refine ⟨D, ps, ws.map kvE, rfl, SqL.of e, h.pair, fun p hp => ?_⟩
  have z := merge_snoc ws [] nd
  rw [show mergeK [] (ws.map kvE) = ws.map kvE from z]
  exact q p hp
theorem lc_pairs {R : Hp → V → Fm → Prop} {F : Fm → Fm} {td te : TE} {σ : L2.St} {H : Hp} {Q : VK} {j : Nat} {vs : List Nat} {d : Addr} {o : Obj} {es : List Ent} (Rs : ∀ H H' x g, Same H H' → R H x g → R H' x g) (Rm : ∀ H D acc u x g, H D = some (.lst acc) → R H x g → R (upd H D u) x g)
    (ht : ∀ R : VK, R (.ref d) H → td σ H R) (hd : H d = some (.frz o (.dK (es.map kvE)))) (hl : es.length < 1000) (hw : ∀ x, wipe ((wipe σ vs).set j (some x)) vs = wipe σ vs)
    (he : ∀ (e : Ent) (H2 : Hp) (k : VK), e ∈ es → Same H H2 → (∀ H5 p y, Same H2 H5 → H5 p = some (.tup [.str (S e.1), y]) → R H5 y (F e.2.1) → k (.ref p) H5) → te ((wipe σ vs).set j (some (.str (S e.1)))) H2 k)
    (hq : ∀ D H2 ps ws, H D = none → Same H H2 → H2 D = some (.lst (ps.map V.ref)) → PrsAt H2 ps ws → ws.map pr = es.map (fun e => (e.1, F e.2.1)) → (∀ w ∈ ws, R H2 w.2.2 w.2.1) → Q (.ref D) H2) : tLc (iKeys td) (gName j) tYes te vs σ H Q := by
  refine lc_keys ht hd (by rw [List.length_map]; omega) (fun D i acc H2 => Same H H2 ∧ ∃ (ps : List Addr) (ws : List Ent), acc = ps.map V.ref ∧ PrsAt H2 ps ws ∧ ws.map pr = (es.take i).map (fun e => (e.1, F e.2.1)) ∧ ∀ w ∈ ws, R H2 w.2.2 w.2.1) hw (fun D i acc H2 J => J.1 _ _ hd)
    (fun D hD => ⟨Same.upd hD, [], [], rfl, ⟨rfl, fun i p w hp => by simp at hp⟩, by simp, fun w hw => nomatch hw⟩) (fun D i k v acc H2 hD hk hacc hlen J => ?_) (fun D acc H2 hD hacc hlen J => ?_)
  · obtain ⟨sJ, ps, ws, rfl, hP, hpr, hR⟩ := J
    rw [List.getElem?_map] at hk
    obtain ⟨e, hee, hkv⟩ := Option.map_eq_some_iff.mp hk
    injection hkv with hk1 hk2
    subst hk1 hk2
    have hi : i < es.length := (List.getElem?_eq_some_iff.mp hee).1
    refine he e H2 _ (List.mem_of_getElem? hee) sJ fun H5 p y s5 e5 r5 => ?_
    have hacc5 := s5 _ _ hacc
    have t6 : Tps H5 (upd H5 D (.lst (ps.map V.ref ++ [.ref p]))) := Tps.lst hacc5
    refine lcPost.of hacc5 hlen (by omega) ⟨Same.mut (sJ.trans s5) hD, ps ++ [p], ws ++ [(e.1, F e.2.1, y)], by rw [List.map_append]; rfl, ((hP.tps (Tps.same s5)).snoc (w := (e.1, F e.2.1, y)) e5).tps t6, ?_, fun w hw => ?_⟩
    · rw [List.map_append, hpr, List.take_succ, hee, List.map_append]
      rfl
    · rcases List.mem_append.mp hw with hw | hw
      · exact Rm _ _ _ _ _ _ hacc5 (Rs _ _ _ _ s5 (hR w hw))
      · rw [List.mem_singleton.mp hw]
        exact Rm _ _ _ _ _ _ hacc5 r5
  · obtain ⟨sJ, ps, ws, rfl, hP, hpr, hR⟩ := J
    rw [List.length_map, List.take_of_length_le (Nat.le_refl _)] at hpr
    exact hq D H2 ps ws hD sJ hacc hP hpr hR
def spLetters (CL : Addr) (n : Nat) : Sp := fun vs H Q _ => ∃ (d : Addr) (es : List Ent), vs = [.ref d] ∧ FrmAt H d es ∧ (∀ e ∈ es, e.2.1.ok = true ∧ e.2.1.dep < n) ∧ ∀ H' p es', Same H H' → H p = none → FilAt CL H' p es' → es'.map pr = es.map pr → Q (.ref p) H'
def spForms (CL : Addr) : Sp := fun vs H Q _ => ∃ (d : Addr) (es : List Ent), vs = [.ref d] ∧ FilAt CL H d es ∧ ∀ H' p es', Same H H' → H p = none → FrmAt H' p es' → es'.map pr = es.map pr → Q (.ref p) H'
theorem FmAt.lock {H : Hp} {d : Addr} {kvs : List (Key × V)} {v : HO} {x : V} {a : Fm} (f : FmAt H x a) (e : H d = some (.dK kvs)) : FmAt (upd H d v) x a := f.tps (Tps.lock e)
end Op

namespace Op
open PySem PySem.Spec PyProof.Rows L2 SX OpC
/-- good, at most so deep and so large -/
def Bnd (d z : Nat) (g : Fm) : Prop := g.ok = true ∧ g.dep ≤ d ∧ g.size ≤ z
theorem isKey_fill {φ : List Nat → Option Fm} : ∀ {b : Fm}, b.isKey = true → (b.fill φ).isKey = true
  | .atm _ _, h => nomatch h
  | .un _ _, h => h
  | .bi _ _ _, h => nomatch h
theorem fill_bnd {φ : List Nat → Option Fm} {d z : Nat} (hz : 1 ≤ z) (h : ∀ t g, φ t = some g → Bnd d z g) : ∀ a : Fm, a.ok = true → Bnd (a.dep + d) (a.size * z) (a.fill φ)
  | .atm k t, ok => by
    show Bnd (0 + d) (1 * z) (if k = kUnk then (φ t).getD (.atm k t) else .atm k t)
    have base : Bnd (0 + d) (1 * z) (.atm k t) := ⟨ok, Nat.zero_le _, by show 1 ≤ 1 * z; omega⟩
    by_cases e : k = kUnk
    · rw [if_pos e]
      cases hf : φ t with
      | none => exact base
      | some g =>
        obtain ⟨h1, h2, h3⟩ := h t g hf
        exact ⟨h1, by show g.dep ≤ _; omega, by show g.size ≤ _; omega⟩
    · rw [if_neg e]
      exact base
  | .un k a, ok => by
    simp only [Fm.ok, Bool.and_eq_true] at ok
    obtain ⟨h1, h2, h3⟩ := fill_bnd hz h a ok.2
    refine ⟨?_, ?_, ?_⟩
    · show (unK k && (a.fill φ).ok) = true
      rw [ok.1, h1]
      rfl
    · show (a.fill φ).dep + 1 ≤ a.dep + 1 + d
      omega
    · show (a.fill φ).size + 1 ≤ (a.size + 1) * z
      rw [Nat.add_mul]
      omega
  | .bi k a b, ok => by
    simp only [Fm.ok, Bool.and_eq_true] at ok
    obtain ⟨h1, h2, h3⟩ := fill_bnd hz h a ok.2.2.1
    obtain ⟨g1, g2, g3⟩ := fill_bnd hz h b ok.2.2.2
    refine ⟨?_, ?_, ?_⟩
    · show (biK k && ((!(k == kLock) || (b.fill φ).isKey) && ((a.fill φ).ok && (b.fill φ).ok))) = true
      rw [ok.1, h1, g1]
      have := ok.2.1
      rw [Bool.or_eq_true] at this
      rcases this with t | t
      · rw [t]
        rfl
      · rw [isKey_fill t, Bool.or_true]
        rfl
    · show max (a.fill φ).dep (b.fill φ).dep + 1 ≤ max a.dep b.dep + 1 + d
      omega
    · show (a.fill φ).size + (b.fill φ).size + 1 ≤ (a.size + b.size + 1) * z
      rw [Nat.add_mul, Nat.add_mul]
      omega
theorem look_bnd {es : List Ent} {d z : Nat} (h : ∀ e ∈ es, Bnd d z e.2.1) : ∀ t g, look es t = some g → Bnd d z g := fun t g hg => by
  obtain ⟨e, he, _, rfl⟩ := look_mem hg
  exact h e he
theorem us_xyz {H : Hp} {p : Addr} (h : H p = some (.lst [.str (Str.ofString "x"), .str (Str.ofString "y"), .str (Str.ofString "z")])) : UsAt H p [[120], [121], [122]] := ⟨by
  rw [h, show Str.ofString "x" = S [120] by decide +kernel, show Str.ofString "y" = S [121] by decide +kernel, show Str.ofString "z" = S [122] by decide +kernel]
  rfl, by decide +kernel, by decide⟩
end Op

namespace Op
open PySem PySem.Spec PyProof.Rows L2 SX OpC
local macro_rules | `(tactic| walk_at "go1") => `(tactic| first
  | ((with_reducible refine' g_var ?h ?_); (case h => rfl)) | with_reducible refine' g_c ?_ | with_reducible refine' g_op ?_ | with_reducible refine' g_un ?_ | with_reducible refine' g_if ?_ | with_reducible refine' g_test ?_ | with_reducible refine' g_B ?_ | with_reducible refine' g_bl ?_
  | with_reducible refine' g_not ?_ | with_reducible refine' g_and ?_ | with_reducible refine' g_or ?_ | with_reducible refine' g_andV ?_ | with_reducible refine' g_orV ?_ | with_reducible refine' g_notV ?_ | with_reducible refine' g_nil ?_ | with_reducible refine' g_cons ?_ | with_reducible refine' g_CB ?_ | with_reducible refine' g_ca ?_
  | with_reducible refine' g_seq ?_ | with_reducible refine' g_next ?_ | with_reducible refine' g_asg ?_ | with_reducible refine' g_name ?_ | with_reducible refine' g_ret ?_ | with_reducible refine' g_retN ?_ | with_reducible refine' g_drop ?_ | with_reducible refine' g_ifS ?_ | with_reducible refine' g_sub ?_
  | with_reducible refine' g_I0 ?_ | with_reducible refine' g_U ?_ | ((with_reducible refine' g_eq ?h ?_); (case h => rfl)) | ((with_reducible refine' g_ne ?h ?_); (case h => rfl))
  | ((with_reducible refine' g_lenL ?h ?_); (case h => first | assumption | exact SqL.of (by assumption) | exact SqL.of upd_same)) | ((with_reducible refine' g_lenT ?h ?_); (case h => first | assumption | exact SqT.of (by assumption) | exact SqT.of upd_same))
  | ((with_reducible refine' g_ixL ?h ?ha ?_); (case h => first | assumption | exact SqL.of (by assumption) | exact SqL.of upd_same); (case ha => rfl)) | ((with_reducible refine' g_ixT ?h ?ha ?_); (case h => first | assumption | exact SqT.of (by assumption) | exact SqT.of upd_same); (case ha => rfl))
  | ((with_reducible refine' g_I ?h ?_); (case h => first | decide | omega | (first | refine' ⟨?_, ?_, ?_⟩ | refine' ⟨?_, ?_⟩ | refine' Or.inl ⟨?_, ?_⟩) <;> omega | (refine' Or.inr ⟨?_, ?_⟩ <;> omega)))
  | ((with_reducible refine' g_setL ?h ?ha ?_); (case h => first | assumption | exact upd_same); (case ha => rfl))
  | with_reducible refine' g_lcR ?_
  | with_reducible refine' g_M1 ?_ | with_reducible refine' g_isS ?_ | with_reducible refine' g_tyS ?_ | ((with_reducible refine' g_tyL ?h ?_); (case h => first | assumption | exact upd_same))
  | ((with_reducible refine' g_cat ?h ?h2 ?hl ?_); (case h => first | assumption | exact upd_same); (case h2 => first | assumption | exact upd_same); (case hl => first | decide | (simp; omega)))
  | with_reducible refine' g_lcS ?_
  | with_reducible refine' g_starts ?_ | with_reducible refine' g_chain ?_
  | ((with_reducible refine' g_lenS ?h ?_); (case h => first | exact len_le (by assumption) | exact len_le (by omega))) | ((with_reducible refine' g_rstrip ?h ?_); (case h => first | exact len_le (by assumption) | exact len_le (by omega))) | ((with_reducible refine' g_slX ?h ?_); (case h => first | exact len_le (by assumption) | exact len_le (by omega)))
  | with_reducible refine' g_sl ?_ | with_reducible refine' g_nopart ?_ | with_reducible refine' g_part ?_ | with_reducible refine' g_isI ?_
  | with_reducible refine' g_tru ?_
  | with_reducible refine' iteT ?_ | with_reducible refine' iteF ?_ | with_reducible refine' iteNT ?_ | with_reducible refine' iteNF ?_
  | with_reducible refine' g_int ?_ | with_reducible refine' g_insg ?_ | with_reducible refine' g_ninsg ?_ | with_reducible refine' g_isN ?_ | with_reducible refine' g_notN ?_ | with_reducible refine' g_lst ?_ | with_reducible refine' g_tup ?_ | with_reducible refine' g_BM ?_ | with_reducible refine' g_BM0 ?_)
local macro_rules | `(tactic| walk_at "go") => `(tactic| repeat' walk_at "go1")
local macro_rules | `(tactic| walk_at "go2") => `(tactic| repeat' (first | walk_at "go1" | with_reducible refine' g_cm ?_ | with_reducible refine' g_mk ?_ | with_reducible refine' g_for ?_ | ((with_reducible refine' g_rcm ?h ?ha ?_); (case h => first | assumption | exact upd_same); (case ha => first | rfl | decide | simp [List.lookup]))))
/- macro2 -/
local macro_rules | `(tactic| walk_at "go3a") => `(tactic| first
  | walk_at "go1" | with_reducible refine' g_cm ?_ | with_reducible refine' g_mk ?_ | with_reducible refine' g_for ?_ | with_reducible refine' g_fld ?_ | with_reducible refine' g_lcT0 ?_
  | ((with_reducible refine' g_rcm ?h ?ha ?_); (case h => first | assumption | exact upd_same); (case ha => first | rfl | decide | simp [List.lookup]))
  | ((with_reducible refine' g_shape ?hc ?hn ?h ?_); (case hc => assumption); (case hn => assumption); (case h => first | assumption | exact upd_same | (rw [upd_ne (by assumption)]; assumption))))
local macro_rules | `(tactic| walk_at "go3") => `(tactic| repeat' walk_at "go3a")
local macro_rules | `(tactic| walk_at "go4") => `(tactic| repeat' (first
  | walk_at "go3a" | ((with_reducible refine' iteDT ?h ?_); (case h => first | rfl | decide +kernel)) | ((with_reducible refine' iteDF ?h ?_); (case h => decide +kernel))))
theorem g_dsetd {td ty tx : TE} {σ : L2.St} {H : Hp} {Q : VK} (k : td σ H fun x H1 => ∃ a, x = .ref a ∧ IsD H1 a ∧ ty σ H1 fun y H2 => tx σ H2 fun z H3 => ∃ (kvs : List (Key × V)) (k : Key), H3 a = some (.dK kvs) ∧ y = kV k ∧ kvs.length < sizeLine ∧
  (∀ v, valV kvs k = some v → Q v H3) ∧ (valV kvs k = none → Q z (upd H3 a (.dK (putK kvs k z))))) : tDSetd td ty tx σ H Q := k
/-! ## a pattern becomes a form -/
/-- by φ, all its unknowns being bound -/
def Mt (φ : List Nat → Option Fm) : Fm → Fm → Prop
  | .atm k t, f => if k = kUnk then φ t = some f else f = .atm k t
  | .un k a, f => ∃ b, f = .un k b ∧ Mt φ a b
  | .bi k a b, f => ∃ c d, f = .bi k c d ∧ Mt φ a c ∧ Mt φ b d
def Ext (ψ φ : List Nat → Option Fm) : Prop := ∀ t g, φ t = some g → ψ t = some g
/-- the pattern's fillings are those behind the dict and what is left -/
def Best (p f : Fm) (φ : List Nat → Option Fm) (L : List (Fm × Fm)) : Prop := ∀ ψ, Mt ψ p f ↔ Ext ψ φ ∧ ∀ x ∈ L, Mt ψ x.1 x.2
def Never (p f : Fm) : Prop := ∀ ψ, ¬ Mt ψ p f
theorem Best.start (p f : Fm) : Best p f (fun _ => none) [(p, f)] := fun ψ => ⟨fun h => ⟨fun t g e => (nomatch e), fun x hx => by
  rw [List.mem_singleton.mp hx]
  exact h⟩, fun h => h.2 _ List.mem_cons_self⟩
theorem Best.drop {p f a b : Fm} {φ : List Nat → Option Fm} {L : List (Fm × Fm)} (h : Best p f φ ((a, b) :: L)) (q : ∀ ψ, Ext ψ φ → Mt ψ a b) : Best p f φ L := fun ψ => by
  rw [h ψ]
  refine ⟨fun ⟨h1, h2⟩ => ⟨h1, fun x hx => h2 x (List.mem_cons_of_mem _ hx)⟩, fun ⟨h1, h2⟩ => ⟨h1, fun x hx => ?_⟩⟩
  rcases List.mem_cons.mp hx with rfl | hx
  · exact q ψ h1
  · exact h2 x hx
theorem Best.never {p f a b : Fm} {φ : List Nat → Option Fm} {L : List (Fm × Fm)} (h : Best p f φ ((a, b) :: L)) (q : ∀ ψ, Ext ψ φ → ¬ Mt ψ a b) : Never p f := fun ψ hm => by
  obtain ⟨h1, h2⟩ := (h ψ).mp hm
  exact q ψ h1 (h2 _ List.mem_cons_self)
theorem Best.put {p f b : Fm} {t : List Nat} {φ φ' : List Nat → Option Fm} {L : List (Fm × Fm)} (h : Best p f φ ((.atm kUnk t, b) :: L)) (n : φ t = none) (e : ∀ u, φ' u = if t = u then some b else φ u) : Best p f φ' L := fun ψ => by
  rw [h ψ]
  refine ⟨fun ⟨h1, h2⟩ => ⟨fun u g hu => ?_, fun x hx => h2 x (List.mem_cons_of_mem _ hx)⟩, fun ⟨h1, h2⟩ => ⟨fun u g hu => ?_, fun x hx => ?_⟩⟩
  · rw [e] at hu
    by_cases z : t = u
    · rw [if_pos z] at hu
      have := h2 _ List.mem_cons_self
      rw [← z, ← hu]
      have m : (if kUnk = kUnk then ψ t = some b else b = .atm kUnk t) := this
      rw [if_pos rfl] at m
      exact m
    · rw [if_neg z] at hu
      exact h1 u g hu
  · refine h1 u g ?_
    rw [e, if_neg (fun z => by rw [← z, n] at hu; cases hu)]
    exact hu
  · rcases List.mem_cons.mp hx with rfl | hx
    · show (if kUnk = kUnk then ψ t = some b else b = .atm kUnk t)
      rw [if_pos rfl]
      exact h1 t b (by rw [e, if_pos rfl])
    · exact h2 x hx
theorem Best.kids {p f a b : Fm} {φ : List Nat → Option Fm} {L M : List (Fm × Fm)} (h : Best p f φ ((a, b) :: L)) (q : ∀ ψ, Mt ψ a b ↔ ∀ x ∈ M, Mt ψ x.1 x.2) (L' : List (Fm × Fm)) (e : ∀ x, x ∈ L' ↔ x ∈ M ∨ x ∈ L) : Best p f φ L' := fun ψ => by
  rw [h ψ]
  refine ⟨fun ⟨h1, h2⟩ => ⟨h1, fun x hx => ?_⟩, fun ⟨h1, h2⟩ => ⟨h1, fun x hx => ?_⟩⟩
  · rcases (e x).mp hx with hx | hx
    · exact (q ψ).mp (h2 _ List.mem_cons_self) x hx
    · exact h2 x (List.mem_cons_of_mem _ hx)
  · rcases List.mem_cons.mp hx with rfl | hx
    · exact (q ψ).mpr fun y hy => h2 y ((e y).mpr (.inl hy))
    · exact h2 x ((e x).mpr (.inr hx))
theorem Best.one {p f : Fm} {φ φ' : List Nat → Option Fm} (h : Best p f φ []) (h' : Best p f φ' []) : φ = φ' := by
  have ex : ∀ {a b : List Nat → Option Fm}, Best p f a [] → Best p f b [] → Ext b a := fun {a b} ha hb => by
    have : Mt b p f := (hb b).mpr ⟨fun _ _ e => e, fun x hx => nomatch hx⟩
    exact ((ha b).mp this).1
  have e1 := ex h h'
  have e2 := ex h' h
  funext t
  cases ht : φ t with
  | some g => exact (e1 t g ht).symm
  | none =>
    cases ht' : φ' t with
    | none => rfl
    | some g => 
      have := e2 t g ht'
      rw [ht] at this
      cases this
theorem Best.yes {p f : Fm} {φ : List Nat → Option Fm} (h : Best p f φ []) : ¬ Never p f := fun n => n φ ((h φ).mpr ⟨fun _ _ e => e, fun x hx => nomatch hx⟩)
/-! ### forms compared as data tell whether they are one -/
theorem eqv2 (k k' : Str) (x y : PyData) : PyData.eqv (.tuple [.str k, x]) (.tuple [.str k', y]) = (PyData.eqv (.str k) (.str k') && (PyData.eqv x y && true)) := rfl
theorem eqv3 (k k' : Str) (x y z u : PyData) : PyData.eqv (.tuple [.str k, x, z]) (.tuple [.str k', y, u]) = (PyData.eqv (.str k) (.str k') && (PyData.eqv x y && (PyData.eqv z u && true))) := rfl
theorem eqv23 (k k' : Str) (x y u : PyData) : PyData.eqv (.tuple [.str k, x]) (.tuple [.str k', y, u]) = (PyData.eqv (.str k) (.str k') && (PyData.eqv x y && false)) := rfl
theorem eqv32 (k k' : Str) (x y z : PyData) : PyData.eqv (.tuple [.str k, x, z]) (.tuple [.str k', y]) = (PyData.eqv (.str k) (.str k') && (PyData.eqv x y && false)) := rfl
theorem eqvs (k k' : Str) : PyData.eqv (.str k) (.str k') = (k == k') := rfl
theorem eqvst (k : Str) (l : List PyData) : PyData.eqv (.str k) (.tuple l) = false := rfl
theorem eqvts (k : Str) (l : List PyData) : PyData.eqv (.tuple l) (.str k) = false := rfl
theorem Fm.tupd (a : Fm) : ∃ l, a.data = .tuple l := by cases a <;> exact ⟨_, rfl⟩
theorem Fm.data_inj {a b : Fm} (h : PyData.eqv a.data b.data = true) : a = b := by
  induction a generalizing b with
  | atm k t =>
    cases b with
    | atm k' t' =>
      rw [show PyData.eqv (Fm.atm k t).data (Fm.atm k' t').data = _ from eqv2 _ _ _ _, eqvs, eqvs, Bool.and_eq_true, Bool.and_eq_true, beq_iff_eq, beq_iff_eq] at h
      rw [h.1, S_one h.2.1]
    | un k' b =>
      obtain ⟨l, hl⟩ := b.tupd
      rw [show PyData.eqv (Fm.atm k t).data (Fm.un k' b).data = _ from eqv2 _ _ _ _, hl, eqvst, Bool.false_and, Bool.and_false] at h
      cases h
    | bi k' b c =>
      rw [show PyData.eqv (Fm.atm k t).data (Fm.bi k' b c).data = _ from eqv23 _ _ _ _ _, Bool.and_false, Bool.and_false] at h
      cases h
  | un k a ih =>
    cases b with
    | atm k' t' =>
      obtain ⟨l, hl⟩ := a.tupd
      rw [show PyData.eqv (Fm.un k a).data (Fm.atm k' t').data = _ from eqv2 _ _ _ _, hl, eqvts, Bool.false_and, Bool.and_false] at h
      cases h
    | un k' b =>
      rw [show PyData.eqv (Fm.un k a).data (Fm.un k' b).data = _ from eqv2 _ _ _ _, eqvs, Bool.and_eq_true, Bool.and_eq_true, beq_iff_eq] at h
      rw [h.1, ih h.2.1]
    | bi k' b c =>
      rw [show PyData.eqv (Fm.un k a).data (Fm.bi k' b c).data = _ from eqv23 _ _ _ _ _, Bool.and_false, Bool.and_false] at h
      cases h
  | bi k a c ih1 ih2 =>
    cases b with
    | atm k' t' =>
      rw [show PyData.eqv (Fm.bi k a c).data (Fm.atm k' t').data = _ from eqv32 _ _ _ _ _, Bool.and_false, Bool.and_false] at h
      cases h
    | un k' b =>
      rw [show PyData.eqv (Fm.bi k a c).data (Fm.un k' b).data = _ from eqv32 _ _ _ _ _, Bool.and_false, Bool.and_false] at h
      cases h
    | bi k' b d =>
      rw [show PyData.eqv (Fm.bi k a c).data (Fm.bi k' b d).data = _ from eqv3 _ _ _ _ _ _, eqvs, Bool.and_eq_true, Bool.and_eq_true, Bool.and_eq_true, beq_iff_eq] at h
      rw [h.1, ih1 h.2.1, ih2 h.2.2.1]
/-- u != v of two forms -/
theorem fm_ne10 {K : PySem.W.Frag} {H : Hp} {u v : V} {a b : Fm} {Q : VK} (f1 : FmAt H u a) (f2 : FmAt H v b) (oa : a.ok = true) (ob : b.ok = true) (da : a.dep ≤ 60) (db : b.dep ≤ 60) (q1 : a = b → Q (.bl false) H) (q2 : a ≠ b → Q (.bl true) H) : rNeD K u v H Q := by
  refine ⟨_, _, dp_fm f1, dp_fm f2, Fm.shaped oa da, Fm.shaped ob db, ?_⟩
  cases he : PyData.eqv a.data b.data with
  | true => exact q1 (Fm.data_inj he)
  | false =>
    refine q2 fun z => ?_
    rw [z, SeqAt.eqv_refl _ (SeqAt.canLay_of_shaped (Fm.shaped ob db))] at he
    cases he
/-- what stands at a pattern's and a form's places -/
theorem two10 {H : Hp} {u w : V} {a b : Fm} (fa : FmAt H u a) (fb : FmAt H w b) (oa : a.ok = true) (ob : b.ok = true) : (∃ p k t, u = .ref p ∧ a = .atm k t ∧ H p = some (.tup [.str k, .str (S t)]) ∧ atK k = true) ∨
    ∃ (p : Addr) (k : Str) (cs : List V) (q : Addr) (j : Str) (ds : List V), u = .ref p ∧ H p = some (.tup (.str k :: cs)) ∧ atK k = false ∧ w = .ref q ∧ H q = some (.tup (.str j :: ds)) ∧ ((k ≠ j ∧ a ≠ b ∧ ∀ ψ, ¬ Mt ψ a b) ∨
      (k = j ∧ ∃ ks ls : List (V × Fm), cs = ks.map (·.1) ∧ ds = ls.map (·.1) ∧ ks.length = ls.length ∧ ks.length ≤ 2 ∧ (∀ y ∈ ks, FmAt H y.1 y.2 ∧ y.2.ok = true ∧ y.2.dep < a.dep) ∧ (∀ y ∈ ls, FmAt H y.1 y.2 ∧ y.2.ok = true ∧ y.2.dep < b.dep) ∧
        (ks.map fun y => y.2.size).sum < a.size ∧ ∀ ψ, Mt ψ a b ↔ ∀ x ∈ ks.zip ls, Mt ψ x.1.2 x.2.2)) := by
  have at_un : ∀ {k : Str}, atK k = true → unK k = true → False := fun h1 h2 => by rw [unK_at h2] at h1; cases h1
  have at_bi : ∀ {k : Str}, atK k = true → biK k = true → False := fun h1 h2 => by rw [biK_at h2] at h1; cases h1
  have un_bi : ∀ {k : Str}, unK k = true → biK k = true → False := fun {k} h1 h2 => by
    simp only [unK, biK, Bool.or_eq_true, beq_iff_eq] at h1 h2
    rcases h1 with (rfl | rfl) | rfl <;> rcases h2 with (h | h) | h <;> revert h <;> decide +kernel
  cases fa with
  | @atm p k t h => exact .inl ⟨p, k, t, rfl, rfl, h, Fm.ok_kin oa⟩
  | @un p k v1 a1 h f1 =>
    simp only [Fm.ok, Bool.and_eq_true] at oa
    cases fb with
    | @atm q j t g =>
      refine .inr ⟨p, k, _, q, j, _, rfl, h, unK_at oa.1, rfl, g, .inl ⟨fun z => at_un (k := j) (Fm.ok_kin ob) (z ▸ oa.1), fun z => (nomatch z), fun ψ m => ?_⟩⟩
      obtain ⟨_, z, _⟩ := m
      cases z
    | @un q j w1 b1 g g1 =>
      simp only [Fm.ok, Bool.and_eq_true] at ob
      refine .inr ⟨p, k, _, q, j, _, rfl, h, unK_at oa.1, rfl, g, ?_⟩
      by_cases z : k = j
      · subst z
        refine .inr ⟨rfl, [(v1, a1)], [(w1, b1)], rfl, rfl, rfl, by show 1 ≤ 2; decide, fun y hy => ?_, fun y hy => ?_, by show a1.size + 0 < a1.size + 1; omega, fun ψ => ⟨fun m x hx => ?_, fun m => ⟨b1, rfl, m ((v1, a1), (w1, b1)) List.mem_cons_self⟩⟩⟩
        · rw [List.mem_singleton.mp hy]
          exact ⟨f1, oa.2, Nat.lt_succ_self _⟩
        · rw [List.mem_singleton.mp hy]
          exact ⟨g1, ob.2, Nat.lt_succ_self _⟩
        · obtain ⟨c, e, m⟩ := m
          injection e with _ e
          rw [List.mem_singleton.mp hx]
          show Mt ψ a1 b1
          rw [e]
          exact m
      · refine .inl ⟨z, fun e => z (by injection e), fun ψ m => ?_⟩
        obtain ⟨c, e, m⟩ := m
        injection e with e
        exact z e.symm
    | @bi q j w1 w2 b1 b2 g g1 g2 =>
      simp only [Fm.ok, Bool.and_eq_true] at ob
      refine .inr ⟨p, k, _, q, j, _, rfl, h, unK_at oa.1, rfl, g, .inl ⟨fun z => un_bi oa.1 (z ▸ ob.1), fun z => (nomatch z), fun ψ m => ?_⟩⟩
      obtain ⟨_, z, _⟩ := m
      cases z
  | @bi p k v1 v2 a1 a2 h f1 f2 =>
    simp only [Fm.ok, Bool.and_eq_true] at oa
    cases fb with
    | @atm q j t g =>
      refine .inr ⟨p, k, _, q, j, _, rfl, h, biK_at oa.1, rfl, g, .inl ⟨fun z => at_bi (k := j) (Fm.ok_kin ob) (z ▸ oa.1), fun z => (nomatch z), fun ψ m => ?_⟩⟩
      obtain ⟨_, _, z, _⟩ := m
      cases z
    | @un q j w1 b1 g g1 =>
      simp only [Fm.ok, Bool.and_eq_true] at ob
      refine .inr ⟨p, k, _, q, j, _, rfl, h, biK_at oa.1, rfl, g, .inl ⟨fun z => un_bi ob.1 (z ▸ oa.1), fun z => (nomatch z), fun ψ m => ?_⟩⟩
      obtain ⟨_, _, z, _⟩ := m
      cases z
    | @bi q j w1 w2 b1 b2 g g1 g2 =>
      simp only [Fm.ok, Bool.and_eq_true] at ob
      refine .inr ⟨p, k, _, q, j, _, rfl, h, biK_at oa.1, rfl, g, ?_⟩
      by_cases z : k = j
      · subst z
        refine .inr ⟨rfl, [(v1, a1), (v2, a2)], [(w1, b1), (w2, b2)], rfl, rfl, rfl, by show 2 ≤ 2; decide, fun y hy => ?_, fun y hy => ?_, by show a1.size + (a2.size + 0) < a1.size + a2.size + 1; omega, fun ψ => ⟨fun m x hx => ?_, fun m => ⟨b1, b2, rfl, m ((v1, a1), (w1, b1)) List.mem_cons_self, m ((v2, a2), (w2, b2)) (List.mem_cons_of_mem _ List.mem_cons_self)⟩⟩⟩
        · simp only [List.mem_cons, List.not_mem_nil, or_false] at hy
          rcases hy with rfl | rfl
          · exact ⟨f1, oa.2.2.1, by show a1.dep < max a1.dep a2.dep + 1; omega⟩
          · exact ⟨f2, oa.2.2.2, by show a2.dep < max a1.dep a2.dep + 1; omega⟩
        · simp only [List.mem_cons, List.not_mem_nil, or_false] at hy
          rcases hy with rfl | rfl
          · exact ⟨g1, ob.2.2.1, by show b1.dep < max b1.dep b2.dep + 1; omega⟩
          · exact ⟨g2, ob.2.2.2, by show b2.dep < max b1.dep b2.dep + 1; omega⟩
        · obtain ⟨c, d, e, m1, m2⟩ := m
          injection e with _ e1 e2
          have hx2 : x ∈ [((v1, a1), (w1, b1)), ((v2, a2), (w2, b2))] := hx
          simp only [List.mem_cons, List.not_mem_nil, or_false] at hx2
          rcases hx2 with rfl | rfl
          · show Mt ψ a1 b1
            rw [e1]
            exact m1
          · show Mt ψ a2 b2
            rw [e2]
            exact m2
      · refine .inl ⟨z, fun e => z (by injection e), fun ψ m => ?_⟩
        obtain ⟨c, d, e, _⟩ := m
        injection e with e
        exact z e.symm
def spLettered (CL : Addr) : Sp := fun vs H Q _ => ∃ (d : Addr) (es : List Ent), vs = [.ref d] ∧ FrmAt H d es ∧ ∀ H' p es', Same H H' → H p = none → FilAt CL H' p es' → es'.map pr = es.map pr → Q (.ref p) H'
def spMatch (CL : Addr) : Sp := fun vs H Q _ => ∃ (x y : V) (a b : Fm), vs = [x, y] ∧ LetAt CL H x a ∧ LetAt CL H y b ∧ a.ok = true ∧ b.ok = true ∧ a.dep ≤ 60 ∧ b.dep ≤ 60 ∧ a.size ≤ 900 ∧
  (∀ H', Same H H' → Never a b → Q .non H') ∧ ∀ H' p es, Same H H' → H p = none → FilAt CL H' p es → Best a b (look es) [] → (∀ e ∈ es, e.2.1.ok = true ∧ e.2.1.dep ≤ 60) → Q (.ref p) H'
section
variable {P : Program} {w : World} {K : PySem.W.Frag} {mg : Str → Option Value} {base : Heap} {CL CE : Addr}
theorem ca_lettered (T : Bl K mg) (L : Lt K mg CL) (D : Df K mg "lettered" s_lettered p_lettered) (c_Letter : Ck P w K mg base 4 "Letter" CL (spInit2 CL CE)) : Ca P w K mg base 6 "lettered" (spLettered CL) := by
  refine ca_n D sc_lettered (fun vs H Q E h => ?_) (fun f cdv A outer s H vs Q E hr h => ?_)
  · obtain ⟨d, es, rfl, _⟩ := h
    rfl
  · obtain ⟨d, es, rfl, hF, q⟩ := h
    have lcl := L.cl
    have lno := L.no
    refine ⟨_, (pss_one (ps_ret (pe_lock (pe_dc (own := [("unknown", 1)]) (g := gName 1) (tt := tYes) rfl sc_lettered.nd (pi_keys (pv 0)) (blkOk_by (own := [("unknown", 1)]) (N := N_lettered) (sc := defScope s_lettered) (by decide +kernel)) (fun _ _ _ _ _ => pg_name (i := 1) sc_lettered.nd rfl (Or.inl rfl)) (fun _ _ _ _ _ => pts_nil) (fun _ _ _ _ _ => (pv 1)) (fun _ _ _ _ _ => (pe_mk (E := fun _ => E0) c_Letter hr (by decide) passE0 (by rfl) (pa_cons (pe_dget (hu_of hr) (pv 0) (pv 1) (fun _ _ => rfl)) pa_nil))))))), ?_⟩
    walk_at "go3"
    refine g_lockE hF.1 fun od => ?_
    have e1 : upd H d (.frz od (.dK (es.map kvE))) d = some (.frz od (.dK (es.map kvE))) := upd_same
    have un : ∀ H', Same (upd H d (.frz od (.dK (es.map kvE)))) H' → Same H (upd H' d (.dK (es.map kvE))) := fun H' s => lock_same hF.1 s
    have hL1 : ∀ e ∈ es, FmAt (upd H d (.frz od (.dK (es.map kvE)))) e.2.2 e.2.1 := fun e he => (hF.2.1 e he).lock hF.1
    have fr : ∀ b, upd H d (.frz od (.dK (es.map kvE))) b = none → b ≠ d ∧ H b = none := fun b hb => by
      have z : b ≠ d := fun z => by rw [z, upd_same] at hb; cases hb
      rw [upd_ne z] at hb
      exact ⟨z, hb⟩
    generalize upd H d (.frz od (.dK (es.map kvE))) = H1 at e1 un hL1 fr ⊢
    refine dc_keys (fun R r => g_var rfl r) e1 (fun D i eT H2 => Same H1 H2 ∧ ∃ ws : List Ent, eT = ws.map kvE ∧ ws.map pr = (es.take i).map pr ∧ ∀ w ∈ ws, LetAt CL H2 w.2.2 w.2.1) (fun _ => rfl) (fun D i eT H2 J => J.1 _ _ e1) (fun D hD => ⟨Same.upd hD, [], rfl, rfl, fun w hw => nomatch hw⟩) (fun D i k v eT H2 hD hk eD J => ?_) (fun D eT H2 hD eD J => ?_)
    · obtain ⟨sJ, ws, rfl, hw, hL⟩ := J
      rw [List.getElem?_map] at hk
      obtain ⟨e, he, hkv⟩ := Option.map_eq_some_iff.mp hk
      injection hkv with hk1 hk2
      subst hk1 hk2
      have hm := List.mem_of_getElem? he
      have hi : i < es.length := (List.getElem?_eq_some_iff.mp he).1
      have hwl : ws.length = i := by
        have := congrArg List.length hw
        rw [List.length_map, List.length_map, List.length_take] at this
        omega
      walk_at "go3"
      refine g_dget ?_
      walk_at "go3"
      refine ⟨d, e.2.2, rfl, dget_rd (.inr ⟨od, sJ _ _ e1⟩) hF.2.2.1 hm, ?_⟩
      have fe := (hL1 e hm).same sJ
      obtain ⟨p, xs, hp, ep⟩ := head_at fe
      rw [hp]
      walk_at "go3"
      refine mk_tup ep fun H' z dz s5 hz => ?_
      have lz : LetAt CL H' (.ref z) e.2.1 := ⟨z, dz, .ref p, rfl, hz, by rw [← hp]; exact fe.same s5⟩
      have eD5 := s5 _ _ eD
      have hno : e.1 ∉ ws.map (·.1) := by
        rw [fst_pr, hw, ← fst_pr]
        exact nd_take hF.2.2.1 he
      refine dcPost.of (k := .inr (S e.1)) rfl eD5 (by rw [List.length_map, sizeLine_eq]; have := hF.2.2.2; omega) ⟨Same.mut (sJ.trans s5) hD, ws ++ [(e.1, e.2.1, .ref z)], put_snoc (e := (e.1, e.2.1, .ref z)) hno, ?_, fun w hw' => ?_⟩
      · rw [List.map_append, hw, List.take_succ, he, List.map_append]
        rfl
      · have up : ∀ {x : V} {g : Fm}, LetAt CL H' x g → LetAt CL (upd H' D (.dK (putK (ws.map kvE) (.inr (S e.1)) (.ref z)))) x g := fun {x g} l => l.upd (fun C dx fs z => by rw [eD5] at z; cases z) (Tps.lock eD5)
        rcases List.mem_append.mp hw' with h | h
        · exact up ((hL w h).same s5)
        · rw [List.mem_singleton.mp h]
          exact up lz
    · obtain ⟨sJ, ws, rfl, hw, hL⟩ := J
      rw [List.length_map, List.take_of_length_le (Nat.le_refl _)] at hw
      refine ⟨sJ _ _ e1, ?_⟩
      have s3 := un H2 sJ
      obtain ⟨nDd, nD⟩ := fr D hD
      walk_at "go3"
      have hwl : ws.length = es.length := by
        have := congrArg List.length hw
        rw [List.length_map, List.length_map] at this
        exact this
      have t3 : Tps H2 (upd H2 d (.dK (es.map kvE))) := Tps.frz (sJ _ _ e1)
      exact q _ D ws s3 nD ⟨by rw [upd_ne nDd]; exact eD, fun w hw' => (hL w hw').upd (fun C dx fs z => by rw [sJ _ _ e1] at z; cases z) t3, by rw [fst_pr, hw, ← fst_pr]; exact hF.2.2.1, by rw [hwl]; exact hF.2.2.2⟩ hw
/-- a pattern's part and a form's part, paired at an address -/
abbrev Pr10 := Addr × (V × Fm) × (V × Fm)
structure At10 (H : Hp) (B : Nat) (y : Pr10) : Prop where
  tup : H y.1 = some (.tup [y.2.1.1, y.2.2.1])
  fa : FmAt H y.2.1.1 y.2.1.2
  fb : FmAt H y.2.2.1 y.2.2.2
  oa : y.2.1.2.ok = true
  ob : y.2.2.2.ok = true
  da : y.2.1.2.dep ≤ B
  db : y.2.2.2.dep ≤ B
theorem At10.tps {H H' : Hp} {B : Nat} {y : Pr10} (h : At10 H B y) (t : Tps H H') : At10 H' B y := ⟨t _ _ h.tup, h.fa.tps t, h.fb.tps t, h.oa, h.ob, h.da, h.db⟩
def pairF (y : Pr10) : Fm × Fm := (y.2.1.2, y.2.2.2)
/-- at each turn of match -/
def W10 (H : Hp) (v1 v2 : V) (a b : Fm) (pf pl : Addr) (m : Nat) (σ : L2.St) (H' : Hp) : Prop := ∃ (es : List Ent) (st : List Pr10) (x5 x6 : Option V), σ = [some v1, some v2, some (.ref pf), some (.ref pl), x5, x6] ∧ Same H H' ∧ H' pf = some (.dK (es.map kvE)) ∧
  (∀ e ∈ es, FmAt H' e.2.2 e.2.1 ∧ e.2.1.ok = true ∧ e.2.1.dep ≤ 60) ∧ (es.map (·.1)).Nodup ∧ H' pl = some (.lst (st.map fun y => V.ref y.1).reverse) ∧ (∀ y ∈ st, At10 H' 60 y) ∧ m = (st.map fun y => y.2.1.2.size).sum ∧ es.length + m ≤ a.size ∧ Best a b (look es) (st.map pairF)
theorem st_len : ∀ st : List Pr10, st.length ≤ (st.map fun y => y.2.1.2.size).sum
  | [] => Nat.le_refl _
  | y :: st => by
    have := st_len st
    have := Fm.size_pos y.2.1.2
    rw [List.map_cons, List.sum_cons, List.length_cons]
    omega
theorem zip3 : ∀ (ps : List Addr) (ks ls : List (V × Fm)), ps.length = ks.length → ks.length = ls.length → (ps.zip (ks.zip ls)).map (fun y : Pr10 => V.ref y.1) = ps.map V.ref ∧ ((ps.zip (ks.zip ls)).map (fun y : Pr10 => y.2.1.2.size)).sum = (ks.map fun y => y.2.size).sum ∧
    (ps.zip (ks.zip ls)).map pairF = (ks.zip ls).map fun x => (x.1.2, x.2.2)
  | [], [], [], _, _ => ⟨rfl, rfl, rfl⟩
  | [], _ :: _, _, h, _ => nomatch h
  | _ :: _, [], _, h, _ => nomatch h
  | _, [], _ :: _, _, h => nomatch h
  | _, _ :: _, [], _, h => nomatch h
  | p :: ps, k :: ks, l :: ls, h, h' => by
    obtain ⟨e1, e2, e3⟩ := zip3 ps ks ls (Nat.succ.inj h) (Nat.succ.inj h')
    refine ⟨?_, ?_, ?_⟩
    · rw [List.zip_cons_cons, List.zip_cons_cons, List.map_cons, e1, List.map_cons]
    · rw [List.zip_cons_cons, List.zip_cons_cons, List.map_cons, List.sum_cons, e2, List.map_cons, List.sum_cons]
    · rw [List.zip_cons_cons, List.zip_cons_cons, List.map_cons, e3, List.map_cons]
      rfl
theorem sum_rev : ∀ l : List Nat, l.reverse.sum = l.sum
  | [] => rfl
  | x :: l => by
    rw [List.reverse_cons, List.sum_append_nat, sum_rev l]
    simp
    omega
theorem ca_match (T : Bl K mg) (L : Lt K mg CL) (D : Df K mg "match" s_match p_match) (c_lettered : Ca P w K mg base 6 "lettered" (spLettered CL)) (m_form : Cm P w K mg base 1 CL "form" (spForm CL)) : Ca P w K mg base 7 "match" (spMatch CL) := by
  obtain ⟨aA, hA, tA⟩ := T.t_ATOMS
  have c_ATOMS : ∃ u, mg "ATOMS" = some u ∧ RelV (.ref aA) u := ⟨_, hA, rfl⟩
  refine ca_n D sc_match (fun vs H Q E h => ?_) (fun f cdv A outer s H vs Q E hr h => ?_)
  · obtain ⟨x, y, a, b, rfl, _⟩ := h
    rfl
  · obtain ⟨v1, v2, a, b, rfl, la, lb, oa, ob, da, db, za, q0, q⟩ := h
    have lcl := L.cl
    have lno := L.no
    refine ⟨_, (pss_cons (ps_set (i := 2) sc_match.nd rfl (Or.inl rfl) pe_dnewK)
  (pss_cons (ps_set (i := 3) sc_match.nd rfl (Or.inl rfl) (pe_lst (pa_cons (pe_tup (pa_cons (pe_cm0 m_form L.cl hr (by decide) (pv 0)) (pa_cons (pe_cm0 m_form L.cl hr (by decide) (pv 1)) pa_nil))) pa_nil)))
  (pss_cons (ps_while PassesOwn.never (pq_truth (pv 3) (by intro _; rfl))
  (pss_cons (ps_asg (pe_bm0 PySem.F.plainAttrs_list PySem.F.slot_list_pop PySem.F.type_list_pop mt_pop (pv 3)) (pg_tup rfl (pgs_cons (pg_name (i := 4) sc_match.nd rfl (Or.inl rfl)) (pgs_cons (pg_name (i := 5) sc_match.nd rfl (Or.inl rfl)) pgs_nil))))
  (pss_one (ps_if (pt_cmpR op_eq (pe_ix ix_tup (pv 4) pe_int (fun _ _ => rfl)) pe_str (nomark _))
  (pss_one (ps_if (pt_cmpR (op_neD hr.units) (pe_dsetd (pv 2) (pe_ix ix_tup (pv 4) pe_int (fun _ _ => rfl)) (pv 5) ⟨by rfl, by rfl, by rfl, by rfl⟩) (pv 5) (nomark _))
  (pss_one (ps_ret pe_non))
  pss_nil))
  (pss_one (ps_if (PW.pt (pw_or (pt_cmpR op_in_seq (pe_ix ix_tup (pv 4) pe_int (fun _ _ => rfl)) (C8.pe_gc (by rfl) c_ATOMS) rfl) (pw_or1 (pt_cmpR op_ne (pe_ix ix_tup (pv 4) pe_int (fun _ _ => rfl)) (pe_ix ix_tup (pv 5) pe_int (fun _ _ => rfl)) (nomark _)))))
  (pss_one (ps_if (pt_cmpR (op_neD hr.units) (pv 4) (pv 5) (nomark _))
  (pss_one (ps_ret pe_non))
  pss_nil))
  (pss_one (ps_expr (pe_bm PySem.F.plainAttrs_list PySem.F.slot_list_extend PySem.F.type_list_extend mt_extend (pv 3) (pa_cons (pe_lzip (by rfl) T.b_list (by rfl) T.b_zip (pa_cons (pe_slice sl_tup (pv 4) (po_some pe_int) po_none) (pa_cons (pe_slice sl_tup (pv 5) (po_some pe_int) po_none) pa_nil))) pa_nil))))))))))
  (pss_one (ps_ret (pe_ca c_lettered hr (by decide) (by rfl) (pa_cons (pv 2) pa_nil))))))), ?_⟩
    walk_at "go3"
    refine fun pf hpf => ?_
    have s1 : Same H (upd H pf (.dK [])) := Same.upd hpf
    have e1 : upd H pf (.dK []) pf = some (.dK []) := upd_same
    generalize upd H pf (.dK []) = H1 at s1 e1 ⊢
    walk_at "go3"
    refine let_form9 (la.same s1) fun u fu => ?_
    walk_at "go3"
    refine let_form9 (lb.same s1) fun w fw => ?_
    walk_at "go3"
    refine ⟨by show 2 ≤ sizeLine; decide, fun pt hpt => ?_⟩
    have s2 : Same H1 (upd H1 pt (.tup [u, w])) := Same.upd hpt
    have e2 : upd H1 pt (.tup [u, w]) pt = some (.tup [u, w]) := upd_same
    have fu2 := fu.same s2
    have fw2 := fw.same s2
    have e12 := s2 _ _ e1
    have s12 := s1.trans s2
    generalize upd H1 pt (.tup [u, w]) = H2 at e2 fu2 fw2 e12 s12 ⊢
    clear s1 s2 e1 fu fw hpt
    walk_at "go3"
    refine ⟨by show 1 ≤ sizeLine; decide, fun pl hpl => ?_⟩
    have s3 : Same H2 (upd H2 pl (.lst [.ref pt])) := Same.upd hpl
    have e3 : upd H2 pl (.lst [.ref pt]) pl = some (.lst [.ref pt]) := upd_same
    have npl : H pl = none := Same.non s12 hpl
    have nfl : pf ≠ pl := fun z => by rw [← z, e12] at hpl; cases hpl
    have e23 := s3 _ _ e2
    have fu3 := fu2.same s3
    have fw3 := fw2.same s3
    have e13 := s3 _ _ e12
    have s13 := s12.trans s3
    generalize upd H2 pl (.lst [.ref pt]) = H3 at e3 e23 fu3 fw3 e13 s13 ⊢
    clear s12 s3 e2 e12 fu2 fw2 hpl
    walk_at "go3"
    refine g_while (W10 H v1 v2 a b pf pl) a.size ⟨[], [(pt, (u, a), (w, b))], none, none, rfl, s13, e13, (fun e he => nomatch he), List.nodup_nil, e3, fun y hy => ?_, by show _ = a.size + 0; omega, by show 0 + a.size ≤ a.size; omega, Best.start a b⟩ ?_
    · rw [List.mem_singleton.mp hy]
      exact ⟨e23, fu3, fw3, oa, ob, da, db⟩
    clear e3 e23 fu3 fw3 e13 s13
    rintro m σ' H3 ⟨es, st, x5, x6, rfl, sH, ef, hF, nd, el, hst, hm, hsz, hB⟩
    walk_at "go3"
    refine g_truL (SqL.of el) ?_
    cases st with
    | nil =>
      refine iteF ?_
      walk_at "go3"
      refine ⟨pf, es, rfl, ⟨ef, fun e he => (hF e he).1, nd, by omega⟩, fun H4 p es' s4 hp G P' => ?_⟩
      walk_at "go3"
      refine q H4 p es' (sH.trans s4) (Same.non sH hp) G ?_ fun e he => ?_
      · rw [show look es' = look es from funext (look_of P')]
        exact hB
      · have : pr e ∈ es.map pr := P' ▸ List.mem_map_of_mem he
        obtain ⟨x, hx, e2⟩ := List.mem_map.mp this
        have e3 : x.2.1 = e.2.1 := congrArg Prod.snd e2
        rw [← e3]
        exact (hF x hx).2
    | cons hd r =>
      obtain ⟨pq, ⟨u1, a1⟩, ⟨w1, b1⟩⟩ := hd
      have h1 := hst _ List.mem_cons_self
      have hr3 : ∀ y ∈ r, At10 H3 60 y := fun y hy => hst y (List.mem_cons_of_mem _ hy)
      have hm' : m = a1.size + (r.map fun y => y.2.1.2.size).sum := hm
      have eT : (!(List.map (fun y : Pr10 => V.ref y.1) ((pq, (u1, a1), (w1, b1)) :: r)).reverse.isEmpty) = true := by simp
      rw [eT]
      refine iteT ⟨_, fun _ _ n => n, ?_⟩
      walk_at "go3"
      refine g_pop (xs := (r.map fun y => V.ref y.1).reverse) (by rw [el, List.map_cons, List.reverse_cons]) ?_
      have t1 : Tps H3 (upd H3 pl (.lst (r.map fun y => V.ref y.1).reverse)) := Tps.lst el
      have sH4 : Same H (upd H3 pl (.lst (r.map fun y => V.ref y.1).reverse)) := Same.mut sH npl
      have el4 : upd H3 pl (.lst (r.map fun y => V.ref y.1).reverse) pl = some (.lst (r.map fun y => V.ref y.1).reverse) := upd_same
      have ef4 : upd H3 pl (.lst (r.map fun y => V.ref y.1).reverse) pf = some (.dK (es.map kvE)) := by rw [upd_ne nfl]; exact ef
      have hF4 : ∀ e ∈ es, FmAt (upd H3 pl (.lst (r.map fun y => V.ref y.1).reverse)) e.2.2 e.2.1 ∧ e.2.1.ok = true ∧ e.2.1.dep ≤ 60 := fun e he => ⟨(hF e he).1.tps t1, (hF e he).2⟩
      have h14 := h1.tps t1
      have hr4 : ∀ y ∈ r, At10 (upd H3 pl (.lst (r.map fun y => V.ref y.1).reverse)) 60 y := fun y hy => (hr3 y hy).tps t1
      generalize upd H3 pl (.lst (r.map fun y => V.ref y.1).reverse) = H4 at sH4 el4 ef4 hF4 h14 hr4 ⊢
      clear t1 hr3 h1 hF hst el ef sH eT
      walk_at "go3"
      have tup1 : H4 pq = some (.tup [u1, w1]) := h14.tup
      refine ⟨pq, [u1, w1], rfl, SqT.of tup1, rfl, _, _, rfl, ?_⟩
      refine g_name ?_
      refine ⟨_, _, rfl, ?_⟩
      refine g_name ?_
      refine ⟨rfl, ?_⟩
      obtain ⟨_, fa, fb, oa1, ob1, da1, db1⟩ := h14
      replace fa : FmAt H4 u1 a1 := fa
      replace fb : FmAt H4 w1 b1 := fb
      replace oa1 : a1.ok = true := oa1
      replace ob1 : b1.ok = true := ob1
      replace da1 : a1.dep ≤ 60 := da1
      replace db1 : b1.dep ≤ 60 := db1
      have hB1 : Best a b (look es) ((a1, b1) :: r.map pairF) := hB
      have hrl := st_len r
      have hap := Fm.size_pos a1
      rcases two10 fa fb oa1 ob1 with ⟨p, k, t, rfl, rfl, ep, hk⟩ | ⟨p, k, cs, q1, j, ds, rfl, ep, hk, rfl, eq1, two⟩
      · walk_at "go3"
        refine iteD (fun h => ?_) (fun h => ?_)
        · have e : k = kUnk := V.str.inj h
          subst e
          walk_at "go3"
          refine g_dsetd ?_
          walk_at "go3"
          refine ⟨pf, rfl, .inl ⟨_, .inl ef4⟩, ?_⟩
          walk_at "go3"
          refine ⟨es.map kvE, .inr (S t), ef4, rfl, by rw [List.length_map, sizeLine_eq]; omega, fun v hv => ?_, fun hv => ?_⟩
          · rw [valK] at hv
            obtain ⟨e, he, rfl⟩ := Option.map_eq_some_iff.mp hv
            have hm1 := List.mem_of_find?_eq_some he
            have hlk : look es t = some e.2.1 := by
              unfold look
              rw [he]
              rfl
            walk_at "go3"
            refine fm_ne10 (hF4 e hm1).1 fb (hF4 e hm1).2.1 ob1 (hF4 e hm1).2.2 db1 (fun z => ?_) (fun z => ?_)
            · walk_at "go3"
              refine ⟨(r.map fun y => y.2.1.2.size).sum, by omega, es, r, _, _, rfl, sH4, ef4, hF4, nd, el4, hr4, rfl, by omega, hB1.drop fun ψ x => ?_⟩
              show (if kUnk = kUnk then ψ t = some b1 else b1 = .atm kUnk t)
              rw [if_pos rfl, ← z]
              exact x t _ hlk
            · walk_at "go3"
              refine q0 _ sH4 (hB1.never fun ψ x m => ?_)
              have m2 : (if kUnk = kUnk then ψ t = some b1 else b1 = .atm kUnk t) := m
              rw [if_pos rfl, x t _ hlk] at m2
              exact z (Option.some.inj m2)
          · have hlk : look es t = none := by
              rw [valK, Option.map_eq_none_iff] at hv
              unfold look
              rw [hv]
              rfl
            obtain ⟨es', p1, p2, p3, p4, p5⟩ := put_at (u := t) (g := b1) (z := w1) nd
            rw [p1]
            have t6 : Tps H4 (upd H4 pf (.dK (es'.map kvE))) := Tps.lock ef4
            walk_at "go3"
            refine fm_ne10 (fb.tps t6) (fb.tps t6) ob1 ob1 db1 db1 (fun z => ?_) (fun z => absurd rfl z)
            walk_at "go3"
            refine ⟨(r.map fun y => y.2.1.2.size).sum, by omega, es', r, _, _, rfl, Same.mut sH4 hpf, upd_same, fun e he => ?_, p2, by rw [upd_ne nfl.symm]; exact el4, fun y hy => (hr4 y hy).tps t6, rfl, by omega, hB1.put hlk p5⟩
            rcases p3 e he with h | h
            · exact ⟨(hF4 e h).1.tps t6, (hF4 e h).2⟩
            · rw [h]
              exact ⟨fb.tps t6, ob1, db1⟩
        · have hne : k ≠ kUnk := fun z => h (congrArg V.str z)
          walk_at "go3"
          refine g_inT (tA _) rfl rfl ?_
          rw [inV_atoms, hk]
          walk_at "go3"
          refine fm_ne10 fa fb oa1 ob1 da1 db1 (fun z => ?_) (fun z => ?_)
          · walk_at "go3"
            refine ⟨(r.map fun y => y.2.1.2.size).sum, by omega, es, r, _, _, rfl, sH4, ef4, hF4, nd, el4, hr4, rfl, by omega, hB1.drop fun ψ x => ?_⟩
            show (if k = kUnk then ψ t = some b1 else b1 = .atm k t)
            rw [if_neg hne]
            exact z.symm
          · walk_at "go3"
            refine q0 _ sH4 (hB1.never fun ψ x m => ?_)
            have m2 : (if k = kUnk then ψ t = some b1 else b1 = .atm k t) := m
            rw [if_neg hne] at m2
            exact z m2.symm
      · walk_at "go3"
        refine g_ixT (v := .str k) (SqT.of ep) at0 ?_
        walk_at "go3"
        refine iteD (fun h => absurd hk (by rw [V.str.inj h]; decide +kernel)) (fun _ => ?_)
        walk_at "go3"
        refine g_ixT (v := .str k) (SqT.of ep) at0 ?_
        walk_at "go3"
        refine g_inT (tA _) rfl rfl ?_
        rw [inV_atoms, hk]
        walk_at "go3"
        refine g_ixT (v := .str k) (SqT.of ep) at0 ?_
        walk_at "go3"
        refine g_ixT (v := .str j) (SqT.of eq1) at0 ?_
        walk_at "go3"
        rcases two with ⟨hkj, hab, hno⟩ | ⟨rfl, ks, ls, rfl, rfl, hl, hl2, hks, hls, hsum, hM⟩
        · refine iteND (fun h => ?_) (fun h => absurd (V.str.inj h) hkj)
          walk_at "go3"
          refine fm_ne10 fa fb oa1 ob1 da1 db1 (fun z => absurd z hab) (fun z => ?_)
          walk_at "go3"
          exact q0 _ sH4 (hB1.never fun ψ _ => hno ψ)
        · refine iteND (fun h => absurd rfl h) (fun _ => ?_)
          walk_at "go3"
          refine g_lzip ?_
          walk_at "go3"
          refine g_slT (SqT.of ep) (nowhole _ _) fun p4 hp4 => ?_
          rw [cut_tail]
          have s5 : Same H4 (upd H4 p4 (.tup (ks.map (·.1)))) := Same.upd hp4
          have e5 : upd H4 p4 (.tup (ks.map (·.1))) p4 = some (.tup (ks.map (·.1))) := upd_same
          generalize upd H4 p4 (.tup (ks.map (·.1))) = H5 at s5 e5 ⊢
          walk_at "go3"
          refine g_slT (SqT.of (s5 _ _ eq1)) (nowhole _ _) fun p5 hp5 => ?_
          rw [cut_tail]
          have s6 : Same H5 (upd H5 p5 (.tup (ls.map (·.1)))) := Same.upd hp5
          have e6 : upd H5 p5 (.tup (ls.map (·.1))) p5 = some (.tup (ls.map (·.1))) := upd_same
          have e56 := s6 _ _ e5
          have s46 := s5.trans s6
          generalize upd H5 p5 (.tup (ls.map (·.1))) = H6 at e6 e56 s46 ⊢
          clear s5 s6 e5 hp4 hp5
          walk_at "go3"
          refine ⟨p4, p5, _, _, rfl, SqT.of e56, SqT.of e6, by rw [List.length_map, List.length_map, hl], by rw [List.length_map]; omega, fun H7 D ps s7 hD eD hpl hps => ?_⟩
          rw [List.length_map] at hpl
          have s47 := s46.trans s7
          walk_at "go3"
          refine g_ext (s47 _ _ el4) eD (by rw [List.length_reverse, List.length_map, List.length_map, sizeLine_eq]; omega) ?_
          obtain ⟨z1, z2, z3⟩ := zip3 ps ks ls hpl hl
          have el7 := s47 _ _ el4
          have t8 : Tps H7 (upd H7 pl (.lst ((r.map fun y => V.ref y.1).reverse ++ ps.map V.ref))) := Tps.lst el7
          have hsum' : (((ps.zip (ks.zip ls)).reverse ++ r).map fun y : Pr10 => y.2.1.2.size).sum = (ks.map fun y => y.2.size).sum + (r.map fun y => y.2.1.2.size).sum := by
            rw [List.map_append, List.sum_append_nat, List.map_reverse, sum_rev, z2]
          walk_at "go3"
          refine ⟨(((ps.zip (ks.zip ls)).reverse ++ r).map fun y : Pr10 => y.2.1.2.size).sum, by omega, es, (ps.zip (ks.zip ls)).reverse ++ r, _, _, rfl, Same.mut (sH4.trans s47) npl, by rw [upd_ne nfl]; exact s47 _ _ ef4, fun e he => ⟨((hF4 e he).1.same s47).tps t8, (hF4 e he).2⟩, nd, ?_, fun y hy => ?_, rfl, by omega, ?_⟩
          · rw [upd_same, List.map_append, List.map_reverse, z1, List.reverse_append, List.reverse_reverse]
          · rcases List.mem_append.mp hy with hy | hy
            · rw [List.mem_reverse] at hy
              obtain ⟨i, hi, e⟩ := List.getElem_of_mem hy
              rw [List.length_zip, List.length_zip] at hi
              have k1 : i < ps.length := by omega
              have k2 : i < ks.length := by omega
              have k3 : i < ls.length := by omega
              have ye : y = (ps[i], ks[i], ls[i]) := by
                rw [← e]
                simp
              have m1 := hks ks[i] (List.getElem_mem k2)
              have m2 := hls ls[i] (List.getElem_mem k3)
              have tt := hps i ps[i] ks[i].1 ls[i].1 (List.getElem?_eq_getElem k1) (by rw [List.getElem?_map, List.getElem?_eq_getElem k2]; rfl) (by rw [List.getElem?_map, List.getElem?_eq_getElem k3]; rfl)
              rw [ye]
              exact ⟨t8 _ _ tt, (m1.1.same s47).tps t8, (m2.1.same s47).tps t8, m1.2.1, m2.2.1, by show ks[i].2.dep ≤ 60; omega, by show ls[i].2.dep ≤ 60; omega⟩
            · exact ((hr4 y hy).tps fun b xs h => s47 _ _ h).tps t8
          · refine hB1.kids (M := (ks.zip ls).map fun x => (x.1.2, x.2.2)) (fun ψ => ?_) _ fun x => ?_
            · rw [hM ψ]
              refine ⟨fun m x hx => ?_, fun m x hx => m (x.1.2, x.2.2) (List.mem_map.mpr ⟨x, hx, rfl⟩)⟩
              obtain ⟨y, hy, rfl⟩ := List.mem_map.mp hx
              exact m y hy
            · rw [List.map_append, List.map_reverse, z3, List.mem_append, List.mem_reverse]
end
end Op

namespace Op
open PySem PySem.Spec PyProof.Rows L2 SX OpC
local macro_rules | `(tactic| walk_at "go1") => `(tactic| first
  | ((with_reducible refine' g_var ?h ?_); (case h => rfl)) | with_reducible refine' g_c ?_ | with_reducible refine' g_op ?_ | with_reducible refine' g_un ?_ | with_reducible refine' g_if ?_ | with_reducible refine' g_test ?_ | with_reducible refine' g_B ?_ | with_reducible refine' g_bl ?_
  | with_reducible refine' g_not ?_ | with_reducible refine' g_and ?_ | with_reducible refine' g_or ?_ | with_reducible refine' g_andV ?_ | with_reducible refine' g_orV ?_ | with_reducible refine' g_notV ?_ | with_reducible refine' g_nil ?_ | with_reducible refine' g_cons ?_ | with_reducible refine' g_CB ?_ | with_reducible refine' g_ca ?_
  | with_reducible refine' g_seq ?_ | with_reducible refine' g_next ?_ | with_reducible refine' g_asg ?_ | with_reducible refine' g_name ?_ | with_reducible refine' g_ret ?_ | with_reducible refine' g_retN ?_ | with_reducible refine' g_drop ?_ | with_reducible refine' g_ifS ?_ | with_reducible refine' g_sub ?_
  | with_reducible refine' g_I0 ?_ | with_reducible refine' g_U ?_ | ((with_reducible refine' g_eq ?h ?_); (case h => rfl)) | ((with_reducible refine' g_ne ?h ?_); (case h => rfl))
  | ((with_reducible refine' g_lenL ?h ?_); (case h => first | assumption | exact SqL.of (by assumption) | exact SqL.of upd_same)) | ((with_reducible refine' g_lenT ?h ?_); (case h => first | assumption | exact SqT.of (by assumption) | exact SqT.of upd_same))
  | ((with_reducible refine' g_ixL ?h ?ha ?_); (case h => first | assumption | exact SqL.of (by assumption) | exact SqL.of upd_same); (case ha => rfl)) | ((with_reducible refine' g_ixT ?h ?ha ?_); (case h => first | assumption | exact SqT.of (by assumption) | exact SqT.of upd_same); (case ha => rfl))
  | ((with_reducible refine' g_I ?h ?_); (case h => first | decide | omega | (first | refine' ⟨?_, ?_, ?_⟩ | refine' ⟨?_, ?_⟩ | refine' Or.inl ⟨?_, ?_⟩) <;> omega | (refine' Or.inr ⟨?_, ?_⟩ <;> omega)))
  | ((with_reducible refine' g_setL ?h ?ha ?_); (case h => first | assumption | exact upd_same); (case ha => rfl))
  | with_reducible refine' g_lcR ?_
  | with_reducible refine' g_M1 ?_ | with_reducible refine' g_isS ?_ | with_reducible refine' g_tyS ?_ | ((with_reducible refine' g_tyL ?h ?_); (case h => first | assumption | exact upd_same))
  | ((with_reducible refine' g_cat ?h ?h2 ?hl ?_); (case h => first | assumption | exact upd_same); (case h2 => first | assumption | exact upd_same); (case hl => first | decide | (simp; omega)))
  | with_reducible refine' g_lcS ?_
  | with_reducible refine' g_starts ?_ | with_reducible refine' g_chain ?_
  | ((with_reducible refine' g_lenS ?h ?_); (case h => first | exact len_le (by assumption) | exact len_le (by omega))) | ((with_reducible refine' g_rstrip ?h ?_); (case h => first | exact len_le (by assumption) | exact len_le (by omega))) | ((with_reducible refine' g_slX ?h ?_); (case h => first | exact len_le (by assumption) | exact len_le (by omega)))
  | with_reducible refine' g_sl ?_ | with_reducible refine' g_nopart ?_ | with_reducible refine' g_part ?_ | with_reducible refine' g_isI ?_
  | with_reducible refine' g_tru ?_
  | with_reducible refine' iteT ?_ | with_reducible refine' iteF ?_ | with_reducible refine' iteNT ?_ | with_reducible refine' iteNF ?_
  | with_reducible refine' g_int ?_ | with_reducible refine' g_insg ?_ | with_reducible refine' g_ninsg ?_ | with_reducible refine' g_isN ?_ | with_reducible refine' g_notN ?_ | with_reducible refine' g_lst ?_ | with_reducible refine' g_tup ?_ | with_reducible refine' g_BM ?_ | with_reducible refine' g_BM0 ?_)
local macro_rules | `(tactic| walk_at "go") => `(tactic| repeat' walk_at "go1")
local macro_rules | `(tactic| walk_at "go2") => `(tactic| repeat' (first | walk_at "go1" | with_reducible refine' g_cm ?_ | with_reducible refine' g_mk ?_ | with_reducible refine' g_for ?_ | ((with_reducible refine' g_rcm ?h ?ha ?_); (case h => first | assumption | exact upd_same); (case ha => first | rfl | decide | simp [List.lookup]))))
/- macro2 -/
local macro_rules | `(tactic| walk_at "go3a") => `(tactic| first
  | walk_at "go1" | with_reducible refine' g_cm ?_ | with_reducible refine' g_mk ?_ | with_reducible refine' g_for ?_ | with_reducible refine' g_fld ?_ | with_reducible refine' g_lcT0 ?_
  | ((with_reducible refine' g_rcm ?h ?ha ?_); (case h => first | assumption | exact upd_same); (case ha => first | rfl | decide | simp [List.lookup]))
  | ((with_reducible refine' g_shape ?hc ?hn ?h ?_); (case hc => assumption); (case hn => assumption); (case h => first | assumption | exact upd_same | (rw [upd_ne (by assumption)]; assumption))))
local macro_rules | `(tactic| walk_at "go3") => `(tactic| repeat' walk_at "go3a")
local macro_rules | `(tactic| walk_at "go4") => `(tactic| repeat' (first
  | walk_at "go3a" | ((with_reducible refine' iteDT ?h ?_); (case h => first | rfl | decide +kernel)) | ((with_reducible refine' iteDF ?h ?_); (case h => decide +kernel))))
/-! ## drawn forms, without unknowns where none can be drawn -/
def Fm.uin (xs : List (List Nat)) : Fm → Bool
  | .atm k t => !(k == kUnk) || decide (t ∈ xs)
  | .un _ a => a.uin xs
  | .bi _ a b => a.uin xs && b.uin xs
theorem uin_atm {xs : List (List Nat)} {k : Str} {t : List Nat} (h : k = kUnk → t ∈ xs) : (Fm.atm k t).uin xs = true := by
  show (!(k == kUnk) || decide (t ∈ xs)) = true
  by_cases z : k = kUnk
  · rw [decide_eq_true (h z), Bool.or_true]
  · rw [beq_eq_false_iff_ne.mpr z]
    rfl
theorem uin_bi {xs : List (List Nat)} {k : Str} {a b : Fm} (h1 : a.uin xs = true) (h2 : b.uin xs = true) : (Fm.bi k a b).uin xs = true := by
  show (a.uin xs && b.uin xs) = true
  rw [h1, h2]
  rfl
def spAtomP : Sp := fun vs H Q _ => ∃ (st us : Addr) (xs : List (List Nat)) (n : Nat), vs = [.ref st, .ref us] ∧ UsAt H us xs ∧ us ≠ st ∧ StAt H st n ∧ n + 20 ≤ 1000000000000 ∧
  ∀ H' v k t, (Fm.atm k t).ok = true → (k = kUnk → t ∈ xs) → But st H H' → StAt H' st (n + 20) → FmAt H' v (.atm k t) → Q v H'
def spForm1P (d : Nat) : Sp := fun vs H Q _ => ∃ (st us : Addr) (xs : List (List Nat)) (n e : Nat), vs = [.ref st, .ref us, .int (e : Int)] ∧ e < d ∧ UsAt H us xs ∧ us ≠ st ∧ StAt H st n ∧ n + dr e ≤ 1000000000000 ∧
  ∀ H' v a, a.ok = true → a.uin xs = true → a.dep ≤ 2 * e → a.size ≤ szB e → But st H H' → StAt H' st (n + dr e) → FmAt H' v a → Q v H'
section
variable {P : Program} {w : World} {K : PySem.W.Frag} {mg : Str → Option Value} {base : Heap} {CL CE CX : Addr}
theorem ca_atomP (T : Bl K mg) (D : Df K mg "_law_atom" s_law_atom p_law_atom) (c_law_draw : Ca P w K mg base 1 "_law_draw" spDraw) (c_law_pick : Ca P w K mg base 2 "_law_pick" (spPick K)) (c_law_word : Ca P w K mg base 2 "_law_word" spWord) (c_law_name : Ca P w K mg base 2 "_law_name" spName) :
    Ca P w K mg base 3 "_law_atom" spAtomP := by
  refine ca_n D sc_law_atom (fun vs H Q E h => ?_) (fun f cdv A outer s H vs Q E hr h => ?_)
  · obtain ⟨st, us, xs, n, rfl, _⟩ := h
    rfl
  · obtain ⟨st, us, xs, n, rfl, hus, hne, hst, hn, q⟩ := h
    refine ⟨_, (pss_cons (ps_set (i := 2) sc_law_atom.nd rfl (Or.inl rfl) (pe_ca c_law_draw hr (by decide) (by rfl) (pa_cons (pv 0) (pa_cons pe_int pa_nil))))
  (C8.pss_cut (ps_if (PW.pt (pw_and (pt_cmpR op_lt (pv 2) pe_int (nomark _)) (pw_and1 (pt_cmpR (op_neD hr.units) (pv 1) (pe_lst pa_nil) (nomark _)))))
  (pss_one (ps_ret (pe_tup (pa_cons pe_str (pa_cons (pe_ca c_law_pick hr (by decide) (by rfl) (pa_cons (pv 0) (pa_cons (pv 1) pa_nil))) pa_nil)))))
  pss_nil)
  (pss_cons (ps_if (pt_cmpR op_lt (pv 2) pe_int (nomark _))
  (pss_one (ps_ret (pe_tup (pa_cons pe_str (pa_cons (pe_ca c_law_pick hr (by decide) (by rfl) (pa_cons (pv 0) (pa_cons (pe_lst (pa_cons pe_str (pa_cons pe_str (pa_cons pe_str (pa_cons pe_str (pa_cons (pe_ca c_law_name hr (by decide) (by rfl) (pa_cons (pv 0) pa_nil)) pa_nil)))))) pa_nil))) pa_nil)))))
  pss_nil)
  (pss_one (ps_ret (pe_tup (pa_cons pe_str (pa_cons (pe_ca c_law_pick hr (by decide) (by rfl) (pa_cons (pv 0) (pa_cons (pe_lst (pa_cons pe_str (pa_cons pe_str (pa_cons pe_str (pa_cons pe_str (pa_cons (pe_ca c_law_word hr (by decide) (by rfl) (pa_cons (pv 0) pa_nil)) pa_nil)))))) pa_nil))) pa_nil)))))))), ?_⟩
    walk_at "go3"
    refine g_draw (m := 6) rfl (by decide) (by decide) hst (by omega) fun H1 d hd b1 s1 => ?_
    have u1 := hus.but hne b1
    walk_at "go3"
    refine ⟨fun σ' H' => σ' = [some (.ref st), some (.ref us), some (.int (d : Int))] ∧ Same H1 H', ?_, ?_⟩
    · walk_at "go3"
      refine iteD (fun h1 => ?_) (fun h1 => ?_)
      · walk_at "go3"
        refine ⟨Nat.zero_le _, fun p hp => ?_⟩
        have u2 := u1.same (Same.upd (o := .lst []) hp)
        refine ⟨.list (xs.map fun x => .str (S x)), .list [], .lst (SqL.of u2.1) (dp_strs xs), .lst (SqL.of upd_same) .nil, unk_str xs u1.2.1, rfl, ?_⟩
        rw [eqv_nil]
        walk_at "go3"
        refine iteB (fun h2 => ?_) (fun h2 => ?_)
        · walk_at "go3"
          have hx0 : xs ≠ [] := fun z => by rw [z] at h2; cases h2
          refine ⟨st, us, xs.map fun x => .str (S x), n + 1, rfl, SqL.of u2.1, hne, by rw [List.length_map]; exact List.length_pos_iff.mpr hx0, by rw [List.length_map]; have := u1.2.2; omega, s1.same (Same.upd hp), by omega, fun H2 v hv b2 s2 => ?_⟩
          obtain ⟨x, hx, rfl⟩ := List.mem_map.mp hv
          walk_at "go3"
          refine ⟨by show 2 ≤ sizeLine; decide, fun p2 hp2 => ?_⟩
          refine q _ _ kUnk x (ok_unk (u1.2.1 x hx)) (fun _ => hx) ((b1.trans ((But.of (Same.upd hp)).trans b2)).trans (But.of (Same.upd hp2))) ((s2.same (Same.upd hp2)).mono (by omega)) (.atm upd_same)
        · walk_at "go3"
          exact ⟨rfl, Same.upd hp⟩
      · walk_at "go3"
        exact ⟨rfl, Same.refl _⟩
    · rintro σ' H2 ⟨rfl, s2⟩
      walk_at "go3"
      refine iteD (fun h1 => ?_) (fun h1 => ?_)
      · walk_at "go3"
        refine ⟨st, n + 1, rfl, s1.same s2, by omega, fun H3 cs hcs b3 s3 => ?_⟩
        walk_at "go3"
        refine ⟨by show 5 ≤ sizeLine; decide, fun p hp => ?_⟩
        walk_at "go3"
        refine ⟨st, p, [.str (Str.ofString "K"), .str (Str.ofString "N"), .str (Str.ofString "S"), .str (Str.ofString "AB"), .str (S cs)], _, rfl, SqL.of upd_same, (s3.ne hp).symm, by show 0 < 5; decide, by show 5 < 1000000; decide, s3.same (Same.upd hp), by omega, fun H4 v hv b4 s4 => ?_⟩
        obtain ⟨t, rfl, ht⟩ : ∃ t, v = .str (S t) ∧ isNameB t = true := by
          simp only [List.mem_cons, List.not_mem_nil, or_false] at hv
          rcases hv with rfl | rfl | rfl | rfl | rfl
          · exact ⟨(Str.ofString "K").cps.toList, by rw [S_tl], by decide +kernel⟩
          · exact ⟨(Str.ofString "N").cps.toList, by rw [S_tl], by decide +kernel⟩
          · exact ⟨(Str.ofString "S").cps.toList, by rw [S_tl], by decide +kernel⟩
          · exact ⟨(Str.ofString "AB").cps.toList, by rw [S_tl], by decide +kernel⟩
          · exact ⟨cs, rfl, nameB_of hcs⟩
        walk_at "go3"
        refine ⟨by show 2 ≤ sizeLine; decide, fun p2 hp2 => ?_⟩
        refine q _ _ kName t (ok_name ht) (fun z => absurd z (by decide +kernel)) ((b1.trans (But.of s2)).trans ((b3.trans ((But.of (Same.upd hp)).trans b4)).trans (But.of (Same.upd hp2)))) ((s4.same (Same.upd hp2)).mono (by omega)) (.atm upd_same)
      · walk_at "go3"
        refine ⟨st, n + 1, rfl, s1.same s2, by omega, fun H3 cs hcs b3 s3 => ?_⟩
        walk_at "go3"
        refine ⟨by show 5 ≤ sizeLine; decide, fun p hp => ?_⟩
        walk_at "go3"
        refine ⟨st, p, [.str (Str.ofString "a"), .str (Str.ofString "b"), .str (Str.ofString "yes"), .str (Str.ofString "open"), .str (S cs)], _, rfl, SqL.of upd_same, (s3.ne hp).symm, by show 0 < 5; decide, by show 5 < 1000000; decide, s3.same (Same.upd hp), by omega, fun H4 v hv b4 s4 => ?_⟩
        obtain ⟨t, rfl, ht⟩ : ∃ t, v = .str (S t) ∧ isWordB t = true := by
          simp only [List.mem_cons, List.not_mem_nil, or_false] at hv
          rcases hv with rfl | rfl | rfl | rfl | rfl
          · exact ⟨(Str.ofString "a").cps.toList, by rw [S_tl], by decide +kernel⟩
          · exact ⟨(Str.ofString "b").cps.toList, by rw [S_tl], by decide +kernel⟩
          · exact ⟨(Str.ofString "yes").cps.toList, by rw [S_tl], by decide +kernel⟩
          · exact ⟨(Str.ofString "open").cps.toList, by rw [S_tl], by decide +kernel⟩
          · exact ⟨cs, rfl, wordB_of hcs⟩
        walk_at "go3"
        refine ⟨by show 2 ≤ sizeLine; decide, fun p2 hp2 => ?_⟩
        refine q _ _ kWord t (ok_word ht) (fun z => absurd z (by decide +kernel)) ((b1.trans (But.of s2)).trans ((b3.trans ((But.of (Same.upd hp)).trans b4)).trans (But.of (Same.upd hp2)))) ((s4.same (Same.upd hp2)).mono (by omega)) (.atm upd_same)
theorem ca_formP (T : Bl K mg) (D : Df K mg "_law_form" s_law_form p_law_form) (c_law_draw : Ca P w K mg base 1 "_law_draw" spDraw) (c_law_atom : Ca P w K mg base 3 "_law_atom" spAtomP) : ∀ d, Ca P w K mg base (4 + d) "_law_form" (spForm1P d)
  | 0 => by
    refine ca_n D sc_law_form (fun vs H Q E h => ?_) (fun f cdv A outer s H vs Q E hr h => ?_)
    · obtain ⟨st, us, xs, n, e, rfl, _⟩ := h
      rfl
    · obtain ⟨st, us, xs, n, e, rfl, he, _⟩ := h
      exact absurd he (Nat.not_lt_zero _)
  | d + 1 => by
    have c_law_form := ca_formP T D c_law_draw c_law_atom d
    refine ca_n (k := 4 + d) D sc_law_form (fun vs H Q E h => ?_) (fun f cdv A outer s H vs Q E hr h => ?_)
    · obtain ⟨st, us, xs, n, e, rfl, _⟩ := h
      rfl
    · obtain ⟨st, us, xs, n, e, rfl, he, hus, hne, hst, hn, q⟩ := h
      refine ⟨_, (C8.pss_cut (ps_set (i := 3) sc_law_form.nd rfl (Or.inl rfl) (pe_ifExp (pt_cmpR op_gt (pv 2) pe_int (nomark _)) (pe_ca c_law_draw hr (by omega) (by rfl) (pa_cons (pv 0) (pa_cons pe_int pa_nil))) pe_int))
  (pss_cons (ps_if (pt_cmpR op_lt (pv 3) pe_int (nomark _))
  (pss_one (ps_ret (pe_ca c_law_atom hr (by omega) (by rfl) (pa_cons (pv 0) (pa_cons (pv 1) pa_nil)))))
  pss_nil)
  (pss_cons (ps_set (i := 4) sc_law_form.nd rfl (Or.inl rfl) (pe_ca c_law_form hr (by omega) (by rfl) (pa_cons (pv 0) (pa_cons (pv 1) (pa_cons (pe_op op_sub (pv 2) pe_int) pa_nil)))))
  (pss_cons (ps_if (pt_cmpR op_gt (pv 3) pe_int (nomark _))
  (pss_one (ps_ret (pe_tup (pa_cons (pe_ix ix_list (pe_lst (pa_cons pe_str (pa_cons pe_str (pa_cons pe_str pa_nil)))) (pe_ca c_law_draw hr (by omega) (by rfl) (pa_cons (pv 0) (pa_cons pe_int pa_nil))) (fun _ _ => rfl)) (pa_cons (pv 4) pa_nil)))))
  pss_nil)
  (pss_cons (ps_set (i := 5) sc_law_form.nd rfl (Or.inl rfl) (pe_ca c_law_form hr (by omega) (by rfl) (pa_cons (pv 0) (pa_cons (pv 1) (pa_cons (pe_op op_sub (pv 2) pe_int) pa_nil)))))
  (pss_cons (ps_if (pt_cmpR op_gt (pv 3) pe_int (nomark _))
  (pss_one (ps_ret (pe_tup (pa_cons pe_str (pa_cons (pv 4) (pa_cons (pe_tup (pa_cons (pe_ix ix_list (pe_lst (pa_cons pe_str (pa_cons pe_str pa_nil))) (pe_ca c_law_draw hr (by omega) (by rfl) (pa_cons (pv 0) (pa_cons pe_int pa_nil))) (fun _ _ => rfl)) (pa_cons (pv 5) pa_nil))) pa_nil))))))
  pss_nil)
  (pss_one (ps_ret (pe_tup (pa_cons (pe_ix ix_list (pe_lst (pa_cons pe_str (pa_cons pe_str pa_nil))) (pe_op op_mod (pe_callTy cq_int (by rfl) T.b_int (by decide +kernel) (pa_cons (pv 3) pa_nil)) pe_int) (fun _ _ => rfl)) (pa_cons (pv 4) (pa_cons (pv 5) pa_nil)))))))))))), ?_⟩
      walk_at "go3"
      have hdr := dr_ge e
      refine ⟨fun σ' H' => ∃ w : Nat, σ' = [some (.ref st), some (.ref us), some (.int (e : Int)), some (.int (w : Int)), none, none] ∧ But st H H' ∧ StAt H' st (n + 1) ∧ (e = 0 → w = 0) ∧ w < 11, ?_, ?_⟩
      · walk_at "go3"
        refine iteD (fun h1 => ?_) (fun h1 => ?_)
        · walk_at "go3"
          refine g_draw (m := 11) rfl (by decide) (by decide) hst (by omega) fun H1 w hw b1 s1 => ?_
          walk_at "go3"
          exact ⟨w, rfl, b1, s1, fun z => by omega, hw⟩
        · walk_at "go3"
          exact ⟨0, rfl, But.refl _, hst.mono (by omega), fun _ => rfl, by decide⟩
      · rintro σ' H1 ⟨w, rfl, b1, s1, hw0, hw⟩
        have u1 := hus.but hne b1
        walk_at "go3"
        refine iteD (fun h1 => ?_) (fun h1 => ?_)
        · walk_at "go3"
          refine ⟨st, us, xs, n + 1, rfl, u1, hne, s1, by omega, fun H2 v k t hk hp b2 s2 fa => ?_⟩
          refine q _ _ _ hk (uin_atm hp) (Nat.zero_le _) ?_ (b1.trans b2) (s2.mono (by omega)) fa
          show 1 ≤ szB e
          cases e with
          | zero => exact Nat.le_refl _
          | succ e => show 1 ≤ 2 * szB e + 2; omega
        cases e with
        | zero => exact absurd (hw0 rfl) (by omega)
        | succ e' =>
        have hdr2 : dr (e' + 1) = 2 * dr e' + 25 := rfl
        have hsz2 : szB (e' + 1) = 2 * szB e' + 2 := rfl
        have hdr3 := dr_ge e'
        walk_at "go3"
        refine ⟨st, us, xs, n + 1, e', by rw [show ((e' + 1 : Nat) : Int) - 1 = (e' : Int) by omega], by omega, u1, hne, s1, by omega, fun H2 v1 a1 ok1 pl1 dp1 sz1 b2 s2 f1 => ?_⟩
        have u2 := u1.but hne b2
        walk_at "go3"
        refine iteD (fun h2 => ?_) (fun h2 => ?_)
        · walk_at "go3"
          refine ⟨by show 3 ≤ sizeLine; decide, fun p hp => ?_⟩
          walk_at "go3"
          refine' g_pick ?hz hp s2 ?hn ?h0 ?h1 ?_
          case hz => rfl
          case hn => omega
          case h0 => decide
          case h1 => decide
          intro H3 v hv b3 s3
          obtain ⟨k, rfl, hk⟩ : ∃ k, v = .str k ∧ unK k = true := by
            simp only [List.mem_cons, List.not_mem_nil, or_false] at hv
            rcases hv with rfl | rfl | rfl <;> exact ⟨_, rfl, by decide +kernel⟩
          walk_at "go3"
          refine ⟨by show 2 ≤ sizeLine; decide, fun p2 hp2 => ?_⟩
          refine q _ _ (.un k a1) (by simp only [Fm.ok, hk, ok1, Bool.and_self]) pl1 (by show a1.dep + 1 ≤ _; omega) (by show a1.size + 1 ≤ _; omega) ((b1.trans (b2.trans b3)).trans (But.of (Same.upd hp2))) ((s3.same (Same.upd hp2)).mono (by omega)) (.un upd_same (f1.tps ((s2.tps b3).trans (Tps.new hp2))))
        walk_at "go3"
        refine ⟨st, us, xs, _, e', by rw [show ((e' + 1 : Nat) : Int) - 1 = (e' : Int) by omega], by omega, u2, hne, s2, by omega, fun H3 v2 a2 ok2 pl2 dp2 sz2 b3 s3 f2 => ?_⟩
        have f1' := f1.tps (s2.tps b3)
        walk_at "go3"
        refine iteD (fun h3 => ?_) (fun h3 => ?_)
        · walk_at "go3"
          refine ⟨by show 2 ≤ sizeLine; decide, fun p hp => ?_⟩
          walk_at "go3"
          refine' g_pick ?hz hp s3 ?hn ?h0 ?h1 ?_
          case hz => rfl
          case hn => omega
          case h0 => decide
          case h1 => decide
          intro H4 v hv b4 s4
          obtain ⟨k, rfl, hk⟩ : ∃ k, v = .str k ∧ (k == kOpen || k == kOwn) = true := by
            simp only [List.mem_cons, List.not_mem_nil, or_false] at hv
            rcases hv with rfl | rfl <;> exact ⟨_, rfl, by decide +kernel⟩
          have hku : unK k = true := by
            simp only [unK, Bool.or_eq_true] at hk ⊢
            rcases hk with hk | hk
            · exact .inl (.inr hk)
            · exact .inr hk
          walk_at "go3"
          refine ⟨by show 2 ≤ sizeLine; decide, fun p2 hp2 => ?_⟩
          walk_at "go3"
          refine ⟨by show 3 ≤ sizeLine; decide, fun p3 hp3 => ?_⟩
          have t4 := ((s3.tps b4).trans (Tps.new (o := .tup [.str k, v2]) hp2)).trans (Tps.new (o := .tup [.str kLock, v1, .ref p2]) hp3)
          have e2 : upd (upd H4 p2 (.tup [.str k, v2])) p3 (.tup [.str kLock, v1, .ref p2]) p2 = some (.tup [.str k, v2]) := Tps.new hp3 _ _ upd_same
          refine q _ _ (.bi kLock a1 (.un k a2)) ?_ (uin_bi pl1 (show (Fm.un k a2).uin xs = true from pl2)) (by show max a1.dep (a2.dep + 1) + 1 ≤ _; omega) (by show a1.size + (a2.size + 1) + 1 ≤ _; omega) ((b1.trans (b2.trans (b3.trans b4))).trans ((But.of (Same.upd hp2)).trans (But.of (Same.upd hp3)))) (((s4.same (Same.upd hp2)).same (Same.upd hp3)).mono (by omega)) (.bi upd_same (f1'.tps t4) (.un e2 (f2.tps t4)))
          simp only [Fm.ok, Fm.isKey, hk, hku, ok1, ok2, Bool.or_true, Bool.and_self, Bool.and_true]
          decide +kernel
        · walk_at "go3"
          refine ⟨by show 2 ≤ sizeLine; decide, fun p hp => ?_⟩
          walk_at "go3"
          have hm : (w : Int) % 2 = 0 ∨ (w : Int) % 2 = 1 := by omega
          obtain ⟨k, hk, hat⟩ : ∃ k, (k = kPair ∨ k = kSeal) ∧ atI [V.str kPair, V.str kSeal] ((w : Int) % 2) = some (.str k) := by
            rcases hm with hm | hm
            · exact ⟨kPair, .inl rfl, by rw [hm]; rfl⟩
            · exact ⟨kSeal, .inr rfl, by rw [hm]; rfl⟩
          refine g_ixL (SqL.of upd_same) hat ?_
          walk_at "go3"
          refine ⟨by show 3 ≤ sizeLine; decide, fun p3 hp3 => ?_⟩
          have t4 := (Tps.new (o := .lst [.str kPair, .str kSeal]) hp).trans (Tps.new (o := .tup [.str k, v1, v2]) hp3)
          refine q _ _ (.bi k a1 a2) ?_ (uin_bi pl1 pl2) (by show max a1.dep a2.dep + 1 ≤ _; omega) (by show a1.size + a2.size + 1 ≤ _; omega) ((b1.trans (b2.trans b3)).trans ((But.of (Same.upd hp)).trans (But.of (Same.upd hp3)))) (((s3.same (Same.upd hp)).same (Same.upd hp3)).mono (by omega)) (.bi upd_same (f1'.tps t4) (f2.tps t4))
          rcases hk with rfl | rfl
          · show (biK kPair && ((!(kPair == kLock) || a2.isKey) && (a1.ok && a2.ok))) = true
            rw [ok1, ok2, show biK kPair = true by decide +kernel, show (kPair == kLock) = false by decide +kernel]
            rfl
          · show (biK kSeal && ((!(kSeal == kLock) || a2.isKey) && (a1.ok && a2.ok))) = true
            rw [ok1, ok2, show biK kSeal = true by decide +kernel, show (kSeal == kLock) = false by decide +kernel]
            rfl
end
end Op

namespace Op
open PySem PySem.Spec PyProof.Rows L2 SX OpC
local macro_rules | `(tactic| walk_at "go1") => `(tactic| first
  | ((with_reducible refine' g_var ?h ?_); (case h => rfl)) | with_reducible refine' g_c ?_ | with_reducible refine' g_op ?_ | with_reducible refine' g_un ?_ | with_reducible refine' g_if ?_ | with_reducible refine' g_test ?_ | with_reducible refine' g_B ?_ | with_reducible refine' g_bl ?_
  | with_reducible refine' g_not ?_ | with_reducible refine' g_and ?_ | with_reducible refine' g_or ?_ | with_reducible refine' g_andV ?_ | with_reducible refine' g_orV ?_ | with_reducible refine' g_notV ?_ | with_reducible refine' g_nil ?_ | with_reducible refine' g_cons ?_ | with_reducible refine' g_CB ?_ | with_reducible refine' g_ca ?_
  | with_reducible refine' g_seq ?_ | with_reducible refine' g_next ?_ | with_reducible refine' g_asg ?_ | with_reducible refine' g_name ?_ | with_reducible refine' g_ret ?_ | with_reducible refine' g_retN ?_ | with_reducible refine' g_drop ?_ | with_reducible refine' g_ifS ?_ | with_reducible refine' g_sub ?_
  | with_reducible refine' g_I0 ?_ | with_reducible refine' g_U ?_ | ((with_reducible refine' g_eq ?h ?_); (case h => rfl)) | ((with_reducible refine' g_ne ?h ?_); (case h => rfl))
  | ((with_reducible refine' g_lenL ?h ?_); (case h => first | assumption | exact SqL.of (by assumption) | exact SqL.of upd_same)) | ((with_reducible refine' g_lenT ?h ?_); (case h => first | assumption | exact SqT.of (by assumption) | exact SqT.of upd_same))
  | ((with_reducible refine' g_ixL ?h ?ha ?_); (case h => first | assumption | exact SqL.of (by assumption) | exact SqL.of upd_same); (case ha => rfl)) | ((with_reducible refine' g_ixT ?h ?ha ?_); (case h => first | assumption | exact SqT.of (by assumption) | exact SqT.of upd_same); (case ha => rfl))
  | ((with_reducible refine' g_I ?h ?_); (case h => first | decide | omega | (first | refine' ⟨?_, ?_, ?_⟩ | refine' ⟨?_, ?_⟩ | refine' Or.inl ⟨?_, ?_⟩) <;> omega | (refine' Or.inr ⟨?_, ?_⟩ <;> omega)))
  | ((with_reducible refine' g_setL ?h ?ha ?_); (case h => first | assumption | exact upd_same); (case ha => rfl))
  | with_reducible refine' g_lcR ?_
  | with_reducible refine' g_M1 ?_ | with_reducible refine' g_isS ?_ | with_reducible refine' g_tyS ?_ | ((with_reducible refine' g_tyL ?h ?_); (case h => first | assumption | exact upd_same))
  | ((with_reducible refine' g_cat ?h ?h2 ?hl ?_); (case h => first | assumption | exact upd_same); (case h2 => first | assumption | exact upd_same); (case hl => first | decide | (simp; omega)))
  | with_reducible refine' g_lcS ?_
  | with_reducible refine' g_starts ?_ | with_reducible refine' g_chain ?_
  | ((with_reducible refine' g_lenS ?h ?_); (case h => first | exact len_le (by assumption) | exact len_le (by omega))) | ((with_reducible refine' g_rstrip ?h ?_); (case h => first | exact len_le (by assumption) | exact len_le (by omega))) | ((with_reducible refine' g_slX ?h ?_); (case h => first | exact len_le (by assumption) | exact len_le (by omega)))
  | with_reducible refine' g_sl ?_ | with_reducible refine' g_nopart ?_ | with_reducible refine' g_part ?_ | with_reducible refine' g_isI ?_
  | with_reducible refine' g_tru ?_
  | with_reducible refine' iteT ?_ | with_reducible refine' iteF ?_ | with_reducible refine' iteNT ?_ | with_reducible refine' iteNF ?_
  | with_reducible refine' g_int ?_ | with_reducible refine' g_insg ?_ | with_reducible refine' g_ninsg ?_ | with_reducible refine' g_isN ?_ | with_reducible refine' g_notN ?_ | with_reducible refine' g_lst ?_ | with_reducible refine' g_tup ?_ | with_reducible refine' g_BM ?_ | with_reducible refine' g_BM0 ?_)
local macro_rules | `(tactic| walk_at "go") => `(tactic| repeat' walk_at "go1")
local macro_rules | `(tactic| walk_at "go2") => `(tactic| repeat' (first | walk_at "go1" | with_reducible refine' g_cm ?_ | with_reducible refine' g_mk ?_ | with_reducible refine' g_for ?_ | ((with_reducible refine' g_rcm ?h ?ha ?_); (case h => first | assumption | exact upd_same); (case ha => first | rfl | decide | simp [List.lookup]))))
/- macro2 -/
local macro_rules | `(tactic| walk_at "go3a") => `(tactic| first
  | walk_at "go1" | with_reducible refine' g_cm ?_ | with_reducible refine' g_mk ?_ | with_reducible refine' g_for ?_ | with_reducible refine' g_fld ?_ | with_reducible refine' g_lcT0 ?_
  | ((with_reducible refine' g_rcm ?h ?ha ?_); (case h => first | assumption | exact upd_same); (case ha => first | rfl | decide | simp [List.lookup]))
  | ((with_reducible refine' g_shape ?hc ?hn ?h ?_); (case hc => assumption); (case hn => assumption); (case h => first | assumption | exact upd_same | (rw [upd_ne (by assumption)]; assumption))))
local macro_rules | `(tactic| walk_at "go3") => `(tactic| repeat' walk_at "go3a")
local macro_rules | `(tactic| walk_at "go4") => `(tactic| repeat' (first
  | walk_at "go3a" | ((with_reducible refine' iteDT ?h ?_); (case h => first | rfl | decide +kernel)) | ((with_reducible refine' iteDF ?h ?_); (case h => decide +kernel))))
theorem g_dnin {ty td : TE} {σ : L2.St} {H : Hp} {Q : VK} (k : ty σ H fun y H1 => td σ H1 fun x H2 => ∃ a o, x = V.ref a ∧ DGet H2 a y o ∧ Q (.bl (!o.isSome)) H2) : tDNotIn ty td σ H Q := k
local macro_rules | `(tactic| walk_at "go5") => `(tactic| repeat' (first | walk_at "go3a" | with_reducible refine' g_par ?_ | with_reducible refine' g_dget ?_ | with_reducible refine' g_dput ?_ | with_reducible refine' g_dnin ?_))
theorem fm_eq10 {K : PySem.W.Frag} {H : Hp} {u v : V} {a b : Fm} {Q : VK} (f1 : FmAt H u a) (f2 : FmAt H v b) (oa : a.ok = true) (ob : b.ok = true) (da : a.dep ≤ 60) (db : b.dep ≤ 60) (q1 : a = b → Q (.bl true) H) (q2 : a ≠ b → Q (.bl false) H) : rEqD K u v H Q := by
  refine ⟨_, _, dp_fm f1, dp_fm f2, Fm.shaped oa da, Fm.shaped ob db, ?_⟩
  cases he : PyData.eqv a.data b.data with
  | true => exact q1 (Fm.data_inj he)
  | false =>
    refine q2 fun z => ?_
    rw [z, SeqAt.eqv_refl _ (SeqAt.canLay_of_shaped (Fm.shaped ob db))] at he
    cases he
abbrev base3 : List (List Nat) := [[120], [121], [122]]
def spPlain : Sp := fun vs H Q _ => ∃ (st us : Addr) (n : Nat), vs = [.ref st, .ref us, .int 2] ∧ UsAt H us base3 ∧ us ≠ st ∧ StAt H st n ∧ n + 600 ≤ 1000000000000 ∧
  ∀ H' p es, But st H H' → StAt H' st (n + 600) → H p = none → FrmAt H' p es → es.map (·.1) = base3 → (∀ e ∈ es, e.2.1.ok = true ∧ e.2.1.uin [] = true ∧ e.2.1.dep ≤ 4 ∧ e.2.1.size ≤ 10) → Q (.ref p) H'
/-! for over zip of two tuples -/
def rForZ10 (K : PySem.W.Frag) (g : TG) (tb : TS) (D : Ends) (σ : L2.St) (vs : List V) (H : Hp) : Prop := ∃ a b xs ys, vs = [V.ref a, .ref b] ∧
  ((SqL K H a xs ∧ SqL K H b ys ∧ ∃ W : Nat → Nat → L2.St → Hp → Prop, (∃ m, W 0 m σ H) ∧ ∀ i m σ H, W i m σ H → ((Itz K a b).stop i H ∧ D.nx σ H) ∨ ((Itz K a b).go i H ∧ ∃ N : L2.St → Hp → Prop, (∀ σ' H', N σ' H' → ∃ m', m' < m ∧ W (i + 1) m' σ' H') ∧ ∀ v H', (Itz K a b).yld i H v H' → g v σ H' fun σ2 H2 => tb { D with nx := N, ct := N, bk := D.nx } σ2 H2)) ∨
  (SqT K H a xs ∧ SqT K H b ys ∧ ∃ W : Nat → Nat → L2.St → Hp → Prop, (∃ m, W 0 m σ H) ∧ ∀ i m σ H, W i m σ H → ((RZ.ItzT K a b).stop i H ∧ D.nx σ H) ∨ ((RZ.ItzT K a b).go i H ∧ ∃ N : L2.St → Hp → Prop, (∀ σ' H', N σ' H' → ∃ m', m' < m ∧ W (i + 1) m' σ' H') ∧ ∀ v H', (RZ.ItzT K a b).yld i H v H' → g v σ H' fun σ2 H2 => tb { D with nx := N, ct := N, bk := D.nx } σ2 H2)))
theorem g_forZ10 {K : PySem.W.Frag} {ta : TA} {g : TG} {tb : TS} {D : Ends} {σ : L2.St} {H : Hp} (k : ta σ H fun vs H1 => rForZ10 K g tb D σ vs H1) : tFor (RZ.iZipA K ta) g tb D σ H := k
theorem r_forZ10 {K : PySem.W.Frag} {a b : Addr} {xs ys : List V} {g : TG} {tb : TS} {D : Ends} {σ : L2.St} {H : Hp} (hl : xs.length = ys.length) (Pv : Nat → L2.St → Hp → Prop) (h0 : Pv 0 σ H) (hq : ∀ i σ H, Pv i σ H → SqT K H a xs ∧ SqT K H b ys)
    (hs : ∀ (i : Nat) (x y : V) (T : Addr) (σ : L2.St) (H : Hp), xs[i]? = some x → ys[i]? = some y → Pv i σ H → H T = none → g (.ref T) σ (upd H T (.tup [x, y])) fun σ2 H2 => tb { D with nx := Pv (i + 1), ct := Pv (i + 1), bk := D.nx } σ2 H2) (hd : ∀ σ H, Pv xs.length σ H → D.nx σ H) : rForZ10 K g tb D σ [.ref a, .ref b] H :=
  ⟨a, b, xs, ys, rfl, .inr ⟨(hq 0 _ _ h0).1, (hq 0 _ _ h0).2, RZ.for_zipT hl Pv h0 hq hs hd⟩⟩
theorem tpsD {H H' : Hp} {d : Addr} {kvs : List (Key × V)} (h : H d = some (.dK kvs)) (b : But d H H') : Tps H H' := fun c xs e => b _ _ (fun z => by rw [z, h] at e; cases e) e
/-- from one dict to another by what is matched -/
def Stp (φ φ' : List Nat → Option Fm) (L : List (Fm × Fm)) : Prop := ∀ ψ, (Ext ψ φ ∧ ∀ x ∈ L, Mt ψ x.1 x.2) ↔ Ext ψ φ'
def spMd (n : Nat) : Sp := fun vs H Q _ => ∃ (v w : V) (d : Addr) (a b : Fm) (es : List Ent), vs = [v, w, .ref d] ∧ FmAt H v a ∧ FmAt H w b ∧ a.ok = true ∧ b.ok = true ∧ a.dep < n ∧ a.dep ≤ 60 ∧ b.dep ≤ 60 ∧ FrmAt H d es ∧ (∀ e ∈ es, e.2.1.ok = true ∧ e.2.1.dep ≤ 60) ∧ es.length + a.size ≤ 900 ∧
  (∀ H' es', But d H H' → FrmAt H' d es' → es'.length ≤ es.length + a.size → (∀ e ∈ es', e.2.1.ok = true ∧ e.2.1.dep ≤ 60) → Stp (look es) (look es') [(a, b)] → Q (.bl true) H') ∧
  ∀ H' es', But d H H' → FrmAt H' d es' → (∀ ψ, Ext ψ (look es) → ¬ Mt ψ a b) → Q (.bl false) H'
theorem Stp.nil (φ : List Nat → Option Fm) : Stp φ φ [] := fun ψ => ⟨fun h => h.1, fun h => ⟨h, fun x hx => nomatch hx⟩⟩
theorem Stp.snoc {φ φ1 φ2 : List Nat → Option Fm} {L : List (Fm × Fm)} {x : Fm × Fm} (h1 : Stp φ φ1 L) (h2 : Stp φ1 φ2 [x]) : Stp φ φ2 (L ++ [x]) := fun ψ => by
  rw [← h2 ψ, ← h1 ψ]
  refine ⟨fun ⟨a, b⟩ => ⟨⟨a, fun y hy => b y (List.mem_append_left _ hy)⟩, fun y hy => b y (List.mem_append_right _ hy)⟩, fun ⟨⟨a, b⟩, c⟩ => ⟨a, fun y hy => ?_⟩⟩
  rcases List.mem_append.mp hy with hy | hy
  · exact b y hy
  · exact c y hy
section
variable {P : Program} {w : World} {K : PySem.W.Frag} {mg : Str → Option Value} {base : Heap}
theorem ca_plain (T : Bl K mg) (D : Df K mg "_law_plain_forms" s_law_plain_forms p_law_plain_forms) (c_law_form : Ca P w K mg base 9 "_law_form" (spForm1P 5)) : Ca P w K mg base 10 "_law_plain_forms" spPlain := by
  refine ca_n D sc_law_plain_forms (fun vs H Q E h => ?_) (fun f cdv A outer s H vs Q E hr h => ?_)
  · obtain ⟨st, us, n, rfl, _⟩ := h
    rfl
  · obtain ⟨st, us, n, rfl, hus, hne, hst, hn, q⟩ := h
    refine ⟨_, (pss_one (ps_ret (pe_callTy (call_dictP rfl) (by rfl) T.b_dict (by decide +kernel) (pa_cons (pe_lc (own := [("_law_name_here", 3)]) (g := gName 3) (tt := tYes) rfl sc_law_plain_forms.nd (pi_list (pv 1)) (blkOk_by (own := [("_law_name_here", 3)]) (N := N_law_plain_forms) (sc := defScope s_law_plain_forms) (by decide +kernel)) (fun _ _ _ _ _ => pg_name (i := 3) sc_law_plain_forms.nd rfl (Or.inl rfl)) (fun _ _ _ _ _ => pts_nil) (fun _ _ _ _ _ => (pe_tup (pa_cons (pv 3) (pa_cons (pe_ca c_law_form hr (by decide) (by rfl) (pa_cons (pv 0) (pa_cons (pe_lst pa_nil) (pa_cons (pv 2) pa_nil)))) pa_nil))))) pa_nil)))), ?_⟩
    walk_at "go3"
    refine g_lcL0 ?_
    walk_at "go3"
    refine r_lcL (xs := base3.map fun u => .str (S u)) (fun D2 i acc H3 => But st H H3 ∧ StAt H3 st (n + i * 175) ∧ ∃ (ps : List Addr) (ws : List Ent), acc = ps.map V.ref ∧ PrsAt H3 ps ws ∧ ws.map (·.1) = base3.take i ∧ ∀ w ∈ ws, FmAt H3 w.2.2 w.2.1 ∧ w.2.1.ok = true ∧ w.2.1.uin [] = true ∧ w.2.1.dep ≤ 4 ∧ w.2.1.size ≤ 10) (SqL.of hus.1) (by rw [List.length_map]; show 3 < 1000000; decide) (fun _ => rfl)
      (fun D2 i acc H3 J => SqL.of (J.1 _ _ hne hus.1)) (fun D2 hD2 => ⟨But.of (Same.upd hD2), (hst.same (Same.upd hD2)).mono (by omega), [], [], rfl, ⟨rfl, fun i p w hp => by simp at hp⟩, by simp, fun w hw => nomatch hw⟩) (fun D2 i x acc H3 hD2 hx hacc3 hlen J => ?_) (fun D2 acc H3 hD2 hacc3 hlen J => ?_)
    · obtain ⟨b3, st3, ps, ws, rfl, hP, hwu, hF⟩ := J
      rw [List.getElem?_map] at hx
      obtain ⟨u, hu, rfl⟩ := Option.map_eq_some_iff.mp hx
      have hi : i < 3 := (List.getElem?_eq_some_iff.mp hu).1
      have nD2 : D2 ≠ st := (hst.ne hD2).symm
      walk_at "go3"
      refine ⟨by show 0 ≤ sizeLine; decide, fun p4 hp4 => ?_⟩
      walk_at "go3"
      refine ⟨st, p4, [], n + i * 175, 2, rfl, by decide, ⟨upd_same, fun x hx => (nomatch hx), by decide⟩, (st3.ne hp4).symm, st3.same (Same.upd hp4), by rw [show dr 2 = 175 from rfl]; omega, fun H5 v g okg plg dg zg b5 st5 fg => ?_⟩
      have b35 : But st H3 H5 := (But.of (Same.upd hp4)).trans b5
      walk_at "go3"
      refine ⟨by show 2 ≤ sizeLine; decide, fun p6 hp6 => ?_⟩
      have s6 : Same H5 (upd H5 p6 (.tup [.str (S u), v])) := Same.upd hp6
      have e6 : upd H5 p6 (.tup [.str (S u), v]) p6 = some (.tup [.str (S u), v]) := upd_same
      have b36 : But st H3 (upd H5 p6 (.tup [.str (S u), v])) := b35.trans (But.of s6)
      have st6 := st5.same s6
      have fg6 := fg.same s6
      generalize upd H5 p6 (.tup [.str (S u), v]) = H6 at b36 st6 fg6 e6 ⊢
      have t36 : Tps H3 H6 := st3.tps b36
      have hacc6 := b36 _ _ nD2 hacc3
      have t7 : Tps H6 (upd H6 D2 (.lst (ps.map V.ref ++ [.ref p6]))) := Tps.lst hacc6
      refine lcPost.of hacc6 hlen (by omega) ⟨fun b o hb e => ?_, ?_, ps ++ [p6], ws ++ [(u, g, v)], by rw [List.map_append]; rfl, ((hP.tps t36).snoc (w := (u, g, v)) e6).tps t7, ?_, fun w hw => ?_⟩
      · rw [upd_ne (ne_of_none e hD2)]
        exact b36 _ _ hb (b3 _ _ hb e)
      · have st7 : StAt (upd H6 D2 (.lst (ps.map V.ref ++ [.ref p6]))) st (n + i * 175 + dr 2) := st6.mut nD2.symm
        rw [show n + (i + 1) * 175 = n + i * 175 + dr 2 by rw [show dr 2 = 175 from rfl]; omega]
        exact st7
      · rw [List.map_append, hwu, List.take_succ, hu]
        rfl
      · rcases List.mem_append.mp hw with hw | hw
        · exact ⟨((hF w hw).1.tps t36).tps t7, (hF w hw).2⟩
        · rw [List.mem_singleton.mp hw]
          exact ⟨fg6.tps t7, okg, plg, by omega, Nat.le_trans zg (by decide)⟩
    · obtain ⟨b3, st3, ps, ws, rfl, hP, hwu, hF⟩ := J
      rw [List.length_map, List.take_of_length_le (Nat.le_refl _)] at hwu
      have hnd : (ws.map (·.1)).Nodup := by rw [hwu]; decide
      have hwl : ws.length = 3 := by
        have := congrArg List.length hwu
        rw [List.length_map] at this
        exact this
      walk_at "go3"
      refine mk_dict hacc3 hP hnd fun p hp => ?_
      have s4 : Same H3 (upd H3 p (.dK (ws.map kvE))) := Same.upd hp
      have npst : p ≠ st := (st3.ne hp).symm
      walk_at "go3"
      refine q _ p ws (b3.trans (But.of s4)) ((st3.mono (by rw [List.length_map]; show _ + 3 * 175 ≤ _; omega)).same s4) (b3.none hp npst) ⟨upd_same, fun w hw => (hF w hw).1.same s4, hnd, by omega⟩ hwu (fun w hw => (hF w hw).2)
theorem ca_matched (T : Bl K mg) (D : Df K mg "_law_matched" s_law_matched p_law_matched) : ∀ n, Ca P w K mg base (1 + n) "_law_matched" (spMd n)
  | 0 => by
    refine ca_n D sc_law_matched (fun vs H Q E h => ?_) (fun f cdv A outer s H vs Q E hr h => ?_)
    · obtain ⟨v, w, d, a, b, es, rfl, _⟩ := h
      rfl
    · obtain ⟨v, w, d, a, b, es, rfl, _, _, _, _, hd, _⟩ := h
      exact absurd hd (Nat.not_lt_zero _)
  | n + 1 => by
    have c_law_matched := ca_matched T D n
    refine ca_n (k := 1 + n) D sc_law_matched (fun vs H Q E h => ?_) (fun f cdv A outer s H vs Q E hr h => ?_)
    · obtain ⟨v, w, d, a, b, es, rfl, _⟩ := h
      rfl
    · obtain ⟨v, w, d, a, b, es, rfl, fa, fb, oa, ob, hd, da, db, hF, hes, hsz, qt, qf⟩ := h
      refine ⟨_, (pss_cons (ps_if (pt_cmpR op_eq (pe_ix ix_tup (pv 0) pe_int (fun _ _ => rfl)) pe_str (nomark _))
  (pss_cons (ps_if (pt_cmp (pc_dnotin (hu_of hr) (pe_ix ix_tup (pv 0) pe_int (fun _ _ => rfl)) (pv 2)) rfl)
  (pss_one (ps_dput (hu_of hr) (pv 2) (pe_ix ix_tup (pv 0) pe_int (fun _ _ => rfl)) (pv 1) rfl))
  pss_nil)
  (pss_one (ps_ret (pe_cmpR (op_eqD hr.units) (pe_dget (hu_of hr) (pv 2) (pe_ix ix_tup (pv 0) pe_int (fun _ _ => rfl)) (fun _ _ => rfl)) (pv 1) (nomark _)))))
  pss_nil)
  (pss_cons (ps_if (PW.pt (pw_or (pt_cmpR op_in_seq (pe_ix ix_tup (pv 0) pe_int (fun _ _ => rfl)) (pe_tup (pa_cons pe_str (pa_cons pe_str pa_nil))) rfl) (pw_or1 (pt_cmpR op_ne (pe_ix ix_tup (pv 0) pe_int (fun _ _ => rfl)) (pe_ix ix_tup (pv 1) pe_int (fun _ _ => rfl)) (nomark _)))))
  (pss_one (ps_ret (pe_cmpR (op_eqD hr.units) (pv 0) (pv 1) (nomark _))))
  pss_nil)
  (pss_cons (ps_for PassesOwn.never rfl (RZ.pi_zipA (by rfl) T.b_zip (pa_cons (pe_slice sl_tup (pv 0) (po_some pe_int) po_none) (pa_cons (pe_slice sl_tup (pv 1) (po_some pe_int) po_none) pa_nil))) (pg_tup rfl (pgs_cons (pg_name (i := 3) sc_law_matched.nd rfl (Or.inl rfl)) (pgs_cons (pg_name (i := 4) sc_law_matched.nd rfl (Or.inl rfl)) pgs_nil)))
  (pss_one (ps_if (pt_not (pt_val (pe_ca c_law_matched hr (by omega) (by rfl) (pa_cons (pv 3) (pa_cons (pv 4) (pa_cons (pv 2) pa_nil))))))
  (pss_one (ps_ret pe_bl))
  pss_nil)))
  (pss_one (ps_ret pe_bl))))), ?_⟩
      rcases two10 fa fb oa ob with ⟨p, k, t, rfl, rfl, ep, hk⟩ | ⟨p, k, cs, q1, j, ds, rfl, ep, hk, rfl, eq1, two⟩
      · walk_at "go5"
        refine iteD (fun h => ?_) (fun h => ?_)
        · have e : k = kUnk := V.str.inj h
          subst e
          walk_at "go5"
          refine ⟨d, valV (es.map kvE) (.inr (S t)), rfl, DGet.k (k := .inr (S t)) hF.1, ?_⟩
          cases hv : valV (es.map kvE) (.inr (S t)) with
          | some v0 =>
            refine ⟨false, rfl, ?_⟩
            have hv0 := hv
            rw [valK] at hv
            obtain ⟨e, he, rfl⟩ := Option.map_eq_some_iff.mp hv
            have hm1 := List.mem_of_find?_eq_some he
            have hlk : look es t = some e.2.1 := by
              unfold look
              rw [he]
              rfl
            walk_at "go5"
            refine ⟨d, e.2.2, rfl, hv0 ▸ DGet.k (k := .inr (S t)) hF.1, ?_⟩
            walk_at "go5"
            refine fm_eq10 (hF.2.1 e hm1) fb (hes e hm1).1 ob (hes e hm1).2 db (fun z => ?_) (fun z => ?_)
            · refine qt H es (But.refl _) hF (Nat.le_add_right _ _) hes fun ψ => ⟨fun h => h.1, fun h => ⟨h, fun x hx => ?_⟩⟩
              rw [List.mem_singleton.mp hx]
              show (if kUnk = kUnk then ψ t = some b else b = .atm kUnk t)
              rw [if_pos rfl, ← z]
              exact h t _ hlk
            · refine qf H es (But.refl _) hF fun ψ h m => ?_
              have m2 : (if kUnk = kUnk then ψ t = some b else b = .atm kUnk t) := m
              rw [if_pos rfl, h t _ hlk] at m2
              exact z (Option.some.inj m2)
          | none =>
            refine ⟨true, rfl, ?_⟩
            have hlk : look es t = none := by
              rw [valK, Option.map_eq_none_iff] at hv
              unfold look
              rw [hv]
              rfl
            obtain ⟨es', p1, p2, p3, p4, p5⟩ := put_at (u := t) (g := b) (z := w) hF.2.2.1
            have hz1 : es'.length ≤ es.length + (Fm.atm kUnk t).size := p4
            have t6 : Tps H (upd H d (.dK (es'.map kvE))) := Tps.lock hF.1
            have hF6 : FrmAt (upd H d (.dK (es'.map kvE))) d es' := ⟨upd_same, fun e he => by
              rcases p3 e he with h | h
              · exact (hF.2.1 e h).tps t6
              · rw [h]
                exact fb.tps t6, p2, by omega⟩
            have hes6 : ∀ e ∈ es', e.2.1.ok = true ∧ e.2.1.dep ≤ 60 := fun e he => by
              rcases p3 e he with h | h
              · exact hes e h
              · rw [h]
                exact ⟨ob, db⟩
            have hl6 : look es' t = some b := by rw [p5, if_pos rfl]
            obtain ⟨e, he, hk1, hk2⟩ := look_mem hl6
            have hget : valV (es'.map kvE) (.inr (S t)) = some e.2.2 := by
              rw [← hk1, valK, find_at p2 he]
              rfl
            walk_at "go5"
            refine ⟨d, _, rfl, DPut.k (k := .inr (S t)) hF.1 (by rw [List.length_map, sizeLine_eq]; omega), ?_⟩
            rw [p1]
            walk_at "go5"
            refine g_ixT (v := .str (S t)) (SqT.of (t6 _ _ ep)) rfl ?_
            walk_at "go5"
            refine ⟨d, e.2.2, rfl, hget ▸ DGet.k (k := .inr (S t)) hF6.1, ?_⟩
            walk_at "go5"
            have fe : FmAt (upd H d (.dK (es'.map kvE))) e.2.2 b := hk2 ▸ hF6.2.1 e he
            refine fm_eq10 fe (fb.tps t6) ob ob db db (fun z => ?_) (fun z => absurd rfl z)
            refine qt _ es' But.upd hF6 hz1 hes6 fun ψ => ⟨fun h u g hu => ?_, fun h => ⟨fun u g hu => h u g ?_, fun x hx => ?_⟩⟩
            · rw [p5] at hu
              by_cases z : t = u
              · rw [if_pos z] at hu
                have m : (if kUnk = kUnk then ψ t = some b else b = .atm kUnk t) := h.2 _ List.mem_cons_self
                rw [if_pos rfl] at m
                rw [← z, ← hu]
                exact m
              · rw [if_neg z] at hu
                exact h.1 u g hu
            · rw [p5, if_neg (fun z => by rw [← z, hlk] at hu; cases hu)]
              exact hu
            · rw [List.mem_singleton.mp hx]
              show (if kUnk = kUnk then ψ t = some b else b = .atm kUnk t)
              rw [if_pos rfl]
              exact h t b hl6
        · have hne : k ≠ kUnk := fun z => h (congrArg V.str z)
          walk_at "go5"
          refine ⟨by show 2 ≤ sizeLine; decide, fun p2 hp2 => ?_⟩
          refine g_inT (SqT.of upd_same) rfl rfl ?_
          have hin : inV (.str k) [V.str kWord, V.str kName] = true := by
            simp only [atK, Bool.or_eq_true, beq_iff_eq] at hk
            rcases hk with (rfl | rfl) | rfl
            · decide +kernel
            · decide +kernel
            · exact absurd rfl hne
          rw [hin]
          have s2 : Same H (upd H p2 (.tup [.str kWord, .str kName])) := Same.upd hp2
          walk_at "go5"
          refine fm_eq10 (fa.same s2) (fb.same s2) oa ob da db (fun z => ?_) (fun z => ?_)
          · refine qt _ es (But.of s2) (hF.same s2) (Nat.le_add_right _ _) hes fun ψ => ⟨fun h => h.1, fun h => ⟨h, fun x hx => ?_⟩⟩
            rw [List.mem_singleton.mp hx]
            show (if k = kUnk then ψ t = some b else b = .atm k t)
            rw [if_neg hne]
            exact z.symm
          · refine qf _ es (But.of s2) (hF.same s2) fun ψ h m => ?_
            have m2 : (if k = kUnk then ψ t = some b else b = .atm k t) := m
            rw [if_neg hne] at m2
            exact z m2.symm
      · walk_at "go5"
        refine g_ixT (v := .str k) (SqT.of ep) at0 ?_
        walk_at "go5"
        refine iteD (fun h => absurd hk (by rw [V.str.inj h]; decide +kernel)) (fun _ => ?_)
        walk_at "go5"
        refine g_ixT (v := .str k) (SqT.of ep) at0 ?_
        walk_at "go5"
        refine ⟨by show 2 ≤ sizeLine; decide, fun p2 hp2 => ?_⟩
        refine g_inT (SqT.of upd_same) rfl rfl ?_
        rw [inV_wn hk]
        have s2 : Same H (upd H p2 (.tup [.str kWord, .str kName])) := Same.upd hp2
        have ep2 := s2 _ _ ep
        have eq2 := s2 _ _ eq1
        generalize upd H p2 (.tup [.str kWord, .str kName]) = H2 at s2 ep2 eq2 ⊢
        walk_at "go5"
        refine g_ixT (v := .str k) (SqT.of ep2) at0 ?_
        walk_at "go5"
        refine g_ixT (v := .str j) (SqT.of eq2) at0 ?_
        walk_at "go5"
        rcases two with ⟨hkj, hab, hno⟩ | ⟨rfl, ks, ls, rfl, rfl, hl, hl2, hks, hls, hsum, hM⟩
        · refine iteND (fun h => ?_) (fun h => absurd (V.str.inj h) hkj)
          walk_at "go5"
          refine fm_eq10 (fa.same s2) (fb.same s2) oa ob da db (fun z => absurd z hab) (fun z => ?_)
          exact qf _ es (But.of s2) (hF.same s2) fun ψ _ => hno ψ
        · refine iteND (fun h => absurd rfl h) (fun _ => ?_)
          walk_at "go5"
          refine g_forZ10 ?_
          walk_at "go5"
          refine g_slT (SqT.of ep2) (nowhole _ _) fun p4 hp4 => ?_
          rw [cut_tail]
          have s5 : Same H2 (upd H2 p4 (.tup (ks.map (·.1)))) := Same.upd hp4
          have e5 : upd H2 p4 (.tup (ks.map (·.1))) p4 = some (.tup (ks.map (·.1))) := upd_same
          have hF2 := hF.same s2
          have n4 : p4 ≠ d := fun z => by rw [z, hF2.1] at hp4; cases hp4
          generalize upd H2 p4 (.tup (ks.map (·.1))) = H5 at s5 e5 ⊢
          walk_at "go5"
          refine g_slT (SqT.of (s5 _ _ eq2)) (nowhole _ _) fun p5 hp5 => ?_
          rw [cut_tail]
          have s6 : Same H5 (upd H5 p5 (.tup (ls.map (·.1)))) := Same.upd hp5
          have e6 : upd H5 p5 (.tup (ls.map (·.1))) p5 = some (.tup (ls.map (·.1))) := upd_same
          have e56 := s6 _ _ e5
          have s06 := s2.trans (s5.trans s6)
          have n5 : p5 ≠ d := fun z => by rw [z, s5 _ _ hF2.1] at hp5; cases hp5
          generalize upd H5 p5 (.tup (ls.map (·.1))) = H6 at e6 e56 s06 s6 ⊢
          clear s5 s6 e5 hp4 hp5
          have hF6 := hF.same s06
          walk_at "go5"
          refine r_forZ10 (xs := ks.map (·.1)) (ys := ls.map (·.1)) (by rw [List.length_map, List.length_map, hl]) (fun i σ3 H3 => ∃ (x4 x5 : Option V) (esi : List Ent), σ3 = [some (.ref p), some (.ref q1), some (.ref d), x4, x5] ∧ But d H6 H3 ∧ FrmAt H3 d esi ∧ (∀ e ∈ esi, e.2.1.ok = true ∧ e.2.1.dep ≤ 60) ∧ esi.length ≤ es.length + sumS (ks.take i) ∧ Stp (look es) (look esi) (((ks.zip ls).take i).map fun x => (x.1.2, x.2.2)))
            ⟨_, _, es, rfl, But.refl _, hF6, hes, Nat.le_add_right _ _, Stp.nil _⟩ (fun i σ3 H3 J => ?_) (fun i x y T2 σ3 H3 hx hy J hT2 => ?_) (fun σ3 H3 J => ?_)
          · obtain ⟨x4, x5, esi, rfl, b3, _⟩ := J
            exact ⟨SqT.of (b3 _ _ n4 e56), SqT.of (b3 _ _ n5 e6)⟩
          · obtain ⟨x4, x5, esi, rfl, b3, hF3, hes3, hl3, hS⟩ := J
            rw [List.getElem?_map] at hx hy
            obtain ⟨yk, hyk, rfl⟩ := Option.map_eq_some_iff.mp hx
            obtain ⟨yl, hyl, rfl⟩ := Option.map_eq_some_iff.mp hy
            have mk := hks yk (List.mem_of_getElem? hyk)
            have ml := hls yl (List.mem_of_getElem? hyl)
            have hz : (ks.zip ls)[i]? = some (yk, yl) := List.getElem?_zip_eq_some.mpr ⟨hyk, hyl⟩
            have s7 : Same H3 (upd H3 T2 (.tup [yk.1, yl.1])) := Same.upd hT2
            have t63 : Tps H6 H3 := tpsD hF6.1 b3
            have e7 : upd H3 T2 (.tup [yk.1, yl.1]) T2 = some (.tup [yk.1, yl.1]) := upd_same
            have fk7 := ((mk.1.same s06).tps t63).same s7
            have fl7 := ((ml.1.same s06).tps t63).same s7
            have hF7 := hF3.same s7
            have b07 : But d H (upd H3 T2 (.tup [yk.1, yl.1])) := ((But.of s06).trans b3).trans (But.of s7)
            have b67 : But d H6 (upd H3 T2 (.tup [yk.1, yl.1])) := b3.trans (But.of s7)
            generalize upd H3 T2 (.tup [yk.1, yl.1]) = H7 at e7 fk7 fl7 hF7 b07 b67 ⊢
            clear s7 t63 b3 hF3 hT2
            refine ⟨T2, [yk.1, yl.1], rfl, SqT.of e7, rfl, _, _, rfl, ?_⟩
            refine g_name ?_
            refine ⟨_, _, rfl, ?_⟩
            refine g_name ?_
            refine ⟨rfl, ?_⟩
            have hst := sum_take hyk
            have hst2 := sum_take_le ks (i + 1)
            have hsum2 : sumS ks < a.size := hsum
            walk_at "go5"
            refine ⟨yk.1, yl.1, d, yk.2, yl.2, esi, rfl, fk7, fl7, mk.2.1, ml.2.1, by have := mk.2.2; omega, by have := mk.2.2; omega, by have := ml.2.2; omega, hF7, hes3, by omega, fun H8 es' b8 hF8 hl8 hes8 hS8 => ?_, fun H8 es' b8 hF8 hn => ?_⟩
            · walk_at "go5"
              refine ⟨_, _, es', rfl, b67.trans b8, hF8, hes8, by omega, ?_⟩
              rw [List.take_succ, hz, List.map_append]
              exact hS.snoc hS8
            · walk_at "go5"
              refine qf H8 es' (b07.trans b8) hF8 fun ψ hψ m => ?_
              have hall := (hM ψ).mp m
              have h1 : Ext ψ (look esi) := (hS ψ).mp ⟨hψ, fun x hx => by
                obtain ⟨y, hy2, rfl⟩ := List.mem_map.mp hx
                exact hall y (List.mem_of_mem_take hy2)⟩
              exact hn ψ h1 (hall (yk, yl) (List.mem_of_getElem? hz))
          · obtain ⟨x4, x5, esi, rfl, b3, hF3, hes3, hl3, hS⟩ := J
            rw [List.length_map, List.take_of_length_le (Nat.le_refl _)] at hl3
            rw [List.length_map, List.take_of_length_le (by rw [List.length_zip]; omega)] at hS
            have hsum2 : sumS ks < a.size := hsum
            walk_at "go5"
            refine qt H3 esi ((But.of s06).trans b3) hF3 (by omega) hes3 fun ψ => ?_
            rw [← hS ψ]
            refine ⟨fun h => ⟨h.1, fun x hx => ?_⟩, fun h => ⟨h.1, fun x hx => ?_⟩⟩
            · obtain ⟨y, hy2, rfl⟩ := List.mem_map.mp hx
              exact (hM ψ).mp (h.2 (a, b) List.mem_cons_self) y hy2
            · rw [List.mem_singleton.mp hx]
              exact (hM ψ).mpr fun y hy2 => h.2 (y.1.2, y.2.2) (List.mem_map.mpr ⟨y, hy2, rfl⟩)
end
end Op

namespace Op
open PySem PySem.Spec PyProof.Rows L2 SX OpC
local macro_rules | `(tactic| walk_at "go1") => `(tactic| first
  | ((with_reducible refine' g_var ?h ?_); (case h => rfl)) | with_reducible refine' g_c ?_ | with_reducible refine' g_op ?_ | with_reducible refine' g_un ?_ | with_reducible refine' g_if ?_ | with_reducible refine' g_test ?_ | with_reducible refine' g_B ?_ | with_reducible refine' g_bl ?_
  | with_reducible refine' g_not ?_ | with_reducible refine' g_and ?_ | with_reducible refine' g_or ?_ | with_reducible refine' g_andV ?_ | with_reducible refine' g_orV ?_ | with_reducible refine' g_notV ?_ | with_reducible refine' g_nil ?_ | with_reducible refine' g_cons ?_ | with_reducible refine' g_CB ?_ | with_reducible refine' g_ca ?_
  | with_reducible refine' g_seq ?_ | with_reducible refine' g_next ?_ | with_reducible refine' g_asg ?_ | with_reducible refine' g_name ?_ | with_reducible refine' g_ret ?_ | with_reducible refine' g_retN ?_ | with_reducible refine' g_drop ?_ | with_reducible refine' g_ifS ?_ | with_reducible refine' g_sub ?_
  | with_reducible refine' g_I0 ?_ | with_reducible refine' g_U ?_ | ((with_reducible refine' g_eq ?h ?_); (case h => rfl)) | ((with_reducible refine' g_ne ?h ?_); (case h => rfl))
  | ((with_reducible refine' g_lenL ?h ?_); (case h => first | assumption | exact SqL.of (by assumption) | exact SqL.of upd_same)) | ((with_reducible refine' g_lenT ?h ?_); (case h => first | assumption | exact SqT.of (by assumption) | exact SqT.of upd_same))
  | ((with_reducible refine' g_ixL ?h ?ha ?_); (case h => first | assumption | exact SqL.of (by assumption) | exact SqL.of upd_same); (case ha => rfl)) | ((with_reducible refine' g_ixT ?h ?ha ?_); (case h => first | assumption | exact SqT.of (by assumption) | exact SqT.of upd_same); (case ha => rfl))
  | ((with_reducible refine' g_I ?h ?_); (case h => first | decide | omega | (first | refine' ⟨?_, ?_, ?_⟩ | refine' ⟨?_, ?_⟩ | refine' Or.inl ⟨?_, ?_⟩) <;> omega | (refine' Or.inr ⟨?_, ?_⟩ <;> omega)))
  | ((with_reducible refine' g_setL ?h ?ha ?_); (case h => first | assumption | exact upd_same); (case ha => rfl))
  | with_reducible refine' g_lcR ?_
  | with_reducible refine' g_M1 ?_ | with_reducible refine' g_isS ?_ | with_reducible refine' g_tyS ?_ | ((with_reducible refine' g_tyL ?h ?_); (case h => first | assumption | exact upd_same))
  | ((with_reducible refine' g_cat ?h ?h2 ?hl ?_); (case h => first | assumption | exact upd_same); (case h2 => first | assumption | exact upd_same); (case hl => first | decide | (simp; omega)))
  | with_reducible refine' g_lcS ?_
  | with_reducible refine' g_starts ?_ | with_reducible refine' g_chain ?_
  | ((with_reducible refine' g_lenS ?h ?_); (case h => first | exact len_le (by assumption) | exact len_le (by omega))) | ((with_reducible refine' g_rstrip ?h ?_); (case h => first | exact len_le (by assumption) | exact len_le (by omega))) | ((with_reducible refine' g_slX ?h ?_); (case h => first | exact len_le (by assumption) | exact len_le (by omega)))
  | with_reducible refine' g_sl ?_ | with_reducible refine' g_nopart ?_ | with_reducible refine' g_part ?_ | with_reducible refine' g_isI ?_
  | with_reducible refine' g_tru ?_
  | with_reducible refine' iteT ?_ | with_reducible refine' iteF ?_ | with_reducible refine' iteNT ?_ | with_reducible refine' iteNF ?_
  | with_reducible refine' g_int ?_ | with_reducible refine' g_insg ?_ | with_reducible refine' g_ninsg ?_ | with_reducible refine' g_isN ?_ | with_reducible refine' g_notN ?_ | with_reducible refine' g_lst ?_ | with_reducible refine' g_tup ?_ | with_reducible refine' g_BM ?_ | with_reducible refine' g_BM0 ?_)
local macro_rules | `(tactic| walk_at "go") => `(tactic| repeat' walk_at "go1")
local macro_rules | `(tactic| walk_at "go2") => `(tactic| repeat' (first | walk_at "go1" | with_reducible refine' g_cm ?_ | with_reducible refine' g_mk ?_ | with_reducible refine' g_for ?_ | ((with_reducible refine' g_rcm ?h ?ha ?_); (case h => first | assumption | exact upd_same); (case ha => first | rfl | decide | simp [List.lookup]))))
/- macro2 -/
local macro_rules | `(tactic| walk_at "go3a") => `(tactic| first
  | walk_at "go1" | with_reducible refine' g_cm ?_ | with_reducible refine' g_mk ?_ | with_reducible refine' g_for ?_ | with_reducible refine' g_fld ?_ | with_reducible refine' g_lcT0 ?_
  | ((with_reducible refine' g_rcm ?h ?ha ?_); (case h => first | assumption | exact upd_same); (case ha => first | rfl | decide | simp [List.lookup]))
  | ((with_reducible refine' g_shape ?hc ?hn ?h ?_); (case hc => assumption); (case hn => assumption); (case h => first | assumption | exact upd_same | (rw [upd_ne (by assumption)]; assumption))))
local macro_rules | `(tactic| walk_at "go3") => `(tactic| repeat' walk_at "go3a")
local macro_rules | `(tactic| walk_at "go4") => `(tactic| repeat' (first
  | walk_at "go3a" | ((with_reducible refine' iteDT ?h ?_); (case h => first | rfl | decide +kernel)) | ((with_reducible refine' iteDF ?h ?_); (case h => decide +kernel))))
/-- a form without unknowns, its parts, and another part at one's place -/
theorem kids_bent {H : Hp} {v : V} {a : Fm} (h : FmAt H v a) (ok : a.ok = true) (pl : a.uin [] = true) : (∃ p k t, v = .ref p ∧ a = .atm k t ∧ H p = some (.tup [.str k, .str (S t)]) ∧ (k = kWord ∨ k = kName)) ∨
    ∃ (p : Addr) (k : Str) (ks : List (V × Fm)), v = .ref p ∧ H p = some (.tup (.str k :: ks.map (·.1))) ∧ atK k = false ∧ 1 ≤ ks.length ∧ ks.length ≤ 2 ∧ (∀ y ∈ ks, FmAt H y.1 y.2 ∧ y.2.ok = true ∧ y.2.uin [] = true ∧ y.2.dep < a.dep) ∧
      ∀ (i : Nat) (H' : Hp) (q : Addr) (z : V) (g : Fm), i < ks.length → Tps H H' → H' q = some (.tup (.str k :: (ks.map (·.1)).set i z)) → FmAt H' z g → g.ok = true → (k = kLock → i = 1 → g.isKey = true) → ∃ b, FmAt H' (.ref q) b ∧ b.ok = true ∧ b.dep ≤ max a.dep (g.dep + 1) := by
  cases h with
  | @atm p k t h =>
    refine .inl ⟨p, k, t, rfl, rfl, h, ?_⟩
    have hk := Fm.ok_kin ok
    simp only [Fm.kin, atK, Bool.or_eq_true, beq_iff_eq] at hk
    rcases hk with (hk | hk) | hk
    · exact .inl hk
    · exact .inr hk
    · have pl2 : (!(k == kUnk) || decide (t ∈ ([] : List (List Nat)))) = true := pl
      rw [hk] at pl2
      simp at pl2
  | @un p k w b h f =>
    simp only [Fm.ok, Bool.and_eq_true] at ok
    refine .inr ⟨p, k, [(w, b)], rfl, h, unK_at ok.1, Nat.le_refl _, by show 1 ≤ 2; decide, fun y hy => ?_, fun i H' q z g hi t e fz og _ => ?_⟩
    · rw [List.mem_singleton.mp hy]
      exact ⟨f, ok.2, pl, Nat.lt_succ_self _⟩
    · cases i with
      | succ i => exact absurd hi (by show ¬ (i + 1 < 1); omega)
      | zero =>
        refine ⟨.un k g, .un e fz, ?_, by show g.dep + 1 ≤ _; omega⟩
        simp only [Fm.ok, ok.1, og, Bool.and_self]
  | @bi p k w z b c h f g =>
    simp only [Fm.ok, Bool.and_eq_true] at ok
    have pl2 : (b.uin [] && c.uin []) = true := pl
    rw [Bool.and_eq_true] at pl2
    refine .inr ⟨p, k, [(w, b), (z, c)], rfl, h, biK_at ok.1, by show 1 ≤ 2; decide, Nat.le_refl _, fun y hy => ?_, fun i H' q z' g' hi t e fz og hkey => ?_⟩
    · simp only [List.mem_cons, List.not_mem_nil, or_false] at hy
      rcases hy with rfl | rfl
      · exact ⟨f, ok.2.2.1, pl2.1, by show b.dep < max b.dep c.dep + 1; omega⟩
      · exact ⟨g, ok.2.2.2, pl2.2, by show c.dep < max b.dep c.dep + 1; omega⟩
    · match i, hi with
      | 0, _ =>
        refine ⟨.bi k g' c, .bi e fz (g.tps t), ?_, by show max g'.dep c.dep + 1 ≤ max (max b.dep c.dep + 1) (g'.dep + 1); omega⟩
        simp only [Fm.ok, Bool.and_eq_true]
        exact ⟨ok.1, ok.2.1, og, ok.2.2.2⟩
      | 1, _ =>
        refine ⟨.bi k b g', .bi e (f.tps t) fz, ?_, by show max b.dep g'.dep + 1 ≤ max (max b.dep c.dep + 1) (g'.dep + 1); omega⟩
        simp only [Fm.ok, Bool.and_eq_true]
        refine ⟨ok.1, ?_, ok.2.2.1, og⟩
        by_cases hk : k = kLock
        · rw [hkey hk rfl, Bool.or_true]
        · rw [beq_eq_false_iff_ne.mpr hk]
          rfl
      | i + 2, hi => exact absurd hi (by show ¬ (i + 2 < 2); omega)
theorem us0 {H : Hp} {p : Addr} (h : H p = some (.lst [])) : UsAt H p [] := ⟨h, (fun x hx => nomatch hx), by decide⟩
theorem cut_pre (x : V) (xs : List V) (i : Nat) (h : i ≤ xs.length) : cutV (x :: xs) none (some ((i + 1 : Nat) : Int)) = x :: xs.take i := by
  unfold cutV
  rw [HT.sIx_nat, HT.sIx_none, List.length_cons, Nat.min_eq_left (by omega), Nat.sub_zero, List.drop_zero, List.take_succ_cons]
theorem cut_suf (x : V) (xs : List V) (i : Nat) (h : i < xs.length) : cutV (x :: xs) (some ((i + 2 : Nat) : Int)) none = xs.drop (i + 1) := by
  unfold cutV
  rw [HT.sIx_nat, HT.sIx_none, List.length_cons, Nat.min_eq_left (by omega), List.drop_succ_cons, List.take_of_length_le (by rw [List.length_drop]; omega)]
theorem nw_pre (x : V) (xs : List V) (i : Nat) (h : i < xs.length) : ¬ (HT.sIx (x :: xs).length 0 none = 0 ∧ HT.sIx (x :: xs).length (x :: xs).length (some ((i + 1 : Nat) : Int)) = (x :: xs).length) := by
  rw [HT.sIx_nat, List.length_cons]
  omega
theorem nw_suf (x : V) (xs : List V) (i : Nat) : ¬ (HT.sIx (x :: xs).length 0 (some ((i + 2 : Nat) : Int)) = 0 ∧ HT.sIx (x :: xs).length (x :: xs).length none = (x :: xs).length) := by
  rw [HT.sIx_nat, List.length_cons]
  omega
def spBent (n : Nat) : Sp := fun vs H Q _ => ∃ (st : Addr) (v : V) (a : Fm) (m : Nat), vs = [.ref st, v] ∧ StAt H st m ∧ FmAt H v a ∧ a.ok = true ∧ a.uin [] = true ∧ a.dep < n ∧ m + 80 + 2 * n ≤ 1000000000000 ∧
  ∀ H' z b, b.ok = true → b.dep ≤ 2 * a.dep + 2 → But st H H' → StAt H' st (m + 80 + 2 * n) → FmAt H' z b → Q z H'
section
variable {P : Program} {w : World} {K : PySem.W.Frag} {mg : Str → Option Value} {base : Heap}
theorem ca_bent (T : Bl K mg) (D : Df K mg "_law_bent" s_law_bent p_law_bent) (c_law_draw : Ca P w K mg base 1 "_law_draw" spDraw) (c_law_form : Ca P w K mg base 6 "_law_form" (spForm1P 2)) : ∀ n, Ca P w K mg base (6 + n) "_law_bent" (spBent n)
  | 0 => by
    refine ca_n D sc_law_bent (fun vs H Q E h => ?_) (fun f cdv A outer s H vs Q E hr h => ?_)
    · obtain ⟨st, v, a, m, rfl, _⟩ := h
      rfl
    · obtain ⟨st, v, a, m, rfl, _, _, _, _, hd, _⟩ := h
      exact absurd hd (Nat.not_lt_zero _)
  | n + 1 => by
    have c_law_bent := ca_bent T D c_law_draw c_law_form n
    refine ca_n (k := 6 + n) D sc_law_bent (fun vs H Q E h => ?_) (fun f cdv A outer s H vs Q E hr h => ?_)
    · obtain ⟨st, v, a, m, rfl, _⟩ := h
      rfl
    · obtain ⟨st, v, a, m, rfl, hst, fa, ok, pl, hd, hm, q⟩ := h
      refine ⟨_, (pss_cons (ps_if (PW.pt (pw_or (pt_cmpR op_in_seq (pe_ix ix_tup (pv 1) pe_int (fun _ _ => rfl)) (pe_tup (pa_cons pe_str (pa_cons pe_str pa_nil))) rfl) (pw_or1 (pt_cmpR op_eq (pe_ca c_law_draw hr (by omega) (by rfl) (pa_cons (pv 0) (pa_cons pe_int pa_nil))) pe_int (nomark _)))))
  (pss_one (ps_ret (pe_ca c_law_form hr (by omega) (by rfl) (pa_cons (pv 0) (pa_cons (pe_lst pa_nil) (pa_cons pe_int pa_nil))))))
  pss_nil)
  (pss_cons (ps_set (i := 2) sc_law_bent.nd rfl (Or.inl rfl) (pe_op op_add pe_int (pe_ca c_law_draw hr (by omega) (by rfl) (pa_cons (pv 0) (pa_cons (pe_op op_sub (pe_callB cq_len (by rfl) T.b_len (by decide +kernel) (pa_cons (pv 1) pa_nil)) pe_int) pa_nil)))))
  (pss_cons (ps_set (i := 3) sc_law_bent.nd rfl (Or.inl rfl) (pe_ca c_law_bent hr (by omega) (by rfl) (pa_cons (pv 0) (pa_cons (pe_ix ix_tup (pv 1) (pv 2) (fun _ _ => rfl)) pa_nil))))
  (C8.pss_cut (ps_if (PW.pt (pw_and (pt_cmpR op_eq (pe_ix ix_tup (pv 1) pe_int (fun _ _ => rfl)) pe_str (nomark _)) (pw_and1 (pt_cmpR op_eq (pv 2) pe_int (nomark _)))))
  (pss_one (ps_set (i := 3) sc_law_bent.nd rfl (Or.inl rfl) (pe_tup (pa_cons pe_str (pa_cons (pv 3) pa_nil)))))
  pss_nil)
  (pss_one (ps_ret (pe_op op_catA (pe_op op_catA (pe_slice sl_tup (pv 1) po_none (po_some (pv 2))) (pe_tup (pa_cons (pv 3) pa_nil))) (pe_slice sl_tup (pv 1) (po_some (pe_op op_add (pv 2) pe_int)) po_none)))))))), ?_⟩
      rcases kids_bent fa ok pl with ⟨p, k, t, rfl, rfl, ep, hk⟩ | ⟨p, k, ks, rfl, ep, hk, hk1, hk2, hks, hset⟩
      · walk_at "go3"
        refine ⟨by show 2 ≤ sizeLine; decide, fun p2 hp2 => ?_⟩
        refine g_inT (SqT.of upd_same) rfl rfl ?_
        have hin : inV (.str k) [V.str kWord, V.str kName] = true := by rcases hk with rfl | rfl <;> decide +kernel
        rw [hin]
        have st2 := hst.same (Same.upd (o := .tup [.str kWord, .str kName]) hp2)
        walk_at "go3"
        refine ⟨Nat.zero_le _, fun p3 hp3 => ?_⟩
        walk_at "go3"
        refine ⟨st, p3, [], m, 1, rfl, by decide, us0 upd_same, (st2.ne hp3).symm, st2.same (Same.upd hp3), by rw [show dr 1 = 75 from rfl]; omega, fun H5 z b okb _ db _ b5 st5 fb => ?_⟩
        exact q _ z b okb (by omega) (((But.of (Same.upd hp2)).trans (But.of (Same.upd hp3))).trans b5) (st5.mono (by rw [show dr 1 = 75 from rfl]; omega)) fb
      · walk_at "go3"
        refine g_ixT (v := .str k) (SqT.of ep) at0 ?_
        walk_at "go3"
        refine ⟨by show 2 ≤ sizeLine; decide, fun p2 hp2 => ?_⟩
        refine g_inT (SqT.of upd_same) rfl rfl ?_
        rw [inV_wn hk]
        have s2 : Same H (upd H p2 (.tup [.str kWord, .str kName])) := Same.upd hp2
        have st2 := hst.same s2
        generalize upd H p2 (.tup [.str kWord, .str kName]) = H2 at s2 st2 ⊢
        walk_at "go3"
        refine g_draw (m := 3) rfl (by decide) (by decide) st2 (by omega) fun H3 d hd3 b3 st3 => ?_
        have b03 : But st H H3 := (But.of s2).trans b3
        walk_at "go3"
        refine iteD (fun h0 => ?_) (fun h0 => ?_)
        · walk_at "go3"
          refine ⟨Nat.zero_le _, fun p3 hp3 => ?_⟩
          walk_at "go3"
          refine ⟨st, p3, [], m + 1, 1, rfl, by decide, us0 upd_same, (st3.ne hp3).symm, st3.same (Same.upd hp3), by rw [show dr 1 = 75 from rfl]; omega, fun H5 z b okb _ db _ b5 st5 fb => ?_⟩
          exact q _ z b okb (by omega) ((b03.trans (But.of (Same.upd hp3))).trans b5) (st5.mono (by rw [show dr 1 = 75 from rfl]; omega)) fb
        · have t03 : Tps H H3 := hst.tps b03
          have ep3 := t03 _ _ ep
          have hlen : (V.str k :: ks.map (fun y => y.1)).length = ks.length + 1 := by rw [List.length_cons, List.length_map]
          walk_at "go3"
          refine g_draw (m := ks.length) (by rw [hlen]; omega) (by omega) (by omega) st3 (by omega) fun H4 i hi b4 st4 => ?_
          have b04 := b03.trans b4
          have t04 : Tps H H4 := hst.tps b04
          have ep4 := t04 _ _ ep
          have ei : (1 + (i : Int)) = ((i + 1 : Nat) : Int) := by omega
          obtain ⟨y, hy⟩ : ∃ y, ks[i]? = some y := ⟨_, List.getElem?_eq_getElem hi⟩
          have my := hks y (List.mem_of_getElem? hy)
          have hat : atI (V.str k :: ks.map (fun y => y.1)) ((i + 1 : Nat) : Int) = some y.1 := atI_nat (by rw [List.getElem?_cons_succ, List.getElem?_map, hy]; rfl)
          walk_at "go3"
          rw [ei]
          refine g_ixT (v := y.1) (SqT.of ep4) hat ?_
          walk_at "go3"
          refine ⟨st, y.1, y.2, m + 2, rfl, st4, my.1.tps t04, my.2.1, my.2.2.1, by have := my.2.2.2; omega, by omega, fun H5 z b okb db b5 st5 fb => ?_⟩
          have b05 := b04.trans b5
          have t05 : Tps H H5 := hst.tps b05
          have ep5 := t05 _ _ ep
          walk_at "go3"
          refine ⟨fun σ' H' => ∃ (z2 : V) (g2 : Fm), σ' = [some (.ref st), some (.ref p), some (.int ((i + 1 : Nat) : Int)), some z2] ∧ But st H5 H' ∧ StAt H' st (m + 80 + 2 * (n + 1)) ∧ FmAt H' z2 g2 ∧ g2.ok = true ∧ g2.dep ≤ 2 * y.2.dep + 3 ∧ (k = kLock → i = 1 → g2.isKey = true), ?_, ?_⟩
          · walk_at "go3"
            refine g_ixT (v := .str k) (SqT.of ep5) at0 ?_
            walk_at "go3"
            have hkk : (V.str k = V.str (Str.ofString "lock")) ↔ k = kLock := ⟨fun z => by injection z, fun z => by rw [z]⟩
            by_cases hL : k = kLock
            · rw [decide_eq_true (hkk.mpr hL)]
              walk_at "go3"
              refine iteD (fun h2 => ?_) (fun h2 => ?_)
              · walk_at "go3"
                refine ⟨by show 2 ≤ sizeLine; decide, fun p6 hp6 => ?_⟩
                have s6 : Same H5 (upd H5 p6 (.tup [.str (Str.ofString "open"), z])) := Same.upd hp6
                walk_at "go3"
                refine ⟨.ref p6, .un kOpen b, rfl, But.of s6, (st5.same s6).mono (by omega), .un upd_same (fb.same s6), ?_, by show b.dep + 1 ≤ _; omega, fun _ _ => rfl⟩
                simp only [Fm.ok, okb, Bool.and_true]
                rfl
              · walk_at "go3"
                refine ⟨z, b, rfl, But.refl _, st5.mono (by omega), fb, okb, by omega, fun _ h1 => absurd (by rw [h1]; rfl) h2⟩
            · rw [decide_eq_false (fun z => hL (hkk.mp z))]
              walk_at "go3"
              refine ⟨z, b, rfl, But.refl _, st5.mono (by omega), fb, okb, by omega, fun h1 => absurd h1 hL⟩
          · rintro σ' H6 ⟨z2, g2, rfl, b6, st6, fz, og, dg, hkey⟩
            have b06 := b05.trans b6
            have t06 : Tps H H6 := hst.tps b06
            have ep6 := t06 _ _ ep
            walk_at "go3"
            refine g_slT (SqT.of ep6) (nw_pre _ _ i (by rw [List.length_map]; exact hi)) fun p7 hp7 => ?_
            rw [cut_pre _ _ i (by rw [List.length_map]; omega)]
            have s7 : Same H6 (upd H6 p7 (.tup (.str k :: (ks.map fun y => y.1).take i))) := Same.upd hp7
            have e7 : upd H6 p7 (.tup (.str k :: (ks.map fun y => y.1).take i)) p7 = some (.tup (.str k :: (ks.map fun y => y.1).take i)) := upd_same
            generalize upd H6 p7 (.tup (.str k :: (ks.map fun y => y.1).take i)) = H7 at s7 e7 ⊢
            walk_at "go3"
            refine ⟨by show 1 ≤ sizeLine; decide, fun p8 hp8 => ?_⟩
            have s8 : Same H7 (upd H7 p8 (.tup [z2])) := Same.upd hp8
            have e8 : upd H7 p8 (.tup [z2]) p8 = some (.tup [z2]) := upd_same
            generalize upd H7 p8 (.tup [z2]) = H8 at s8 e8 ⊢
            have hlt : (V.str k :: (ks.map fun y => y.1).take i).length ≤ 3 := by rw [List.length_cons, List.length_take, List.length_map]; omega
            refine g_catT9 (s8 _ _ e7) e8 (by rw [sizeLine_eq]; show _ + 1 ≤ _; omega) fun c9 H9 s9 e9 => ?_
            have s69 := s7.trans (s8.trans s9)
            have e2 : ((i + 1 : Nat) : Int) + 1 = ((i + 2 : Nat) : Int) := by omega
            walk_at "go3"
            rw [e2]
            refine g_slT (SqT.of (s69 _ _ ep6)) (nw_suf _ _ i) fun p10 hp10 => ?_
            rw [cut_suf _ _ i (by rw [List.length_map]; exact hi)]
            have s10 : Same H9 (upd H9 p10 (.tup ((ks.map fun y => y.1).drop (i + 1)))) := Same.upd hp10
            have e10 : upd H9 p10 (.tup ((ks.map fun y => y.1).drop (i + 1))) p10 = some (.tup ((ks.map fun y => y.1).drop (i + 1))) := upd_same
            generalize upd H9 p10 (.tup ((ks.map fun y => y.1).drop (i + 1))) = H10 at s10 e10 ⊢
            walk_at "go3"
            refine g_catT9 (s10 _ _ e9) e10 (by rw [List.length_append, List.length_drop, List.length_map, sizeLine_eq]; show _ + 1 + _ ≤ _; omega) fun c11 H11 s11 e11 => ?_
            have s611 := s69.trans (s10.trans s11)
            have e11b : H11 c11 = some (.tup (.str k :: (ks.map fun y => y.1).set i z2)) := by
              rw [e11, List.set_eq_take_append_cons_drop, if_pos (by rw [List.length_map]; exact hi), List.append_assoc, List.cons_append]
              rfl
            obtain ⟨b', fb', ob', db'⟩ := hset i H11 c11 z2 g2 hi (t06.trans fun b xs h => s611 _ _ h) e11b (fz.same s611) og hkey
            have := my.2.2.2
            walk_at "go3"
            exact q _ _ b' ob' (by omega) (b06.trans (But.of s611)) (st6.same s611) fb'
end
end Op

namespace Op
open PySem PySem.Spec PyProof.Rows L2 SX OpC
local macro_rules | `(tactic| walk_at "go1") => `(tactic| first
  | ((with_reducible refine' g_var ?h ?_); (case h => rfl)) | with_reducible refine' g_c ?_ | with_reducible refine' g_op ?_ | with_reducible refine' g_un ?_ | with_reducible refine' g_if ?_ | with_reducible refine' g_test ?_ | with_reducible refine' g_B ?_ | with_reducible refine' g_bl ?_
  | with_reducible refine' g_not ?_ | with_reducible refine' g_and ?_ | with_reducible refine' g_or ?_ | with_reducible refine' g_andV ?_ | with_reducible refine' g_orV ?_ | with_reducible refine' g_notV ?_ | with_reducible refine' g_nil ?_ | with_reducible refine' g_cons ?_ | with_reducible refine' g_CB ?_ | with_reducible refine' g_ca ?_
  | with_reducible refine' g_seq ?_ | with_reducible refine' g_next ?_ | with_reducible refine' g_asg ?_ | with_reducible refine' g_name ?_ | with_reducible refine' g_ret ?_ | with_reducible refine' g_retN ?_ | with_reducible refine' g_drop ?_ | with_reducible refine' g_ifS ?_ | with_reducible refine' g_sub ?_
  | with_reducible refine' g_I0 ?_ | with_reducible refine' g_U ?_ | ((with_reducible refine' g_eq ?h ?_); (case h => rfl)) | ((with_reducible refine' g_ne ?h ?_); (case h => rfl))
  | ((with_reducible refine' g_lenL ?h ?_); (case h => first | assumption | exact SqL.of (by assumption) | exact SqL.of upd_same)) | ((with_reducible refine' g_lenT ?h ?_); (case h => first | assumption | exact SqT.of (by assumption) | exact SqT.of upd_same))
  | ((with_reducible refine' g_ixL ?h ?ha ?_); (case h => first | assumption | exact SqL.of (by assumption) | exact SqL.of upd_same); (case ha => rfl)) | ((with_reducible refine' g_ixT ?h ?ha ?_); (case h => first | assumption | exact SqT.of (by assumption) | exact SqT.of upd_same); (case ha => rfl))
  | ((with_reducible refine' g_I ?h ?_); (case h => first | decide | omega | (first | refine' ⟨?_, ?_, ?_⟩ | refine' ⟨?_, ?_⟩ | refine' Or.inl ⟨?_, ?_⟩) <;> omega | (refine' Or.inr ⟨?_, ?_⟩ <;> omega)))
  | ((with_reducible refine' g_setL ?h ?ha ?_); (case h => first | assumption | exact upd_same); (case ha => rfl))
  | with_reducible refine' g_lcR ?_
  | with_reducible refine' g_M1 ?_ | with_reducible refine' g_isS ?_ | with_reducible refine' g_tyS ?_ | ((with_reducible refine' g_tyL ?h ?_); (case h => first | assumption | exact upd_same))
  | ((with_reducible refine' g_cat ?h ?h2 ?hl ?_); (case h => first | assumption | exact upd_same); (case h2 => first | assumption | exact upd_same); (case hl => first | decide | (simp; omega)))
  | with_reducible refine' g_lcS ?_
  | with_reducible refine' g_starts ?_ | with_reducible refine' g_chain ?_
  | ((with_reducible refine' g_lenS ?h ?_); (case h => first | exact len_le (by assumption) | exact len_le (by omega))) | ((with_reducible refine' g_rstrip ?h ?_); (case h => first | exact len_le (by assumption) | exact len_le (by omega))) | ((with_reducible refine' g_slX ?h ?_); (case h => first | exact len_le (by assumption) | exact len_le (by omega)))
  | with_reducible refine' g_sl ?_ | with_reducible refine' g_nopart ?_ | with_reducible refine' g_part ?_ | with_reducible refine' g_isI ?_
  | with_reducible refine' g_tru ?_
  | with_reducible refine' iteT ?_ | with_reducible refine' iteF ?_ | with_reducible refine' iteNT ?_ | with_reducible refine' iteNF ?_
  | with_reducible refine' g_int ?_ | with_reducible refine' g_insg ?_ | with_reducible refine' g_ninsg ?_ | with_reducible refine' g_isN ?_ | with_reducible refine' g_notN ?_ | with_reducible refine' g_lst ?_ | with_reducible refine' g_tup ?_ | with_reducible refine' g_BM ?_ | with_reducible refine' g_BM0 ?_)
local macro_rules | `(tactic| walk_at "go") => `(tactic| repeat' walk_at "go1")
local macro_rules | `(tactic| walk_at "go2") => `(tactic| repeat' (first | walk_at "go1" | with_reducible refine' g_cm ?_ | with_reducible refine' g_mk ?_ | with_reducible refine' g_for ?_ | ((with_reducible refine' g_rcm ?h ?ha ?_); (case h => first | assumption | exact upd_same); (case ha => first | rfl | decide | simp [List.lookup]))))
/- macro2 -/
local macro_rules | `(tactic| walk_at "go3a") => `(tactic| first
  | walk_at "go1" | with_reducible refine' g_cm ?_ | with_reducible refine' g_mk ?_ | with_reducible refine' g_for ?_ | with_reducible refine' g_fld ?_ | with_reducible refine' g_lcT0 ?_
  | ((with_reducible refine' g_rcm ?h ?ha ?_); (case h => first | assumption | exact upd_same); (case ha => first | rfl | decide | simp [List.lookup]))
  | ((with_reducible refine' g_shape ?hc ?hn ?h ?_); (case hc => assumption); (case hn => assumption); (case h => first | assumption | exact upd_same | (rw [upd_ne (by assumption)]; assumption))))
local macro_rules | `(tactic| walk_at "go3") => `(tactic| repeat' walk_at "go3a")
local macro_rules | `(tactic| walk_at "go4") => `(tactic| repeat' (first
  | walk_at "go3a" | ((with_reducible refine' iteDT ?h ?_); (case h => first | rfl | decide +kernel)) | ((with_reducible refine' iteDF ?h ?_); (case h => decide +kernel))))
local macro_rules | `(tactic| walk_at "go5") => `(tactic| repeat' (first | walk_at "go3a" | with_reducible refine' g_par ?_ | with_reducible refine' g_dget ?_ | with_reducible refine' g_dput ?_ | with_reducible refine' g_dnin ?_))
theorem fill_plain {xs : List (List Nat)} {φ : List Nat → Option Fm} (h : ∀ t ∈ xs, ∃ g, φ t = some g ∧ g.uin [] = true) : ∀ a : Fm, a.uin xs = true → (a.fill φ).uin [] = true
  | .atm k t, pl => by
    show (if k = kUnk then (φ t).getD (.atm k t) else .atm k t).uin [] = true
    by_cases e : k = kUnk
    · rw [if_pos e]
      have pl2 : (!(k == kUnk) || decide (t ∈ xs)) = true := pl
      rw [e] at pl2
      have ht : t ∈ xs := by simpa using pl2
      obtain ⟨g, h1, h2⟩ := h t ht
      rw [h1]
      exact h2
    · rw [if_neg e]
      exact uin_atm fun z => absurd z e
  | .un k a, pl => fill_plain h a pl
  | .bi k a b, pl => by
    have pl2 : (a.uin xs && b.uin xs) = true := pl
    rw [Bool.and_eq_true] at pl2
    exact uin_bi (fill_plain h a pl2.1) (fill_plain h b pl2.2)
theorem look_base {es : List Ent} (hu : es.map (·.1) = base3) (E : ∀ e ∈ es, e.2.1.ok = true ∧ e.2.1.uin [] = true ∧ e.2.1.dep ≤ 4 ∧ e.2.1.size ≤ 10) : ∀ t ∈ base3, ∃ g, look es t = some g ∧ g.uin [] = true := fun t ht => by
  have h := mem_look.mp (hu ▸ ht : t ∈ es.map (·.1))
  cases hl : look es t with
  | none => rw [hl] at h; cases h
  | some g =>
    obtain ⟨e, he, _, rfl⟩ := look_mem hl
    exact ⟨_, rfl, (E e he).2.1⟩
theorem best_of {p f : Fm} {φ : List Nat → Option Fm} (h : Stp (look []) φ [(p, f)]) : Best p f φ [] := fun ψ => by
  have h1 := h ψ
  refine ⟨fun m => ⟨h1.mp ⟨fun t g e => (nomatch e), fun x hx => ?_⟩, fun x hx => (nomatch hx)⟩, fun m => (h1.mpr m.1).2 (p, f) List.mem_cons_self⟩
  rw [List.mem_singleton.mp hx]
  exact m
theorem never_of {p f : Fm} (h : ∀ ψ, Ext ψ (look []) → ¬ Mt ψ p f) : Never p f := fun ψ => h ψ fun t g e => nomatch e
def spLaw (K : PySem.W.Frag) : Sp := fun vs H Q _ => ∃ (a : Addr) (ns : List Int), vs = [.ref a] ∧ SqL K H a (ns.map V.int) ∧ ns.length ≤ 63 ∧ ∀ H', Q (.bl true) H'
section
variable {P : Program} {w : World} {K : PySem.W.Frag} {mg : Str → Option Value} {base : Heap} {CL CE CX : Addr}
theorem fn_law (T : Bl K mg) (L : Lt K mg CL) {fa : Addr} {fd : FuncData} (F : Fun K "law" "law" s_law fa fd) (c_law_stream : Ca P w K mg base 1 "_law_stream" (spStream K)) (c_law_draw : Ca P w K mg base 1 "_law_draw" spDraw) (c_law_form : Ca P w K mg base 9 "_law_form" (spForm1P 5))
    (c_law_filled : Ca P w K mg base 9 "_law_filled" (spLFilled 8)) (c_law_plain_forms : Ca P w K mg base 10 "_law_plain_forms" spPlain) (c_law_bent : Ca P w K mg base 18 "_law_bent" (spBent 12)) (c_law_matched : Ca P w K mg base 9 "_law_matched" (spMd 8))
    (c_law_letter : Ca P w K mg base 31 "_law_letter" (spLet CL 24)) (c_match : Ca P w K mg base 7 "match" (spMatch CL)) (m_form : Cm P w K mg base 1 CL "form" (spForm CL)) : FnOk P w K mg base (L2.CX P w) 33 fa fd ["_law_script"] (spLaw K) := by
  refine fnX F sc_law (fun vs H Q E h => ?_) (BodyN.x fun f cdv A outer s H vs Q E hr h => ?_)
  · obtain ⟨a, ns, rfl, _⟩ := h
    rfl
  · obtain ⟨a, ns, rfl, hS, hl, q⟩ := h
    have lcl := L.cl
    have lno := L.no
    refine ⟨_, (pss_cons (ps_for PassesOwn.never rfl (pi_range1 rfl T.b_range (pa_cons pe_int pa_nil)) (pg_name (i := 1) sc_law.nd rfl (Or.inl rfl))
  (pss_cons (ps_set (i := 2) sc_law.nd rfl (Or.inl rfl) (pe_ca c_law_stream hr (by decide) (by rfl) (pa_cons (pv 0) (pa_cons (pv 1) pa_nil))))
  (pss_cons (ps_set (i := 3) sc_law.nd rfl (Or.inl rfl) (pe_ca c_law_form hr (by decide) (by rfl) (pa_cons (pv 2) (pa_cons (pe_lst (pa_cons pe_str (pa_cons pe_str (pa_cons pe_str pa_nil)))) (pa_cons pe_int pa_nil)))))
  (pss_cons (ps_set (i := 4) sc_law.nd rfl (Or.inl rfl) (pe_ca c_law_filled hr (by decide) (by rfl) (pa_cons (pv 3) (pa_cons (pe_ca c_law_plain_forms hr (by decide) (by rfl) (pa_cons (pv 2) (pa_cons (pe_lst (pa_cons pe_str (pa_cons pe_str (pa_cons pe_str pa_nil)))) (pa_cons pe_int pa_nil)))) pa_nil))))
  (pss_cons (ps_set (i := 5) sc_law.nd rfl (Or.inl rfl) (pe_ca c_law_draw hr (by decide) (by rfl) (pa_cons (pv 2) (pa_cons pe_int pa_nil))))
  (C8.pss_cut (ps_if (pt_cmpR op_eq (pv 5) pe_int (nomark _))
  (pss_one (ps_set (i := 4) sc_law.nd rfl (Or.inl rfl) (pe_ca c_law_bent hr (by decide) (by rfl) (pa_cons (pv 2) (pa_cons (pv 4) pa_nil)))))
  pss_nil)
  (C8.pss_cut (ps_if (pt_cmpR op_eq (pv 5) pe_int (nomark _))
  (pss_one (ps_set (i := 4) sc_law.nd rfl (Or.inl rfl) (pe_ca c_law_form hr (by decide) (by rfl) (pa_cons (pv 2) (pa_cons (pe_lst pa_nil) (pa_cons pe_int pa_nil))))))
  pss_nil)
  (pss_cons (ps_set (i := 6) sc_law.nd rfl (Or.inl rfl) pe_dnewK)
  (C8.pss_cut (ps_set (i := 7) sc_law.nd rfl (Or.inl rfl) (pe_ifExp (pt_val (pe_ca c_law_matched hr (by decide) (by rfl) (pa_cons (pv 3) (pa_cons (pv 4) (pa_cons (pv 6) pa_nil))))) (pv 6) pe_non))
  (pss_one (ps_for PassesOwn.never rfl (pi_range1 rfl T.b_range (pa_cons pe_int pa_nil)) (pg_name (i := 8) sc_law.nd rfl (Or.inl rfl))
  (pss_cons (ps_set (i := 9) sc_law.nd rfl (Or.inr rfl) (pe_ca c_match hr (by decide) (by rfl) (pa_cons (pe_ca c_law_letter hr (by decide) (by rfl) (pa_cons (pv 3) pa_nil)) (pa_cons (pe_ca c_law_letter hr (by decide) (by rfl) (pa_cons (pv 4) pa_nil)) pa_nil))))
  (pss_one (ps_if (PW.pt (pw_or (pt_cmpR oq_isN (pv 9) pe_non (nomark _)) (pw_or1 (pt_cmpR oq_isN (pv 7) pe_non (nomark _)))))
  (pss_one (ps_if (PW.pt (pw_or (pt_cmpR oq_notN (pv 9) pe_non (nomark _)) (pw_or1 (pt_cmpR oq_notN (pv 7) pe_non (nomark _)))))
  (pss_one (ps_ret pe_bl))
  pss_nil))
  (pss_one (ps_if (pt_cmpR (op_neF hr.units) (pe_callTy (call_dictP rfl) (by rfl) T.b_dict (by decide +kernel) (pa_cons (pe_lock (pe_lc (own := [("_law_name_here", 10)]) (g := gName 10) (tt := tYes) rfl sc_law.nd (pi_keys (pv 9)) (blkOk_by (own := [("_law_name_here", 10)]) (N := N_law) (sc := defScope s_law) (by decide +kernel)) (fun _ _ _ _ _ => pg_name (i := 10) sc_law.nd rfl (Or.inl rfl)) (fun _ _ _ _ _ => pts_nil) (fun _ _ _ _ _ => (pe_tup (pa_cons (pv 10) (pa_cons (pe_cm0 m_form L.cl hr (by decide) (pe_dget (hu_of hr) (pv 9) (pv 10) (fun _ _ => rfl))) pa_nil)))))) pa_nil)) (pv 7) (nomark _))
  (pss_one (ps_ret pe_bl))
  (pss_one (ps_dput (hu_of hr) (pv 9) pe_str (pe_ca c_law_letter hr (by decide) (by rfl) (pa_cons (pv 4) pa_nil)) rfl))))))))))))))))))
  (pss_one (ps_ret pe_bl))), ?_⟩
    walk_at "go5"
    refine r_for (fun i σ' H' => ∃ w1 w2 w3 w4 w5 w6 w7 w8 w9 w10, σ' = [some (.ref a), w1, w2, w3, w4, w5, w6, w7, w8, w9, w10] ∧ Same H H') (by decide) ⟨_, _, _, _, _, _, _, _, _, _, rfl, Same.refl _⟩ (fun i σ' H0 hi p => ?_) (fun σ' H0 p => ?_)
    · obtain ⟨w1, w2, w3, w4, w5, w6, w7, w8, w9, w10, rfl, sH⟩ := p
      have hi4 : i < 4 := hi
      walk_at "go5"
      refine ⟨a, ns, i, rfl, SqL.sm hS sH, by omega, fun H1 st hst s1 st1 => ?_⟩
      have nst : H st = none := Same.non sH hst
      walk_at "go5"
      refine ⟨by show 3 ≤ sizeLine; decide, fun p2 hp2 => ?_⟩
      walk_at "go5"
      refine ⟨st, p2, base3, 0, 3, rfl, by decide, us_xyz upd_same, (st1.ne hp2).symm, st1.same (Same.upd hp2), by decide, fun H2 uf f okf pf df zf b2 st2 ff => ?_⟩
      have sH2 : Same H H2 := Same.but (sH.trans (s1.trans (Same.upd hp2))) nst b2
      have zf' : f.size ≤ 22 := Nat.le_trans zf (by decide)
      clear b2 st1 s1 hst hp2
      walk_at "go5"
      refine ⟨by show 3 ≤ sizeLine; decide, fun p3 hp3 => ?_⟩
      walk_at "go5"
      refine ⟨st, p3, 0 + dr 3, rfl, us_xyz upd_same, (st2.ne hp3).symm, st2.same (Same.upd hp3), by decide, fun H3 d1 es1 b3 st3 hd1 F1 hu E1 => ?_⟩
      have b23 : But st H2 H3 := (But.of (Same.upd hp3)).trans b3
      have sH3 := Same.but sH2 nst b23
      have ff3 := ff.tps (st2.tps b23)
      clear b3 b23 st2 hd1 hp3 ff sH2
      walk_at "go5"
      refine ⟨uf, d1, f, es1, rfl, ff3, okf, by omega, F1, fun H4 ug s4 fg => ?_⟩
      have B1 : ∀ e ∈ es1, Bnd 4 10 e.2.1 := fun e he => ⟨(E1 e he).1, (E1 e he).2.2⟩
      obtain ⟨og, dg, zg⟩ := fill_bnd (φ := look es1) (by decide) (look_bnd B1) f okf
      have pg : (f.fill (look es1)).uin [] = true := fill_plain (look_base hu E1) f pf
      generalize f.fill (look es1) = g at fg og dg zg pg
      have st4 := st3.same s4
      have sH4 := sH3.trans s4
      have ff4 := ff3.same s4
      clear st3 sH3 ff3 s4 F1 B1 E1 zg hu
      walk_at "go5"
      refine g_draw (m := 4) rfl (by decide) (by decide) st4 (by decide) fun H5 way hway b5 st5 => ?_
      have sH5 := Same.but sH4 nst b5
      have ff5 := ff4.tps (st4.tps b5)
      have fg5 := fg.tps (st4.tps b5)
      clear sH4 ff4 fg st4 b5
      walk_at "go5"
      refine ⟨fun σ' H' => ∃ u2 g2 n2, σ' = [some (.ref a), some (.int (i : Int)), some (.ref st), some uf, some u2, some (.int (way : Int)), w6, w7, w8, w9, w10] ∧ But st H5 H' ∧ StAt H' st n2 ∧ n2 ≤ 5000 ∧ FmAt H' u2 g2 ∧ g2.ok = true ∧ g2.dep ≤ 22, ?_, ?_⟩
      · walk_at "go5"
        refine iteD (fun h1 => ?_) (fun h1 => ?_)
        · walk_at "go5"
          refine ⟨st, ug, g, _, rfl, st5, fg5, og, pg, by omega, by decide, fun H6 u2 g2 o2 d2 b6 st6 f6 => ?_⟩
          walk_at "go5"
          exact ⟨u2, g2, _, rfl, b6, st6, by decide, f6, o2, by omega⟩
        · walk_at "go5"
          exact ⟨ug, g, _, rfl, But.refl _, st5, by decide, fg5, og, by omega⟩
      · rintro σ' H6 ⟨u2, g2, n2, rfl, b6, st6, hn2, f6, o2, d2⟩
        have sH6 := Same.but sH5 nst b6
        have ff6 := ff5.tps (st5.tps b6)
        clear sH5 ff5 st5 b6 fg5 pg og dg
        walk_at "go5"
        refine ⟨fun σ' H' => ∃ u3 g3, σ' = [some (.ref a), some (.int (i : Int)), some (.ref st), some uf, some u3, some (.int (way : Int)), w6, w7, w8, w9, w10] ∧ But st H6 H' ∧ FmAt H' u3 g3 ∧ g3.ok = true ∧ g3.dep ≤ 22, ?_, ?_⟩
        · walk_at "go5"
          refine iteD (fun h1 => ?_) (fun h1 => ?_)
          · walk_at "go5"
            refine ⟨Nat.zero_le _, fun p7 hp7 => ?_⟩
            walk_at "go5"
            refine ⟨st, p7, [], n2, 3, rfl, by decide, us0 upd_same, (st6.ne hp7).symm, st6.same (Same.upd hp7), by rw [show dr 3 = 375 from rfl]; omega, fun H7 u3 g3 o3 _ d3 _ b7 st7 f7 => ?_⟩
            walk_at "go5"
            exact ⟨u3, g3, rfl, (But.of (Same.upd hp7)).trans b7, f7, o3, by omega⟩
          · walk_at "go5"
            exact ⟨u2, g2, rfl, But.refl _, f6, o2, d2⟩
        · rintro σ' H7 ⟨u3, g3, rfl, b7, f7, o3, d3⟩
          have sH7 := Same.but sH6 nst b7
          have ff7 := ff6.tps (st6.tps b7)
          clear sH6 ff6 st6 b7 f6 o2 d2 hn2
          walk_at "go5"
          refine fun pd hpd => ?_
          have s8 : Same H7 (upd H7 pd (.dK [])) := Same.upd hpd
          have e8 : upd H7 pd (.dK []) pd = some (.dK []) := upd_same
          have npd : H pd = none := Same.non sH7 hpd
          generalize upd H7 pd (.dK []) = H8 at s8 e8 ⊢
          have sH8 := sH7.trans s8
          have ff8 := ff7.same s8
          have f8 := f7.same s8
          clear s8 sH7 ff7 f7 hpd
          walk_at "go5"
          refine ⟨fun σ' H' => ∃ x7 esd, σ' = [some (.ref a), some (.int (i : Int)), some (.ref st), some uf, some u3, some (.int (way : Int)), some (.ref pd), some x7, w8, w9, w10] ∧ But pd H8 H' ∧ FrmAt H' pd esd ∧ ((x7 = .ref pd ∧ Best f g3 (look esd) [] ∧ ∀ e ∈ esd, e.2.1.ok = true ∧ e.2.1.dep ≤ 60) ∨ (x7 = .non ∧ Never f g3)), ?_, ?_⟩
          · walk_at "go5"
            refine ⟨uf, u3, pd, f, g3, [], rfl, ff8, f8, okf, o3, by omega, by omega, by omega, ⟨e8, fun e he => (nomatch he), List.nodup_nil, by decide⟩, fun e he => (nomatch he), by show 0 + f.size ≤ 900; omega, fun H9 es' b9 F9 _ E9 S9 => ?_, fun H9 es' b9 F9 hn => ?_⟩
            · walk_at "go5"
              exact ⟨_, es', rfl, b9, F9, .inl ⟨rfl, best_of S9, E9⟩⟩
            · walk_at "go5"
              exact ⟨_, es', rfl, b9, F9, .inr ⟨rfl, never_of hn⟩⟩
          · rintro σ' H9 ⟨x7, esd, rfl, b9, F9, hx⟩
            have sH9 := Same.but sH8 npd b9
            have ff9 := ff8.tps (tpsD e8 b9)
            have f9 := f8.tps (tpsD e8 b9)
            clear sH8 ff8 f8 e8 b9
            walk_at "go5"
            refine r_for (fun j σ' H' => ∃ w8 w9 w10, σ' = [some (.ref a), some (.int (i : Int)), some (.ref st), some uf, some u3, some (.int (way : Int)), some (.ref pd), some x7, w8, w9, w10] ∧ Same H9 H') (by decide) ⟨_, _, _, rfl, Same.refl _⟩ (fun j σ' H10 hj p => ?_) (fun σ' H10 p => ?_)
            · obtain ⟨w8, w9, w10, rfl, s10⟩ := p
              walk_at "go5"
              refine ⟨uf, f, rfl, ff9.same s10, okf, by omega, fun H11 x s11 lx => ?_⟩
              walk_at "go5"
              refine ⟨u3, g3, rfl, (f9.same s10).same s11, o3, by omega, fun H12 y s12 ly => ?_⟩
              walk_at "go5"
              have s912 := (s10.trans s11).trans s12
              refine ⟨x, y, f, g3, rfl, lx.same s12, ly, okf, o3, by omega, by omega, by omega, fun H13 s13 hnev => ?_, fun H13 pq lq s13 hpq G hB E => ?_⟩
              · rcases hx with ⟨rfl, hB, _⟩ | ⟨rfl, _⟩
                · exact absurd hnev hB.yes
                · walk_at "go5"
                  refine iteDT rfl ?_
                  walk_at "go5"
                  refine iteND (fun h => absurd rfl h) (fun _ => ?_)
                  walk_at "go5"
                  refine iteND (fun h => absurd rfl h) (fun _ => ?_)
                  walk_at "go5"
                  exact ⟨_, _, _, rfl, s912.trans s13⟩
              · rcases hx with ⟨rfl, hB2, E2⟩ | ⟨rfl, hnev⟩
                · have s913 := s912.trans s13
                  have n9 : H9 pq = none := Same.non s912 hpq
                  have F13 := F9.same s913
                  have f13 := f9.same s913
                  have hBB : look esd = look lq := Best.one hB2 hB
                  clear s10 s11 s12 s13 s912 lx ly hpq F9 ff9 f9
                  walk_at "go5"
                  refine iteDF (fun z => nomatch z) ?_
                  walk_at "go5"
                  refine iteDF (fun z => nomatch z) ?_
                  walk_at "go5"
                  refine g_lockE G.1 fun od => ?_
                  have e1 : upd H13 pq (.frz od (.dK (lq.map kvE))) pq = some (.frz od (.dK (lq.map kvE))) := upd_same
                  have un : ∀ H', Same (upd H13 pq (.frz od (.dK (lq.map kvE)))) H' → Same H13 (upd H' pq (.dK (lq.map kvE))) := fun H' s => lock_same G.1 s
                  have hL1 : ∀ e ∈ lq, LetAt CL (upd H13 pq (.frz od (.dK (lq.map kvE)))) e.2.2 e.2.1 := fun e he => (G.2.1 e he).upd (fun C dx fs z => by rw [G.1] at z; cases z) (Tps.lock G.1)
                  generalize upd H13 pq (.frz od (.dK (lq.map kvE))) = H14 at e1 un hL1 ⊢
                  refine lc_pairs (R := FmAt) (F := id) (fun H H' x g s l => l.same s) (fun H D acc u x g h l => l.tps (Tps.lst h)) (fun R r => g_var rfl r) e1 G.2.2.2 (fun _ => rfl) (fun e H2 k he s2 kk => ?_) (fun D H2 ps ws hD s2 eD hP hpr hR => ?_)
                  · walk_at "go5"
                    refine ⟨pq, e.2.2, rfl, dget_rd (.inr ⟨od, s2 _ _ e1⟩) G.2.2.1 he, ?_⟩
                    refine let_form9 ((hL1 e he).same s2) fun u5 f5 => ?_
                    walk_at "go5"
                    refine ⟨by show 2 ≤ sizeLine; decide, fun p hp => ?_⟩
                    exact kk _ p u5 (Same.upd hp) upd_same (f5.same (Same.upd hp))
                  · have hid : ws.map pr = lq.map pr := hpr
                    refine ⟨s2 _ _ e1, ?_⟩
                    walk_at "go5"
                    have t3 : Tps H2 (upd H2 pq (.dK (lq.map kvE))) := Tps.frz (s2 _ _ e1)
                    have nDd : D ≠ pq := fun z => by rw [z, e1] at hD; cases hD
                    have ndw : (ws.map (·.1)).Nodup := by
                      rw [fst_pr, hid, ← fst_pr]
                      exact G.2.2.1
                    refine ⟨D, ps, ws.map kvE, rfl, SqL.of (by rw [upd_ne nDd]; exact eD), (hP.tps t3).pair, fun p hp => ?_⟩
                    rw [show mergeK [] (ws.map kvE) = ws.map kvE from merge_snoc ws [] ndw]
                    have s3 := un H2 s2
                    have hR3 : ∀ w ∈ ws, FmAt (upd H2 pq (.dK (lq.map kvE))) w.2.2 w.2.1 := fun w hw => (hR w hw).tps t3
                    have e3 : upd H2 pq (.dK (lq.map kvE)) pq = some (.dK (lq.map kvE)) := upd_same
                    generalize upd H2 pq (.dK (lq.map kvE)) = H3 at s3 hR3 hp e3 ⊢
                    have hlw : ws.length = lq.length := by
                      have := congrArg List.length hid
                      rw [List.length_map, List.length_map] at this
                      exact this
                    have sp : Same H3 (upd H3 p (.dK (ws.map kvE))) := Same.upd hp
                    have FW : FrmAt (upd H3 p (.dK (ws.map kvE))) p ws := ⟨upd_same, fun w hw => (hR3 w hw).same sp, ndw, by rw [hlw]; exact G.2.2.2⟩
                    have e5 := sp _ _ e3
                    have s5 := s3.trans sp
                    generalize upd H3 p (.dK (ws.map kvE)) = H5 at FW e5 s5 ⊢
                    walk_at "go5"
                    refine ne_forms FW (F13.same s5) (fun t => by rw [look_of hid, hBB]) (fun w hw => ?_) ?_
                    · have hm : pr w ∈ lq.map pr := hid ▸ List.mem_map_of_mem hw
                      obtain ⟨y, hy, hyw⟩ := List.mem_map.mp hm
                      have h21 : y.2.1 = w.2.1 := congrArg Prod.snd hyw
                      rw [← h21]
                      exact E y hy
                    walk_at "go5"
                    refine ⟨u3, g3, rfl, f13.same s5, o3, by omega, fun H6 x6 s6 lx6 => ?_⟩
                    walk_at "go5"
                    refine ⟨pq, _, rfl, DPut.k (k := .inr (Str.ofString "more")) (s6 _ _ e5) (by rw [List.length_map, sizeLine_eq]; have := G.2.2.2; omega), ?_⟩
                    walk_at "go5"
                    exact ⟨_, _, _, rfl, Same.mut ((s913.trans s5).trans s6) n9⟩
                · exact absurd hnev hB.yes
            · obtain ⟨w8, w9, w10, rfl, s10⟩ := p
              walk_at "go5"
              exact ⟨_, _, _, _, _, _, _, _, _, _, rfl, sH9.trans s10⟩
    · obtain ⟨w1, w2, w3, w4, w5, w6, w7, w8, w9, w10, rfl, sH⟩ := p
      walk_at "go5"
      exact q _
end
end Op

namespace Op
open PySem PySem.Spec PyProof.Rows L2 SX
theorem all_mk {l : PySem.W.OpenLaw} {w : World} {K : PySem.W.Frag} {h : Heap} {mg : Str → Option Value} {fa : Addr} (X : K.In h) (G : h.Ns mainGlobals mg) (hfa : mg "law" = some (.ref fa))
    {f_law_stream : Addr} {od_law_stream : Option Addr} {an_law_stream : Option Addr} {sl_law_stream : Array (Option Value)} {oc_law_stream : Value} {kV_law_stream : Value} {dc_law_stream : Value} {pm_law_stream : Value} {cd_law_stream : Value} {ct_law_stream : Value} {f_law_draw : Addr} {od_law_draw : Option Addr} {an_law_draw : Option Addr} {sl_law_draw : Array (Option Value)} {oc_law_draw : Value} {kV_law_draw : Value} {dc_law_draw : Value} {pm_law_draw : Value} {cd_law_draw : Value} {ct_law_draw : Value} {f_law_pick : Addr} {od_law_pick : Option Addr} {an_law_pick : Option Addr} {sl_law_pick : Array (Option Value)} {oc_law_pick : Value} {kV_law_pick : Value} {dc_law_pick : Value} {pm_law_pick : Value} {cd_law_pick : Value} {ct_law_pick : Value} {f_law_word : Addr} {od_law_word : Option Addr} {an_law_word : Option Addr} {sl_law_word : Array (Option Value)} {oc_law_word : Value} {kV_law_word : Value} {dc_law_word : Value} {pm_law_word : Value} {cd_law_word : Value} {ct_law_word : Value} {f_law_name : Addr} {od_law_name : Option Addr} {an_law_name : Option Addr} {sl_law_name : Array (Option Value)} {oc_law_name : Value} {kV_law_name : Value} {dc_law_name : Value} {pm_law_name : Value} {cd_law_name : Value} {ct_law_name : Value} {f_made_of : Addr} {od_made_of : Option Addr} {an_made_of : Option Addr} {sl_made_of : Array (Option Value)} {oc_made_of : Value} {kV_made_of : Value} {dc_made_of : Value} {pm_made_of : Value} {cd_made_of : Value} {ct_made_of : Value} {f_is_word : Addr} {od_is_word : Option Addr} {an_is_word : Option Addr} {sl_is_word : Array (Option Value)} {oc_is_word : Value} {kV_is_word : Value} {dc_is_word : Value} {pm_is_word : Value} {cd_is_word : Value} {ct_is_word : Value} {f_is_name : Addr} {od_is_name : Option Addr} {an_is_name : Option Addr} {sl_is_name : Array (Option Value)} {oc_is_name : Value} {kV_is_name : Value} {dc_is_name : Value} {pm_is_name : Value} {cd_is_name : Value} {ct_is_name : Value} {f_is_unknown : Addr} {od_is_unknown : Option Addr} {an_is_unknown : Option Addr} {sl_is_unknown : Array (Option Value)} {oc_is_unknown : Value} {kV_is_unknown : Value} {dc_is_unknown : Value} {pm_is_unknown : Value} {cd_is_unknown : Value} {ct_is_unknown : Value} {f_atom_form : Addr} {od_atom_form : Option Addr} {an_atom_form : Option Addr} {sl_atom_form : Array (Option Value)} {oc_atom_form : Value} {kV_atom_form : Value} {dc_atom_form : Value} {pm_atom_form : Value} {cd_atom_form : Value} {ct_atom_form : Value} {f_atom_text : Addr} {od_atom_text : Option Addr} {an_atom_text : Option Addr} {sl_atom_text : Array (Option Value)} {oc_atom_text : Value} {kV_atom_text : Value} {dc_atom_text : Value} {pm_atom_text : Value} {cd_atom_text : Value} {ct_atom_text : Value} {f_form_text : Addr} {od_form_text : Option Addr} {an_form_text : Option Addr} {sl_form_text : Array (Option Value)} {oc_form_text : Value} {kV_form_text : Value} {dc_form_text : Value} {pm_form_text : Value} {cd_form_text : Value} {ct_form_text : Value} {f_law_atom : Addr} {od_law_atom : Option Addr} {an_law_atom : Option Addr} {sl_law_atom : Array (Option Value)} {oc_law_atom : Value} {kV_law_atom : Value} {dc_law_atom : Value} {pm_law_atom : Value} {cd_law_atom : Value} {ct_law_atom : Value} {f_law_form : Addr} {od_law_form : Option Addr} {an_law_form : Option Addr} {sl_law_form : Array (Option Value)} {oc_law_form : Value} {kV_law_form : Value} {dc_law_form : Value} {pm_law_form : Value} {cd_law_form : Value} {ct_law_form : Value} {f_law_letter : Addr} {od_law_letter : Option Addr} {an_law_letter : Option Addr} {sl_law_letter : Array (Option Value)} {oc_law_letter : Value} {kV_law_letter : Value} {dc_law_letter : Value} {pm_law_letter : Value} {cd_law_letter : Value} {ct_law_letter : Value} {f_forms_in : Addr} {od_forms_in : Option Addr} {an_forms_in : Option Addr} {sl_forms_in : Array (Option Value)} {oc_forms_in : Value} {kV_forms_in : Value} {dc_forms_in : Value} {pm_forms_in : Value} {cd_forms_in : Value} {ct_forms_in : Value} {f_law_filled : Addr} {od_law_filled : Option Addr} {an_law_filled : Option Addr} {sl_law_filled : Array (Option Value)} {oc_law_filled : Value} {kV_law_filled : Value} {dc_law_filled : Value} {pm_law_filled : Value} {cd_law_filled : Value} {ct_law_filled : Value} {f_lettered : Addr} {od_lettered : Option Addr} {an_lettered : Option Addr} {sl_lettered : Array (Option Value)} {oc_lettered : Value} {kV_lettered : Value} {dc_lettered : Value} {pm_lettered : Value} {cd_lettered : Value} {ct_lettered : Value} {f_match : Addr} {od_match : Option Addr} {an_match : Option Addr} {sl_match : Array (Option Value)} {oc_match : Value} {kV_match : Value} {dc_match : Value} {pm_match : Value} {cd_match : Value} {ct_match : Value} {f_law_plain_forms : Addr} {od_law_plain_forms : Option Addr} {an_law_plain_forms : Option Addr} {sl_law_plain_forms : Array (Option Value)} {oc_law_plain_forms : Value} {kV_law_plain_forms : Value} {dc_law_plain_forms : Value} {pm_law_plain_forms : Value} {cd_law_plain_forms : Value} {ct_law_plain_forms : Value} {f_law_matched : Addr} {od_law_matched : Option Addr} {an_law_matched : Option Addr} {sl_law_matched : Array (Option Value)} {oc_law_matched : Value} {kV_law_matched : Value} {dc_law_matched : Value} {pm_law_matched : Value} {cd_law_matched : Value} {ct_law_matched : Value} {f_law_bent : Addr} {od_law_bent : Option Addr} {an_law_bent : Option Addr} {sl_law_bent : Array (Option Value)} {oc_law_bent : Value} {kV_law_bent : Value} {dc_law_bent : Value} {pm_law_bent : Value} {cd_law_bent : Value} {ct_law_bent : Value} {f_law : Addr} {od_law : Option Addr} {an_law : Option Addr} {sl_law : Array (Option Value)} {oc_law : Value} {kV_law : Value} {dc_law : Value} {pm_law : Value} {cd_law : Value} {ct_law : Value} {CL : Addr} {f_LI : Addr} {od_LI : Option Addr} {an_LI : Option Addr} {sl_LI : Array (Option Value)} {oc_LI : Value} {kV_LI : Value} {dc_LI : Value} {pm_LI : Value} {cd_LI : Value} {ct_LI : Value} {f_Letter_form : Addr} {od_Letter_form : Option Addr} {an_Letter_form : Option Addr} {sl_Letter_form : Array (Option Value)} {oc_Letter_form : Value} {kV_Letter_form : Value} {dc_Letter_form : Value} {pm_Letter_form : Value} {cd_Letter_form : Value} {ct_Letter_form : Value} {f_Letter_written : Addr} {od_Letter_written : Option Addr} {an_Letter_written : Option Addr} {sl_Letter_written : Array (Option Value)} {oc_Letter_written : Value} {kV_Letter_written : Value} {dc_Letter_written : Value} {pm_Letter_written : Value} {cd_Letter_written : Value} {ct_Letter_written : Value} {f_Letter___add__ : Addr} {od_Letter___add__ : Option Addr} {an_Letter___add__ : Option Addr} {sl_Letter___add__ : Array (Option Value)} {oc_Letter___add__ : Value} {kV_Letter___add__ : Value} {dc_Letter___add__ : Value} {pm_Letter___add__ : Value} {cd_Letter___add__ : Value} {ct_Letter___add__ : Value} {f_Letter___mul__ : Addr} {od_Letter___mul__ : Option Addr} {an_Letter___mul__ : Option Addr} {sl_Letter___mul__ : Array (Option Value)} {oc_Letter___mul__ : Value} {kV_Letter___mul__ : Value} {dc_Letter___mul__ : Value} {pm_Letter___mul__ : Value} {cd_Letter___mul__ : Value} {ct_Letter___mul__ : Value} {f_Letter___xor__ : Addr} {od_Letter___xor__ : Option Addr} {an_Letter___xor__ : Option Addr} {sl_Letter___xor__ : Array (Option Value)} {oc_Letter___xor__ : Value} {kV_Letter___xor__ : Value} {dc_Letter___xor__ : Value} {pm_Letter___xor__ : Value} {cd_Letter___xor__ : Value} {ct_Letter___xor__ : Value} {f_Letter___invert__ : Addr} {od_Letter___invert__ : Option Addr} {an_Letter___invert__ : Option Addr} {sl_Letter___invert__ : Array (Option Value)} {oc_Letter___invert__ : Value} {kV_Letter___invert__ : Value} {dc_Letter___invert__ : Value} {pm_Letter___invert__ : Value} {cd_Letter___invert__ : Value} {ct_Letter___invert__ : Value} {f_Letter___pos__ : Addr} {od_Letter___pos__ : Option Addr} {an_Letter___pos__ : Option Addr} {sl_Letter___pos__ : Array (Option Value)} {oc_Letter___pos__ : Value} {kV_Letter___pos__ : Value} {dc_Letter___pos__ : Value} {pm_Letter___pos__ : Value} {cd_Letter___pos__ : Value} {ct_Letter___pos__ : Value} {f_Letter___neg__ : Addr} {od_Letter___neg__ : Option Addr} {an_Letter___neg__ : Option Addr} {sl_Letter___neg__ : Array (Option Value)} {oc_Letter___neg__ : Value} {kV_Letter___neg__ : Value} {dc_Letter___neg__ : Value} {pm_Letter___neg__ : Value} {cd_Letter___neg__ : Value} {ct_Letter___neg__ : Value} {f_Letter___eq__ : Addr} {od_Letter___eq__ : Option Addr} {an_Letter___eq__ : Option Addr} {sl_Letter___eq__ : Array (Option Value)} {oc_Letter___eq__ : Value} {kV_Letter___eq__ : Value} {dc_Letter___eq__ : Value} {pm_Letter___eq__ : Value} {cd_Letter___eq__ : Value} {ct_Letter___eq__ : Value} {f_Letter___lt__ : Addr} {od_Letter___lt__ : Option Addr} {an_Letter___lt__ : Option Addr} {sl_Letter___lt__ : Array (Option Value)} {oc_Letter___lt__ : Value} {kV_Letter___lt__ : Value} {dc_Letter___lt__ : Value} {pm_Letter___lt__ : Value} {cd_Letter___lt__ : Value} {ct_Letter___lt__ : Value} {f_Letter___le__ : Addr} {od_Letter___le__ : Option Addr} {an_Letter___le__ : Option Addr} {sl_Letter___le__ : Array (Option Value)} {oc_Letter___le__ : Value} {kV_Letter___le__ : Value} {dc_Letter___le__ : Value} {pm_Letter___le__ : Value} {cd_Letter___le__ : Value} {ct_Letter___le__ : Value} {f_Letter___gt__ : Addr} {od_Letter___gt__ : Option Addr} {an_Letter___gt__ : Option Addr} {sl_Letter___gt__ : Array (Option Value)} {oc_Letter___gt__ : Value} {kV_Letter___gt__ : Value} {dc_Letter___gt__ : Value} {pm_Letter___gt__ : Value} {cd_Letter___gt__ : Value} {ct_Letter___gt__ : Value} {f_Letter___ge__ : Addr} {od_Letter___ge__ : Option Addr} {an_Letter___ge__ : Option Addr} {sl_Letter___ge__ : Array (Option Value)} {oc_Letter___ge__ : Value} {kV_Letter___ge__ : Value} {dc_Letter___ge__ : Value} {pm_Letter___ge__ : Value} {cd_Letter___ge__ : Value} {ct_Letter___ge__ : Value} {CR : Addr} {C_BadAtom : Addr} {f_BadAtom : Addr} {nm_BadAtom : Str} {q_BadAtom : Str} {N_BadAtom : Addr} {bs_BadAtom : List Value} {sn_BadAtom : List Str} {sub_BadAtom : List Value} {ab_BadAtom : Bool} {col_BadAtom : Option Bool} {dd_BadAtom : Option Addr} {m0_BadAtom : Option Value} {m1_BadAtom : Option Value} {m2_BadAtom : Option Value} {m3_BadAtom : Option Value} {m5_BadAtom : Option Value} {od_BadAtom : Option Addr} {an_BadAtom : Option Addr} {sl_BadAtom : Array (Option Value)} {oc_BadAtom : Value} {kV_BadAtom : Value} {dc_BadAtom : Value} {pm_BadAtom : Value} {cd_BadAtom : Value} {ct_BadAtom : Value} {C_BadKey : Addr} {f_BadKey : Addr} {nm_BadKey : Str} {q_BadKey : Str} {N_BadKey : Addr} {bs_BadKey : List Value} {sn_BadKey : List Str} {sub_BadKey : List Value} {ab_BadKey : Bool} {col_BadKey : Option Bool} {dd_BadKey : Option Addr} {m0_BadKey : Option Value} {m1_BadKey : Option Value} {m2_BadKey : Option Value} {m3_BadKey : Option Value} {m5_BadKey : Option Value} {od_BadKey : Option Addr} {an_BadKey : Option Addr} {sl_BadKey : Array (Option Value)} {oc_BadKey : Value} {kV_BadKey : Value} {dc_BadKey : Value} {pm_BadKey : Value} {cd_BadKey : Value} {ct_BadKey : Value} {tk_SMALL : Tok} {tk_CAPITALS : Tok} {tk_DIGITS : Tok} {a_c_ATOMS : Addr} {od_c_ATOMS : Option Addr} {n_c_ATOMS : Nat} {sl_c_ATOMS : Array (Option Value)} {tk_ATOMS0 : Tok} {tk_ATOMS1 : Tok} {tk_ATOMS2 : Tok} {a_c_KEYS : Addr} {od_c_KEYS : Option Addr} {n_c_KEYS : Nat} {sl_c_KEYS : Array (Option Value)} {tk_KEYS0 : Tok} {tk_KEYS1 : Tok}
    (a_law_stream : PySem.W.nsIn K mainGlobals "_law_stream" = some (some (.ref f_law_stream)))
    (l_law_stream : K.lookup f_law_stream = some ⟨oc_law_stream, od_law_stream, .func (PySem.W.fnOf "_law_stream" "_law_stream" (defArgs s_law_stream) (defBody s_law_stream) (defScope s_law_stream) .none kV_law_stream dc_law_stream pm_law_stream an_law_stream cd_law_stream ct_law_stream), sl_law_stream⟩)
    (c_law_stream : PySem.W.codeIn K cd_law_stream "_law_stream" = true)
    (k_law_stream : PySem.W.keepIn K (.ref f_law_stream) = true)
    (a_law_draw : PySem.W.nsIn K mainGlobals "_law_draw" = some (some (.ref f_law_draw)))
    (l_law_draw : K.lookup f_law_draw = some ⟨oc_law_draw, od_law_draw, .func (PySem.W.fnOf "_law_draw" "_law_draw" (defArgs s_law_draw) (defBody s_law_draw) (defScope s_law_draw) .none kV_law_draw dc_law_draw pm_law_draw an_law_draw cd_law_draw ct_law_draw), sl_law_draw⟩)
    (c_law_draw : PySem.W.codeIn K cd_law_draw "_law_draw" = true)
    (k_law_draw : PySem.W.keepIn K (.ref f_law_draw) = true)
    (a_law_pick : PySem.W.nsIn K mainGlobals "_law_pick" = some (some (.ref f_law_pick)))
    (l_law_pick : K.lookup f_law_pick = some ⟨oc_law_pick, od_law_pick, .func (PySem.W.fnOf "_law_pick" "_law_pick" (defArgs s_law_pick) (defBody s_law_pick) (defScope s_law_pick) .none kV_law_pick dc_law_pick pm_law_pick an_law_pick cd_law_pick ct_law_pick), sl_law_pick⟩)
    (c_law_pick : PySem.W.codeIn K cd_law_pick "_law_pick" = true)
    (k_law_pick : PySem.W.keepIn K (.ref f_law_pick) = true)
    (a_law_word : PySem.W.nsIn K mainGlobals "_law_word" = some (some (.ref f_law_word)))
    (l_law_word : K.lookup f_law_word = some ⟨oc_law_word, od_law_word, .func (PySem.W.fnOf "_law_word" "_law_word" (defArgs s_law_word) (defBody s_law_word) (defScope s_law_word) .none kV_law_word dc_law_word pm_law_word an_law_word cd_law_word ct_law_word), sl_law_word⟩)
    (c_law_word : PySem.W.codeIn K cd_law_word "_law_word" = true)
    (k_law_word : PySem.W.keepIn K (.ref f_law_word) = true)
    (a_law_name : PySem.W.nsIn K mainGlobals "_law_name" = some (some (.ref f_law_name)))
    (l_law_name : K.lookup f_law_name = some ⟨oc_law_name, od_law_name, .func (PySem.W.fnOf "_law_name" "_law_name" (defArgs s_law_name) (defBody s_law_name) (defScope s_law_name) .none kV_law_name dc_law_name pm_law_name an_law_name cd_law_name ct_law_name), sl_law_name⟩)
    (c_law_name : PySem.W.codeIn K cd_law_name "_law_name" = true)
    (k_law_name : PySem.W.keepIn K (.ref f_law_name) = true)
    (a_made_of : PySem.W.nsIn K mainGlobals "made_of" = some (some (.ref f_made_of)))
    (l_made_of : K.lookup f_made_of = some ⟨oc_made_of, od_made_of, .func (PySem.W.fnOf "made_of" "made_of" (defArgs s_made_of) (defBody s_made_of) (defScope s_made_of) .none kV_made_of dc_made_of pm_made_of an_made_of cd_made_of ct_made_of), sl_made_of⟩)
    (c_made_of : PySem.W.codeIn K cd_made_of "made_of" = true)
    (k_made_of : PySem.W.keepIn K (.ref f_made_of) = true)
    (a_is_word : PySem.W.nsIn K mainGlobals "is_word" = some (some (.ref f_is_word)))
    (l_is_word : K.lookup f_is_word = some ⟨oc_is_word, od_is_word, .func (PySem.W.fnOf "is_word" "is_word" (defArgs s_is_word) (defBody s_is_word) (defScope s_is_word) .none kV_is_word dc_is_word pm_is_word an_is_word cd_is_word ct_is_word), sl_is_word⟩)
    (c_is_word : PySem.W.codeIn K cd_is_word "is_word" = true)
    (k_is_word : PySem.W.keepIn K (.ref f_is_word) = true)
    (a_is_name : PySem.W.nsIn K mainGlobals "is_name" = some (some (.ref f_is_name)))
    (l_is_name : K.lookup f_is_name = some ⟨oc_is_name, od_is_name, .func (PySem.W.fnOf "is_name" "is_name" (defArgs s_is_name) (defBody s_is_name) (defScope s_is_name) .none kV_is_name dc_is_name pm_is_name an_is_name cd_is_name ct_is_name), sl_is_name⟩)
    (c_is_name : PySem.W.codeIn K cd_is_name "is_name" = true)
    (k_is_name : PySem.W.keepIn K (.ref f_is_name) = true)
    (a_is_unknown : PySem.W.nsIn K mainGlobals "is_unknown" = some (some (.ref f_is_unknown)))
    (l_is_unknown : K.lookup f_is_unknown = some ⟨oc_is_unknown, od_is_unknown, .func (PySem.W.fnOf "is_unknown" "is_unknown" (defArgs s_is_unknown) (defBody s_is_unknown) (defScope s_is_unknown) .none kV_is_unknown dc_is_unknown pm_is_unknown an_is_unknown cd_is_unknown ct_is_unknown), sl_is_unknown⟩)
    (c_is_unknown : PySem.W.codeIn K cd_is_unknown "is_unknown" = true)
    (k_is_unknown : PySem.W.keepIn K (.ref f_is_unknown) = true)
    (a_atom_form : PySem.W.nsIn K mainGlobals "atom_form" = some (some (.ref f_atom_form)))
    (l_atom_form : K.lookup f_atom_form = some ⟨oc_atom_form, od_atom_form, .func (PySem.W.fnOf "atom_form" "atom_form" (defArgs s_atom_form) (defBody s_atom_form) (defScope s_atom_form) .none kV_atom_form dc_atom_form pm_atom_form an_atom_form cd_atom_form ct_atom_form), sl_atom_form⟩)
    (c_atom_form : PySem.W.codeIn K cd_atom_form "atom_form" = true)
    (k_atom_form : PySem.W.keepIn K (.ref f_atom_form) = true)
    (a_atom_text : PySem.W.nsIn K mainGlobals "atom_text" = some (some (.ref f_atom_text)))
    (l_atom_text : K.lookup f_atom_text = some ⟨oc_atom_text, od_atom_text, .func (PySem.W.fnOf "atom_text" "atom_text" (defArgs s_atom_text) (defBody s_atom_text) (defScope s_atom_text) .none kV_atom_text dc_atom_text pm_atom_text an_atom_text cd_atom_text ct_atom_text), sl_atom_text⟩)
    (c_atom_text : PySem.W.codeIn K cd_atom_text "atom_text" = true)
    (k_atom_text : PySem.W.keepIn K (.ref f_atom_text) = true)
    (a_form_text : PySem.W.nsIn K mainGlobals "form_text" = some (some (.ref f_form_text)))
    (l_form_text : K.lookup f_form_text = some ⟨oc_form_text, od_form_text, .func (PySem.W.fnOf "form_text" "form_text" (defArgs s_form_text) (defBody s_form_text) (defScope s_form_text) .none kV_form_text dc_form_text pm_form_text an_form_text cd_form_text ct_form_text), sl_form_text⟩)
    (c_form_text : PySem.W.codeIn K cd_form_text "form_text" = true)
    (k_form_text : PySem.W.keepIn K (.ref f_form_text) = true)
    (a_law_atom : PySem.W.nsIn K mainGlobals "_law_atom" = some (some (.ref f_law_atom)))
    (l_law_atom : K.lookup f_law_atom = some ⟨oc_law_atom, od_law_atom, .func (PySem.W.fnOf "_law_atom" "_law_atom" (defArgs s_law_atom) (defBody s_law_atom) (defScope s_law_atom) .none kV_law_atom dc_law_atom pm_law_atom an_law_atom cd_law_atom ct_law_atom), sl_law_atom⟩)
    (c_law_atom : PySem.W.codeIn K cd_law_atom "_law_atom" = true)
    (k_law_atom : PySem.W.keepIn K (.ref f_law_atom) = true)
    (a_law_form : PySem.W.nsIn K mainGlobals "_law_form" = some (some (.ref f_law_form)))
    (l_law_form : K.lookup f_law_form = some ⟨oc_law_form, od_law_form, .func (PySem.W.fnOf "_law_form" "_law_form" (defArgs s_law_form) (defBody s_law_form) (defScope s_law_form) .none kV_law_form dc_law_form pm_law_form an_law_form cd_law_form ct_law_form), sl_law_form⟩)
    (c_law_form : PySem.W.codeIn K cd_law_form "_law_form" = true)
    (k_law_form : PySem.W.keepIn K (.ref f_law_form) = true)
    (a_law_letter : PySem.W.nsIn K mainGlobals "_law_letter" = some (some (.ref f_law_letter)))
    (l_law_letter : K.lookup f_law_letter = some ⟨oc_law_letter, od_law_letter, .func (PySem.W.fnOf "_law_letter" "_law_letter" (defArgs s_law_letter) (defBody s_law_letter) (defScope s_law_letter) .none kV_law_letter dc_law_letter pm_law_letter an_law_letter cd_law_letter ct_law_letter), sl_law_letter⟩)
    (c_law_letter : PySem.W.codeIn K cd_law_letter "_law_letter" = true)
    (k_law_letter : PySem.W.keepIn K (.ref f_law_letter) = true)
    (a_forms_in : PySem.W.nsIn K mainGlobals "forms_in" = some (some (.ref f_forms_in)))
    (l_forms_in : K.lookup f_forms_in = some ⟨oc_forms_in, od_forms_in, .func (PySem.W.fnOf "forms_in" "forms_in" (defArgs s_forms_in) (defBody s_forms_in) (defScope s_forms_in) .none kV_forms_in dc_forms_in pm_forms_in an_forms_in cd_forms_in ct_forms_in), sl_forms_in⟩)
    (c_forms_in : PySem.W.codeIn K cd_forms_in "forms_in" = true)
    (k_forms_in : PySem.W.keepIn K (.ref f_forms_in) = true)
    (a_law_filled : PySem.W.nsIn K mainGlobals "_law_filled" = some (some (.ref f_law_filled)))
    (l_law_filled : K.lookup f_law_filled = some ⟨oc_law_filled, od_law_filled, .func (PySem.W.fnOf "_law_filled" "_law_filled" (defArgs s_law_filled) (defBody s_law_filled) (defScope s_law_filled) .none kV_law_filled dc_law_filled pm_law_filled an_law_filled cd_law_filled ct_law_filled), sl_law_filled⟩)
    (c_law_filled : PySem.W.codeIn K cd_law_filled "_law_filled" = true)
    (k_law_filled : PySem.W.keepIn K (.ref f_law_filled) = true)
    (a_lettered : PySem.W.nsIn K mainGlobals "lettered" = some (some (.ref f_lettered)))
    (l_lettered : K.lookup f_lettered = some ⟨oc_lettered, od_lettered, .func (PySem.W.fnOf "lettered" "lettered" (defArgs s_lettered) (defBody s_lettered) (defScope s_lettered) .none kV_lettered dc_lettered pm_lettered an_lettered cd_lettered ct_lettered), sl_lettered⟩)
    (c_lettered : PySem.W.codeIn K cd_lettered "lettered" = true)
    (k_lettered : PySem.W.keepIn K (.ref f_lettered) = true)
    (a_match : PySem.W.nsIn K mainGlobals "match" = some (some (.ref f_match)))
    (l_match : K.lookup f_match = some ⟨oc_match, od_match, .func (PySem.W.fnOf "match" "match" (defArgs s_match) (defBody s_match) (defScope s_match) .none kV_match dc_match pm_match an_match cd_match ct_match), sl_match⟩)
    (c_match : PySem.W.codeIn K cd_match "match" = true)
    (k_match : PySem.W.keepIn K (.ref f_match) = true)
    (a_law_plain_forms : PySem.W.nsIn K mainGlobals "_law_plain_forms" = some (some (.ref f_law_plain_forms)))
    (l_law_plain_forms : K.lookup f_law_plain_forms = some ⟨oc_law_plain_forms, od_law_plain_forms, .func (PySem.W.fnOf "_law_plain_forms" "_law_plain_forms" (defArgs s_law_plain_forms) (defBody s_law_plain_forms) (defScope s_law_plain_forms) .none kV_law_plain_forms dc_law_plain_forms pm_law_plain_forms an_law_plain_forms cd_law_plain_forms ct_law_plain_forms), sl_law_plain_forms⟩)
    (c_law_plain_forms : PySem.W.codeIn K cd_law_plain_forms "_law_plain_forms" = true)
    (k_law_plain_forms : PySem.W.keepIn K (.ref f_law_plain_forms) = true)
    (a_law_matched : PySem.W.nsIn K mainGlobals "_law_matched" = some (some (.ref f_law_matched)))
    (l_law_matched : K.lookup f_law_matched = some ⟨oc_law_matched, od_law_matched, .func (PySem.W.fnOf "_law_matched" "_law_matched" (defArgs s_law_matched) (defBody s_law_matched) (defScope s_law_matched) .none kV_law_matched dc_law_matched pm_law_matched an_law_matched cd_law_matched ct_law_matched), sl_law_matched⟩)
    (c_law_matched : PySem.W.codeIn K cd_law_matched "_law_matched" = true)
    (k_law_matched : PySem.W.keepIn K (.ref f_law_matched) = true)
    (a_law_bent : PySem.W.nsIn K mainGlobals "_law_bent" = some (some (.ref f_law_bent)))
    (l_law_bent : K.lookup f_law_bent = some ⟨oc_law_bent, od_law_bent, .func (PySem.W.fnOf "_law_bent" "_law_bent" (defArgs s_law_bent) (defBody s_law_bent) (defScope s_law_bent) .none kV_law_bent dc_law_bent pm_law_bent an_law_bent cd_law_bent ct_law_bent), sl_law_bent⟩)
    (c_law_bent : PySem.W.codeIn K cd_law_bent "_law_bent" = true)
    (k_law_bent : PySem.W.keepIn K (.ref f_law_bent) = true)
    (a_law : PySem.W.nsIn K mainGlobals "law" = some (some (.ref f_law)))
    (l_law : K.lookup f_law = some ⟨oc_law, od_law, .func (PySem.W.fnOf "law" "law" (defArgs s_law) (defBody s_law) (defScope s_law) .none kV_law dc_law pm_law an_law cd_law ct_law), sl_law⟩)
    (c_law : PySem.W.codeIn K cd_law "law" = true)
    (k_law : PySem.W.keepIn K (.ref f_law) = true)
    (aCL : PySem.W.nsIn K mainGlobals "Letter" = some (some (.ref CL)))
    (pg : PySem.W.plainGet K CL Str.empty = true)
    (hd : PySem.W.hasDictIn K CL = true)
    (po : PySem.W.plainOver K CL = true)
    (sa : PySem.W.findIn K (.ref CL) "__setattr__" = some (some (.builtin "object.__setattr__")))
    (mk : PySem.W.makesIn K CL = true)
    (kc : PySem.W.keepIn K (.ref CL) = true)
    (nS : PySem.W.findIn K (.ref CL) "shape" = some none)
    (aLI : PySem.W.findIn K (.ref CL) "__init__" = some (some (.ref f_LI)))
    (iLI : PySem.W.isFn K (.ref f_LI) = true)
    (l_LI : K.lookup f_LI = some ⟨oc_LI, od_LI, .func (PySem.W.fnOf "__init__" "Letter.__init__" (defArgs s_Letter___init__) (defBody s_Letter___init__) (defScope s_Letter___init__) .none kV_LI dc_LI pm_LI an_LI cd_LI ct_LI), sl_LI⟩)
    (c_LI : PySem.W.codeIn K cd_LI "Letter.__init__" = true)
    (k_LI : PySem.W.keepIn K (.ref f_LI) = true)
    (lc1 : PySem.W.selfFirst K CL = true)
    (lc2 : PySem.W.findIn K (.ref CL) "__class__" = some (some (.builtin "object.__class__")))
    (lc3 : PySem.W.specialIn K (.builtin "object.__class__") "__get__" = some (some (.builtin "getset_descriptor.__get__")))
    (lc4 : PySem.W.takesIn K (.builtin "object.__class__") = some true)
    (lc5 : PySem.W.mroIn K CL (.type "object") = some true)
    (a_Letter_form : PySem.W.findIn K (.ref CL) "form" = some (some (.ref f_Letter_form)))
    (i_Letter_form : PySem.W.isFn K (.ref f_Letter_form) = true)
    (l_Letter_form : K.lookup f_Letter_form = some ⟨oc_Letter_form, od_Letter_form, .func (PySem.W.fnOf "form" "Letter.form" (defArgs s_Letter_form) (defBody s_Letter_form) (defScope s_Letter_form) .none kV_Letter_form dc_Letter_form pm_Letter_form an_Letter_form cd_Letter_form ct_Letter_form), sl_Letter_form⟩)
    (c_Letter_form : PySem.W.codeIn K cd_Letter_form "Letter.form" = true)
    (k_Letter_form : PySem.W.keepIn K (.ref f_Letter_form) = true)
    (a_Letter_written : PySem.W.findIn K (.ref CL) "written" = some (some (.ref f_Letter_written)))
    (i_Letter_written : PySem.W.isFn K (.ref f_Letter_written) = true)
    (l_Letter_written : K.lookup f_Letter_written = some ⟨oc_Letter_written, od_Letter_written, .func (PySem.W.fnOf "written" "Letter.written" (defArgs s_Letter_written) (defBody s_Letter_written) (defScope s_Letter_written) .none kV_Letter_written dc_Letter_written pm_Letter_written an_Letter_written cd_Letter_written ct_Letter_written), sl_Letter_written⟩)
    (c_Letter_written : PySem.W.codeIn K cd_Letter_written "Letter.written" = true)
    (k_Letter_written : PySem.W.keepIn K (.ref f_Letter_written) = true)
    (a_Letter___add__ : PySem.W.findIn K (.ref CL) "__add__" = some (some (.ref f_Letter___add__)))
    (i_Letter___add__ : PySem.W.isFn K (.ref f_Letter___add__) = true)
    (l_Letter___add__ : K.lookup f_Letter___add__ = some ⟨oc_Letter___add__, od_Letter___add__, .func (PySem.W.fnOf "__add__" "Letter.__add__" (defArgs s_Letter___add__) (defBody s_Letter___add__) (defScope s_Letter___add__) .none kV_Letter___add__ dc_Letter___add__ pm_Letter___add__ an_Letter___add__ cd_Letter___add__ ct_Letter___add__), sl_Letter___add__⟩)
    (c_Letter___add__ : PySem.W.codeIn K cd_Letter___add__ "Letter.__add__" = true)
    (k_Letter___add__ : PySem.W.keepIn K (.ref f_Letter___add__) = true)
    (a_Letter___mul__ : PySem.W.findIn K (.ref CL) "__mul__" = some (some (.ref f_Letter___mul__)))
    (i_Letter___mul__ : PySem.W.isFn K (.ref f_Letter___mul__) = true)
    (l_Letter___mul__ : K.lookup f_Letter___mul__ = some ⟨oc_Letter___mul__, od_Letter___mul__, .func (PySem.W.fnOf "__mul__" "Letter.__mul__" (defArgs s_Letter___mul__) (defBody s_Letter___mul__) (defScope s_Letter___mul__) .none kV_Letter___mul__ dc_Letter___mul__ pm_Letter___mul__ an_Letter___mul__ cd_Letter___mul__ ct_Letter___mul__), sl_Letter___mul__⟩)
    (c_Letter___mul__ : PySem.W.codeIn K cd_Letter___mul__ "Letter.__mul__" = true)
    (k_Letter___mul__ : PySem.W.keepIn K (.ref f_Letter___mul__) = true)
    (a_Letter___xor__ : PySem.W.findIn K (.ref CL) "__xor__" = some (some (.ref f_Letter___xor__)))
    (i_Letter___xor__ : PySem.W.isFn K (.ref f_Letter___xor__) = true)
    (l_Letter___xor__ : K.lookup f_Letter___xor__ = some ⟨oc_Letter___xor__, od_Letter___xor__, .func (PySem.W.fnOf "__xor__" "Letter.__xor__" (defArgs s_Letter___xor__) (defBody s_Letter___xor__) (defScope s_Letter___xor__) .none kV_Letter___xor__ dc_Letter___xor__ pm_Letter___xor__ an_Letter___xor__ cd_Letter___xor__ ct_Letter___xor__), sl_Letter___xor__⟩)
    (c_Letter___xor__ : PySem.W.codeIn K cd_Letter___xor__ "Letter.__xor__" = true)
    (k_Letter___xor__ : PySem.W.keepIn K (.ref f_Letter___xor__) = true)
    (a_Letter___invert__ : PySem.W.findIn K (.ref CL) "__invert__" = some (some (.ref f_Letter___invert__)))
    (i_Letter___invert__ : PySem.W.isFn K (.ref f_Letter___invert__) = true)
    (l_Letter___invert__ : K.lookup f_Letter___invert__ = some ⟨oc_Letter___invert__, od_Letter___invert__, .func (PySem.W.fnOf "__invert__" "Letter.__invert__" (defArgs s_Letter___invert__) (defBody s_Letter___invert__) (defScope s_Letter___invert__) .none kV_Letter___invert__ dc_Letter___invert__ pm_Letter___invert__ an_Letter___invert__ cd_Letter___invert__ ct_Letter___invert__), sl_Letter___invert__⟩)
    (c_Letter___invert__ : PySem.W.codeIn K cd_Letter___invert__ "Letter.__invert__" = true)
    (k_Letter___invert__ : PySem.W.keepIn K (.ref f_Letter___invert__) = true)
    (a_Letter___pos__ : PySem.W.findIn K (.ref CL) "__pos__" = some (some (.ref f_Letter___pos__)))
    (i_Letter___pos__ : PySem.W.isFn K (.ref f_Letter___pos__) = true)
    (l_Letter___pos__ : K.lookup f_Letter___pos__ = some ⟨oc_Letter___pos__, od_Letter___pos__, .func (PySem.W.fnOf "__pos__" "Letter.__pos__" (defArgs s_Letter___pos__) (defBody s_Letter___pos__) (defScope s_Letter___pos__) .none kV_Letter___pos__ dc_Letter___pos__ pm_Letter___pos__ an_Letter___pos__ cd_Letter___pos__ ct_Letter___pos__), sl_Letter___pos__⟩)
    (c_Letter___pos__ : PySem.W.codeIn K cd_Letter___pos__ "Letter.__pos__" = true)
    (k_Letter___pos__ : PySem.W.keepIn K (.ref f_Letter___pos__) = true)
    (a_Letter___neg__ : PySem.W.findIn K (.ref CL) "__neg__" = some (some (.ref f_Letter___neg__)))
    (i_Letter___neg__ : PySem.W.isFn K (.ref f_Letter___neg__) = true)
    (l_Letter___neg__ : K.lookup f_Letter___neg__ = some ⟨oc_Letter___neg__, od_Letter___neg__, .func (PySem.W.fnOf "__neg__" "Letter.__neg__" (defArgs s_Letter___neg__) (defBody s_Letter___neg__) (defScope s_Letter___neg__) .none kV_Letter___neg__ dc_Letter___neg__ pm_Letter___neg__ an_Letter___neg__ cd_Letter___neg__ ct_Letter___neg__), sl_Letter___neg__⟩)
    (c_Letter___neg__ : PySem.W.codeIn K cd_Letter___neg__ "Letter.__neg__" = true)
    (k_Letter___neg__ : PySem.W.keepIn K (.ref f_Letter___neg__) = true)
    (a_Letter___eq__ : PySem.W.findIn K (.ref CL) "__eq__" = some (some (.ref f_Letter___eq__)))
    (i_Letter___eq__ : PySem.W.isFn K (.ref f_Letter___eq__) = true)
    (l_Letter___eq__ : K.lookup f_Letter___eq__ = some ⟨oc_Letter___eq__, od_Letter___eq__, .func (PySem.W.fnOf "__eq__" "Letter.__eq__" (defArgs s_Letter___eq__) (defBody s_Letter___eq__) (defScope s_Letter___eq__) .none kV_Letter___eq__ dc_Letter___eq__ pm_Letter___eq__ an_Letter___eq__ cd_Letter___eq__ ct_Letter___eq__), sl_Letter___eq__⟩)
    (c_Letter___eq__ : PySem.W.codeIn K cd_Letter___eq__ "Letter.__eq__" = true)
    (k_Letter___eq__ : PySem.W.keepIn K (.ref f_Letter___eq__) = true)
    (a_Letter___lt__ : PySem.W.findIn K (.ref CL) "__lt__" = some (some (.ref f_Letter___lt__)))
    (i_Letter___lt__ : PySem.W.isFn K (.ref f_Letter___lt__) = true)
    (l_Letter___lt__ : K.lookup f_Letter___lt__ = some ⟨oc_Letter___lt__, od_Letter___lt__, .func (PySem.W.fnOf "__lt__" "Letter.__lt__" (defArgs s_Letter___lt__) (defBody s_Letter___lt__) (defScope s_Letter___lt__) .none kV_Letter___lt__ dc_Letter___lt__ pm_Letter___lt__ an_Letter___lt__ cd_Letter___lt__ ct_Letter___lt__), sl_Letter___lt__⟩)
    (c_Letter___lt__ : PySem.W.codeIn K cd_Letter___lt__ "Letter.__lt__" = true)
    (k_Letter___lt__ : PySem.W.keepIn K (.ref f_Letter___lt__) = true)
    (a_Letter___le__ : PySem.W.findIn K (.ref CL) "__le__" = some (some (.ref f_Letter___le__)))
    (i_Letter___le__ : PySem.W.isFn K (.ref f_Letter___le__) = true)
    (l_Letter___le__ : K.lookup f_Letter___le__ = some ⟨oc_Letter___le__, od_Letter___le__, .func (PySem.W.fnOf "__le__" "Letter.__le__" (defArgs s_Letter___le__) (defBody s_Letter___le__) (defScope s_Letter___le__) .none kV_Letter___le__ dc_Letter___le__ pm_Letter___le__ an_Letter___le__ cd_Letter___le__ ct_Letter___le__), sl_Letter___le__⟩)
    (c_Letter___le__ : PySem.W.codeIn K cd_Letter___le__ "Letter.__le__" = true)
    (k_Letter___le__ : PySem.W.keepIn K (.ref f_Letter___le__) = true)
    (a_Letter___gt__ : PySem.W.findIn K (.ref CL) "__gt__" = some (some (.ref f_Letter___gt__)))
    (i_Letter___gt__ : PySem.W.isFn K (.ref f_Letter___gt__) = true)
    (l_Letter___gt__ : K.lookup f_Letter___gt__ = some ⟨oc_Letter___gt__, od_Letter___gt__, .func (PySem.W.fnOf "__gt__" "Letter.__gt__" (defArgs s_Letter___gt__) (defBody s_Letter___gt__) (defScope s_Letter___gt__) .none kV_Letter___gt__ dc_Letter___gt__ pm_Letter___gt__ an_Letter___gt__ cd_Letter___gt__ ct_Letter___gt__), sl_Letter___gt__⟩)
    (c_Letter___gt__ : PySem.W.codeIn K cd_Letter___gt__ "Letter.__gt__" = true)
    (k_Letter___gt__ : PySem.W.keepIn K (.ref f_Letter___gt__) = true)
    (a_Letter___ge__ : PySem.W.findIn K (.ref CL) "__ge__" = some (some (.ref f_Letter___ge__)))
    (i_Letter___ge__ : PySem.W.isFn K (.ref f_Letter___ge__) = true)
    (l_Letter___ge__ : K.lookup f_Letter___ge__ = some ⟨oc_Letter___ge__, od_Letter___ge__, .func (PySem.W.fnOf "__ge__" "Letter.__ge__" (defArgs s_Letter___ge__) (defBody s_Letter___ge__) (defScope s_Letter___ge__) .none kV_Letter___ge__ dc_Letter___ge__ pm_Letter___ge__ an_Letter___ge__ cd_Letter___ge__ ct_Letter___ge__), sl_Letter___ge__⟩)
    (c_Letter___ge__ : PySem.W.codeIn K cd_Letter___ge__ "Letter.__ge__" = true)
    (k_Letter___ge__ : PySem.W.keepIn K (.ref f_Letter___ge__) = true)
    (aC_BadAtom : PySem.W.nsIn K mainGlobals "BadAtom" = some (some (.ref C_BadAtom)))
    (xC_BadAtom : K.lookup C_BadAtom = some (excClassObj nm_BadAtom q_BadAtom C_BadAtom N_BadAtom bs_BadAtom [.ref CR, .type "ValueError", .type "Exception", .type "BaseException", .type "object"] true sn_BadAtom sub_BadAtom ab_BadAtom col_BadAtom dd_BadAtom m0_BadAtom m1_BadAtom m2_BadAtom m3_BadAtom m5_BadAtom "ValueError.__new__"))
    (sa_BadAtom : PySem.W.findIn K (.ref C_BadAtom) "__setattr__" = some (some (.builtin "object.__setattr__")))
    (ga_BadAtom : PySem.W.findIn K (.ref C_BadAtom) "__getattribute__" = some (some (.builtin "BaseException.__getattribute__")))
    (gg_BadAtom : PySem.W.findIn K (.ref C_BadAtom) "__getattr__" = some none)
    (kC_BadAtom : PySem.W.keepIn K (.ref C_BadAtom) = true)
    (eC_BadAtom : PySem.W.subIn K (.ref C_BadAtom) (.type "BaseException") = some true)
    (tC_BadAtom : PySem.W.typeIn K (.ref C_BadAtom) = some (.type "type"))
    (hC_BadAtom : PySem.W.hasDictIn K C_BadAtom = true)
    (iC_BadAtom : PySem.W.isClsIn K C_BadAtom = true)
    (sC_BadAtom : PySem.W.subIn K (.ref C_BadAtom) (.ref C_BadAtom) = some true)
    (nb_BadAtom : PySem.W.findIn K (.ref C_BadAtom) "text" = some none)
    (aI_BadAtom : PySem.W.findIn K (.ref C_BadAtom) "__init__" = some (some (.ref f_BadAtom)))
    (tI_BadAtom : PySem.W.typeIn K (.ref f_BadAtom) = some (.type "function"))
    (l_BadAtom : K.lookup f_BadAtom = some ⟨oc_BadAtom, od_BadAtom, .func (PySem.W.fnOf "__init__" "BadAtom.__init__" (defArgs s_BadAtom___init__) (defBody s_BadAtom___init__) (defScope s_BadAtom___init__) .none kV_BadAtom dc_BadAtom pm_BadAtom an_BadAtom cd_BadAtom ct_BadAtom), sl_BadAtom⟩)
    (c_BadAtom : PySem.W.codeIn K cd_BadAtom "BadAtom.__init__" = true)
    (k_BadAtom : PySem.W.keepIn K (.ref f_BadAtom) = true)
    (aC_BadKey : PySem.W.nsIn K mainGlobals "BadKey" = some (some (.ref C_BadKey)))
    (xC_BadKey : K.lookup C_BadKey = some (excClassObj nm_BadKey q_BadKey C_BadKey N_BadKey bs_BadKey [.ref CR, .type "ValueError", .type "Exception", .type "BaseException", .type "object"] true sn_BadKey sub_BadKey ab_BadKey col_BadKey dd_BadKey m0_BadKey m1_BadKey m2_BadKey m3_BadKey m5_BadKey "ValueError.__new__"))
    (sa_BadKey : PySem.W.findIn K (.ref C_BadKey) "__setattr__" = some (some (.builtin "object.__setattr__")))
    (ga_BadKey : PySem.W.findIn K (.ref C_BadKey) "__getattribute__" = some (some (.builtin "BaseException.__getattribute__")))
    (gg_BadKey : PySem.W.findIn K (.ref C_BadKey) "__getattr__" = some none)
    (kC_BadKey : PySem.W.keepIn K (.ref C_BadKey) = true)
    (eC_BadKey : PySem.W.subIn K (.ref C_BadKey) (.type "BaseException") = some true)
    (tC_BadKey : PySem.W.typeIn K (.ref C_BadKey) = some (.type "type"))
    (hC_BadKey : PySem.W.hasDictIn K C_BadKey = true)
    (iC_BadKey : PySem.W.isClsIn K C_BadKey = true)
    (sC_BadKey : PySem.W.subIn K (.ref C_BadKey) (.ref C_BadKey) = some true)
    (nb_BadKey : PySem.W.findIn K (.ref C_BadKey) "key" = some none)
    (aI_BadKey : PySem.W.findIn K (.ref C_BadKey) "__init__" = some (some (.ref f_BadKey)))
    (tI_BadKey : PySem.W.typeIn K (.ref f_BadKey) = some (.type "function"))
    (l_BadKey : K.lookup f_BadKey = some ⟨oc_BadKey, od_BadKey, .func (PySem.W.fnOf "__init__" "BadKey.__init__" (defArgs s_BadKey___init__) (defBody s_BadKey___init__) (defScope s_BadKey___init__) .none kV_BadKey dc_BadKey pm_BadKey an_BadKey cd_BadKey ct_BadKey), sl_BadKey⟩)
    (c_BadKey : PySem.W.codeIn K cd_BadKey "BadKey.__init__" = true)
    (k_BadKey : PySem.W.keepIn K (.ref f_BadKey) = true)
    (z_abs : PySem.W.nsIn K mainGlobals "abs" = some none)
    (z_all : PySem.W.nsIn K mainGlobals "all" = some none)
    (z_dict : PySem.W.nsIn K mainGlobals "dict" = some none)
    (z_int : PySem.W.nsIn K mainGlobals "int" = some none)
    (z_isinstance : PySem.W.nsIn K mainGlobals "isinstance" = some none)
    (z_len : PySem.W.nsIn K mainGlobals "len" = some none)
    (z_list : PySem.W.nsIn K mainGlobals "list" = some none)
    (z_max : PySem.W.nsIn K mainGlobals "max" = some none)
    (z_range : PySem.W.nsIn K mainGlobals "range" = some none)
    (z_str : PySem.W.nsIn K mainGlobals "str" = some none)
    (z_tuple : PySem.W.nsIn K mainGlobals "tuple" = some none)
    (z_zip : PySem.W.nsIn K mainGlobals "zip" = some none)
    (s_c_SMALL : PySem.W.nsIn K mainGlobals "SMALL" = some (some (.str "abcdefghijklmnopqrstuvwxyz" tk_SMALL)))
    (s_c_CAPITALS : PySem.W.nsIn K mainGlobals "CAPITALS" = some (some (.str "ABCDEFGHIJKLMNOPQRSTUVWXYZ" tk_CAPITALS)))
    (s_c_DIGITS : PySem.W.nsIn K mainGlobals "DIGITS" = some (some (.str "0123456789" tk_DIGITS)))
    (s_c_ATOMS : PySem.W.nsIn K mainGlobals "ATOMS" = some (some (.ref a_c_ATOMS)))
    (l_c_ATOMS : K.lookup a_c_ATOMS = some ⟨.type "tuple", od_c_ATOMS, .seq #[.str "word" tk_ATOMS0, .str "name" tk_ATOMS1, .str "unknown" tk_ATOMS2] n_c_ATOMS, sl_c_ATOMS⟩)
    (s_c_KEYS : PySem.W.nsIn K mainGlobals "KEYS" = some (some (.ref a_c_KEYS)))
    (l_c_KEYS : K.lookup a_c_KEYS = some ⟨.type "tuple", od_c_KEYS, .seq #[.str "open" tk_KEYS0, .str "own" tk_KEYS1] n_c_KEYS, sl_c_KEYS⟩) :
    ∃ fd : FuncData, (∀ (s : Shared) (v : Value), BindsTo s fd ⟨[v], []⟩ [("_law_script", v)]) ∧ ∀ base : Heap, K.In base → base.Ns mainGlobals mg → FnOk l.prog w K mg base (L2.CX l.prog w) 33 fa fd ["_law_script"] (spLaw K) := by
  have e := hfa.symm.trans (PySem.W.mg_of X G a_law)
  cases e
  have T : Bl K mg := ⟨PySem.W.mg_none_of X G z_abs, PySem.W.mg_none_of X G z_all, PySem.W.mg_none_of X G z_dict, PySem.W.mg_none_of X G z_int, PySem.W.mg_none_of X G z_isinstance, PySem.W.mg_none_of X G z_len, PySem.W.mg_none_of X G z_list, PySem.W.mg_none_of X G z_max, PySem.W.mg_none_of X G z_range, PySem.W.mg_none_of X G z_str, PySem.W.mg_none_of X G z_tuple, PySem.W.mg_none_of X G z_zip, ⟨_, PySem.W.mg_of X G s_c_SMALL, ⟨_, rfl⟩⟩, ⟨_, PySem.W.mg_of X G s_c_CAPITALS, ⟨_, rfl⟩⟩, ⟨_, PySem.W.mg_of X G s_c_DIGITS, ⟨_, rfl⟩⟩, ⟨_, PySem.W.mg_of X G s_c_ATOMS, fun H => .inr ⟨_, _, _, l_c_ATOMS, rfl, rfl, by rw [sizeLine_eq]; show 3 ≤ 16777216; decide, (.cons ⟨_, rfl⟩ (.cons ⟨_, rfl⟩ (.cons ⟨_, rfl⟩ .nil)))⟩⟩, ⟨_, PySem.W.mg_of X G s_c_KEYS, fun H => .inr ⟨_, _, _, l_c_KEYS, rfl, rfl, by rw [sizeLine_eq]; show 2 ≤ 16777216; decide, (.cons ⟨_, rfl⟩ (.cons ⟨_, rfl⟩ .nil))⟩⟩⟩
  have F_law_stream := fun_mk (st := s_law_stream) l_law_stream c_law_stream k_law_stream
  have D_law_stream : Df K mg "_law_stream" s_law_stream p_law_stream := ⟨f_law_stream, _, F_law_stream, PySem.W.mg_of X G a_law_stream, F_law_stream.binds (ps := p_law_stream) fun _ _ _ _ _ _ us hl => match us, hl with | [_, _], _ => rfl⟩
  have F_law_draw := fun_mk (st := s_law_draw) l_law_draw c_law_draw k_law_draw
  have D_law_draw : Df K mg "_law_draw" s_law_draw p_law_draw := ⟨f_law_draw, _, F_law_draw, PySem.W.mg_of X G a_law_draw, F_law_draw.binds (ps := p_law_draw) fun _ _ _ _ _ _ us hl => match us, hl with | [_, _], _ => rfl⟩
  have F_law_pick := fun_mk (st := s_law_pick) l_law_pick c_law_pick k_law_pick
  have D_law_pick : Df K mg "_law_pick" s_law_pick p_law_pick := ⟨f_law_pick, _, F_law_pick, PySem.W.mg_of X G a_law_pick, F_law_pick.binds (ps := p_law_pick) fun _ _ _ _ _ _ us hl => match us, hl with | [_, _], _ => rfl⟩
  have F_law_word := fun_mk (st := s_law_word) l_law_word c_law_word k_law_word
  have D_law_word : Df K mg "_law_word" s_law_word p_law_word := ⟨f_law_word, _, F_law_word, PySem.W.mg_of X G a_law_word, F_law_word.binds (ps := p_law_word) fun _ _ _ _ _ _ us hl => match us, hl with | [_], _ => rfl⟩
  have F_law_name := fun_mk (st := s_law_name) l_law_name c_law_name k_law_name
  have D_law_name : Df K mg "_law_name" s_law_name p_law_name := ⟨f_law_name, _, F_law_name, PySem.W.mg_of X G a_law_name, F_law_name.binds (ps := p_law_name) fun _ _ _ _ _ _ us hl => match us, hl with | [_], _ => rfl⟩
  have F_made_of := fun_mk (st := s_made_of) l_made_of c_made_of k_made_of
  have D_made_of : Df K mg "made_of" s_made_of p_made_of := ⟨f_made_of, _, F_made_of, PySem.W.mg_of X G a_made_of, F_made_of.binds (ps := p_made_of) fun _ _ _ _ _ _ us hl => match us, hl with | [_, _], _ => rfl⟩
  have F_is_word := fun_mk (st := s_is_word) l_is_word c_is_word k_is_word
  have D_is_word : Df K mg "is_word" s_is_word p_is_word := ⟨f_is_word, _, F_is_word, PySem.W.mg_of X G a_is_word, F_is_word.binds (ps := p_is_word) fun _ _ _ _ _ _ us hl => match us, hl with | [_], _ => rfl⟩
  have F_is_name := fun_mk (st := s_is_name) l_is_name c_is_name k_is_name
  have D_is_name : Df K mg "is_name" s_is_name p_is_name := ⟨f_is_name, _, F_is_name, PySem.W.mg_of X G a_is_name, F_is_name.binds (ps := p_is_name) fun _ _ _ _ _ _ us hl => match us, hl with | [_], _ => rfl⟩
  have F_is_unknown := fun_mk (st := s_is_unknown) l_is_unknown c_is_unknown k_is_unknown
  have D_is_unknown : Df K mg "is_unknown" s_is_unknown p_is_unknown := ⟨f_is_unknown, _, F_is_unknown, PySem.W.mg_of X G a_is_unknown, F_is_unknown.binds (ps := p_is_unknown) fun _ _ _ _ _ _ us hl => match us, hl with | [_], _ => rfl⟩
  have F_atom_form := fun_mk (st := s_atom_form) l_atom_form c_atom_form k_atom_form
  have D_atom_form : Df K mg "atom_form" s_atom_form p_atom_form := ⟨f_atom_form, _, F_atom_form, PySem.W.mg_of X G a_atom_form, F_atom_form.binds (ps := p_atom_form) fun _ _ _ _ _ _ us hl => match us, hl with | [_], _ => rfl⟩
  have F_atom_text := fun_mk (st := s_atom_text) l_atom_text c_atom_text k_atom_text
  have D_atom_text : Df K mg "atom_text" s_atom_text p_atom_text := ⟨f_atom_text, _, F_atom_text, PySem.W.mg_of X G a_atom_text, F_atom_text.binds (ps := p_atom_text) fun _ _ _ _ _ _ us hl => match us, hl with | [_], _ => rfl⟩
  have F_form_text := fun_mk (st := s_form_text) l_form_text c_form_text k_form_text
  have D_form_text : Df K mg "form_text" s_form_text p_form_text := ⟨f_form_text, _, F_form_text, PySem.W.mg_of X G a_form_text, F_form_text.binds (ps := p_form_text) fun _ _ _ _ _ _ us hl => match us, hl with | [_], _ => rfl⟩
  have F_law_atom := fun_mk (st := s_law_atom) l_law_atom c_law_atom k_law_atom
  have D_law_atom : Df K mg "_law_atom" s_law_atom p_law_atom := ⟨f_law_atom, _, F_law_atom, PySem.W.mg_of X G a_law_atom, F_law_atom.binds (ps := p_law_atom) fun _ _ _ _ _ _ us hl => match us, hl with | [_, _], _ => rfl⟩
  have F_law_form := fun_mk (st := s_law_form) l_law_form c_law_form k_law_form
  have D_law_form : Df K mg "_law_form" s_law_form p_law_form := ⟨f_law_form, _, F_law_form, PySem.W.mg_of X G a_law_form, F_law_form.binds (ps := p_law_form) fun _ _ _ _ _ _ us hl => match us, hl with | [_, _, _], _ => rfl⟩
  have F_law_letter := fun_mk (st := s_law_letter) l_law_letter c_law_letter k_law_letter
  have D_law_letter : Df K mg "_law_letter" s_law_letter p_law_letter := ⟨f_law_letter, _, F_law_letter, PySem.W.mg_of X G a_law_letter, F_law_letter.binds (ps := p_law_letter) fun _ _ _ _ _ _ us hl => match us, hl with | [_], _ => rfl⟩
  have F_forms_in := fun_mk (st := s_forms_in) l_forms_in c_forms_in k_forms_in
  have D_forms_in : Df K mg "forms_in" s_forms_in p_forms_in := ⟨f_forms_in, _, F_forms_in, PySem.W.mg_of X G a_forms_in, F_forms_in.binds (ps := p_forms_in) fun _ _ _ _ _ _ us hl => match us, hl with | [_], _ => rfl⟩
  have F_law_filled := fun_mk (st := s_law_filled) l_law_filled c_law_filled k_law_filled
  have D_law_filled : Df K mg "_law_filled" s_law_filled p_law_filled := ⟨f_law_filled, _, F_law_filled, PySem.W.mg_of X G a_law_filled, F_law_filled.binds (ps := p_law_filled) fun _ _ _ _ _ _ us hl => match us, hl with | [_, _], _ => rfl⟩
  have F_lettered := fun_mk (st := s_lettered) l_lettered c_lettered k_lettered
  have D_lettered : Df K mg "lettered" s_lettered p_lettered := ⟨f_lettered, _, F_lettered, PySem.W.mg_of X G a_lettered, F_lettered.binds (ps := p_lettered) fun _ _ _ _ _ _ us hl => match us, hl with | [_], _ => rfl⟩
  have F_match := fun_mk (st := s_match) l_match c_match k_match
  have D_match : Df K mg "match" s_match p_match := ⟨f_match, _, F_match, PySem.W.mg_of X G a_match, F_match.binds (ps := p_match) fun _ _ _ _ _ _ us hl => match us, hl with | [_, _], _ => rfl⟩
  have F_law_plain_forms := fun_mk (st := s_law_plain_forms) l_law_plain_forms c_law_plain_forms k_law_plain_forms
  have D_law_plain_forms : Df K mg "_law_plain_forms" s_law_plain_forms p_law_plain_forms := ⟨f_law_plain_forms, _, F_law_plain_forms, PySem.W.mg_of X G a_law_plain_forms, F_law_plain_forms.binds (ps := p_law_plain_forms) fun _ _ _ _ _ _ us hl => match us, hl with | [_, _, _], _ => rfl⟩
  have F_law_matched := fun_mk (st := s_law_matched) l_law_matched c_law_matched k_law_matched
  have D_law_matched : Df K mg "_law_matched" s_law_matched p_law_matched := ⟨f_law_matched, _, F_law_matched, PySem.W.mg_of X G a_law_matched, F_law_matched.binds (ps := p_law_matched) fun _ _ _ _ _ _ us hl => match us, hl with | [_, _, _], _ => rfl⟩
  have F_law_bent := fun_mk (st := s_law_bent) l_law_bent c_law_bent k_law_bent
  have D_law_bent : Df K mg "_law_bent" s_law_bent p_law_bent := ⟨f_law_bent, _, F_law_bent, PySem.W.mg_of X G a_law_bent, F_law_bent.binds (ps := p_law_bent) fun _ _ _ _ _ _ us hl => match us, hl with | [_, _], _ => rfl⟩
  have F_law := fun_mk (st := s_law) l_law c_law k_law
  have F_LI := fun_mk (st := s_Letter___init__) l_LI c_LI k_LI
  have L : Lt K mg CL := ⟨⟨pg, hd, po, sa⟩, nS, PySem.W.mg_of X G aCL⟩
  have b_LI := F_LI.binds (ps := p_Letter___init__) fun _ _ _ _ _ _ us hl => match us, hl with | [_, _], _ => rfl
  have LC : Lc K CL := ⟨lc1, ⟨L.cl, lc2, lc3, lc4, lc5, if_pos (beq_self_eq_true (Value.ref CL))⟩⟩
  have F_Letter_form := fun_mk (st := s_Letter_form) l_Letter_form c_Letter_form k_Letter_form
  have D_Letter_form : Dm K CL "form" "Letter.form" s_Letter_form p_Letter_form := ⟨f_Letter_form, _, F_Letter_form, ⟨a_Letter_form, i_Letter_form, k_Letter_form⟩, F_Letter_form.binds (ps := p_Letter_form) fun _ _ _ _ _ _ us hl => match us, hl with | [_], _ => rfl⟩
  have F_Letter_written := fun_mk (st := s_Letter_written) l_Letter_written c_Letter_written k_Letter_written
  have D_Letter_written : Dm K CL "written" "Letter.written" s_Letter_written p_Letter_written := ⟨f_Letter_written, _, F_Letter_written, ⟨a_Letter_written, i_Letter_written, k_Letter_written⟩, F_Letter_written.binds (ps := p_Letter_written) fun _ _ _ _ _ _ us hl => match us, hl with | [_], _ => rfl⟩
  have F_Letter___add__ := fun_mk (st := s_Letter___add__) l_Letter___add__ c_Letter___add__ k_Letter___add__
  have D_Letter___add__ : Dm K CL "__add__" "Letter.__add__" s_Letter___add__ p_Letter___add__ := ⟨f_Letter___add__, _, F_Letter___add__, ⟨a_Letter___add__, i_Letter___add__, k_Letter___add__⟩, F_Letter___add__.binds (ps := p_Letter___add__) fun _ _ _ _ _ _ us hl => match us, hl with | [_, _], _ => rfl⟩
  have F_Letter___mul__ := fun_mk (st := s_Letter___mul__) l_Letter___mul__ c_Letter___mul__ k_Letter___mul__
  have D_Letter___mul__ : Dm K CL "__mul__" "Letter.__mul__" s_Letter___mul__ p_Letter___mul__ := ⟨f_Letter___mul__, _, F_Letter___mul__, ⟨a_Letter___mul__, i_Letter___mul__, k_Letter___mul__⟩, F_Letter___mul__.binds (ps := p_Letter___mul__) fun _ _ _ _ _ _ us hl => match us, hl with | [_, _], _ => rfl⟩
  have F_Letter___xor__ := fun_mk (st := s_Letter___xor__) l_Letter___xor__ c_Letter___xor__ k_Letter___xor__
  have D_Letter___xor__ : Dm K CL "__xor__" "Letter.__xor__" s_Letter___xor__ p_Letter___xor__ := ⟨f_Letter___xor__, _, F_Letter___xor__, ⟨a_Letter___xor__, i_Letter___xor__, k_Letter___xor__⟩, F_Letter___xor__.binds (ps := p_Letter___xor__) fun _ _ _ _ _ _ us hl => match us, hl with | [_, _], _ => rfl⟩
  have F_Letter___invert__ := fun_mk (st := s_Letter___invert__) l_Letter___invert__ c_Letter___invert__ k_Letter___invert__
  have D_Letter___invert__ : Dm K CL "__invert__" "Letter.__invert__" s_Letter___invert__ p_Letter___invert__ := ⟨f_Letter___invert__, _, F_Letter___invert__, ⟨a_Letter___invert__, i_Letter___invert__, k_Letter___invert__⟩, F_Letter___invert__.binds (ps := p_Letter___invert__) fun _ _ _ _ _ _ us hl => match us, hl with | [_], _ => rfl⟩
  have F_Letter___pos__ := fun_mk (st := s_Letter___pos__) l_Letter___pos__ c_Letter___pos__ k_Letter___pos__
  have D_Letter___pos__ : Dm K CL "__pos__" "Letter.__pos__" s_Letter___pos__ p_Letter___pos__ := ⟨f_Letter___pos__, _, F_Letter___pos__, ⟨a_Letter___pos__, i_Letter___pos__, k_Letter___pos__⟩, F_Letter___pos__.binds (ps := p_Letter___pos__) fun _ _ _ _ _ _ us hl => match us, hl with | [_], _ => rfl⟩
  have F_Letter___neg__ := fun_mk (st := s_Letter___neg__) l_Letter___neg__ c_Letter___neg__ k_Letter___neg__
  have D_Letter___neg__ : Dm K CL "__neg__" "Letter.__neg__" s_Letter___neg__ p_Letter___neg__ := ⟨f_Letter___neg__, _, F_Letter___neg__, ⟨a_Letter___neg__, i_Letter___neg__, k_Letter___neg__⟩, F_Letter___neg__.binds (ps := p_Letter___neg__) fun _ _ _ _ _ _ us hl => match us, hl with | [_], _ => rfl⟩
  have F_Letter___eq__ := fun_mk (st := s_Letter___eq__) l_Letter___eq__ c_Letter___eq__ k_Letter___eq__
  have D_Letter___eq__ : Dm K CL "__eq__" "Letter.__eq__" s_Letter___eq__ p_Letter___eq__ := ⟨f_Letter___eq__, _, F_Letter___eq__, ⟨a_Letter___eq__, i_Letter___eq__, k_Letter___eq__⟩, F_Letter___eq__.binds (ps := p_Letter___eq__) fun _ _ _ _ _ _ us hl => match us, hl with | [_, _], _ => rfl⟩
  have F_Letter___lt__ := fun_mk (st := s_Letter___lt__) l_Letter___lt__ c_Letter___lt__ k_Letter___lt__
  have D_Letter___lt__ : Dm K CL "__lt__" "Letter.__lt__" s_Letter___lt__ p_Letter___lt__ := ⟨f_Letter___lt__, _, F_Letter___lt__, ⟨a_Letter___lt__, i_Letter___lt__, k_Letter___lt__⟩, F_Letter___lt__.binds (ps := p_Letter___lt__) fun _ _ _ _ _ _ us hl => match us, hl with | [_, _], _ => rfl⟩
  have F_Letter___le__ := fun_mk (st := s_Letter___le__) l_Letter___le__ c_Letter___le__ k_Letter___le__
  have D_Letter___le__ : Dm K CL "__le__" "Letter.__le__" s_Letter___le__ p_Letter___le__ := ⟨f_Letter___le__, _, F_Letter___le__, ⟨a_Letter___le__, i_Letter___le__, k_Letter___le__⟩, F_Letter___le__.binds (ps := p_Letter___le__) fun _ _ _ _ _ _ us hl => match us, hl with | [_, _], _ => rfl⟩
  have F_Letter___gt__ := fun_mk (st := s_Letter___gt__) l_Letter___gt__ c_Letter___gt__ k_Letter___gt__
  have D_Letter___gt__ : Dm K CL "__gt__" "Letter.__gt__" s_Letter___gt__ p_Letter___gt__ := ⟨f_Letter___gt__, _, F_Letter___gt__, ⟨a_Letter___gt__, i_Letter___gt__, k_Letter___gt__⟩, F_Letter___gt__.binds (ps := p_Letter___gt__) fun _ _ _ _ _ _ us hl => match us, hl with | [_, _], _ => rfl⟩
  have F_Letter___ge__ := fun_mk (st := s_Letter___ge__) l_Letter___ge__ c_Letter___ge__ k_Letter___ge__
  have D_Letter___ge__ : Dm K CL "__ge__" "Letter.__ge__" s_Letter___ge__ p_Letter___ge__ := ⟨f_Letter___ge__, _, F_Letter___ge__, ⟨a_Letter___ge__, i_Letter___ge__, k_Letter___ge__⟩, F_Letter___ge__.binds (ps := p_Letter___ge__) fun _ _ _ _ _ _ us hl => match us, hl with | [_, _], _ => rfl⟩
  have F_BadAtom := fun_mk (st := s_BadAtom___init__) l_BadAtom c_BadAtom k_BadAtom
  have b_BadAtom := F_BadAtom.binds (ps := p_BadAtom___init__) fun _ _ _ _ _ _ us hl => match us, hl with | [_, _], _ => rfl
  have F_BadKey := fun_mk (st := s_BadKey___init__) l_BadKey c_BadKey k_BadKey
  have b_BadKey := F_BadKey.binds (ps := p_BadKey___init__) fun _ _ _ _ _ _ us hl => match us, hl with | [_, _], _ => rfl
  refine ⟨PySem.W.fnOf "law" "law" (defArgs s_law) (defBody s_law) (defScope s_law) .none kV_law dc_law pm_law an_law cd_law ct_law, fun s v => .of_eq rfl, fun base _ _ => ?_⟩
  have c1 := ca_stream (P := l.prog) (w := w) (base := base) T D_law_stream
  have c2 := ca_draw (P := l.prog) (w := w) (base := base) T D_law_draw
  have c3 := ca_pick T D_law_pick c2
  have c4 := ca_word T D_law_word c2
  have c5 := ca_name T D_law_name c2
  have c6 := ca_made_of (P := l.prog) (w := w) (base := base) T D_made_of
  have c7 := ca_is_word T D_is_word c6
  have c8 := ca_is_name T D_is_name c6
  have c9 := ca_is_unknown T D_is_unknown c6
  have c10 := ca_atom_form T D_atom_form c7 c8 c9
  have c11 := ca_atom_text (P := l.prog) (w := w) (base := base) T D_atom_text
  have c12 := ca_form_text T D_form_text c11
  have eI_BadAtom : FnOk l.prog w K mg base (L2.CX l.prog w) 1 f_BadAtom _ ["self", "text"] (spErr K "text") := fnX F_BadAtom sc_BadAtom___init__ (fun vs H Q E h => by obtain ⟨_, _, _, rfl, _⟩ := h; rfl) (BodyN.x (err_body (C := C_BadAtom) rfl sc_BadAtom___init__ (Or.inl rfl) (Or.inl rfl) (by decide) (by decide)))
  have er_BadAtom : Er l.prog w K mg base 1 "BadAtom" C_BadAtom "text" := ⟨⟨f_BadAtom, _, _, eI_BadAtom, aI_BadAtom, tI_BadAtom, b_BadAtom⟩, ⟨⟨_, _, _, _, _, _, _, _, _, _, _, _, _, _, _, xC_BadAtom, rfl⟩, sa_BadAtom, eC_BadAtom, tC_BadAtom, kC_BadAtom⟩, nb_BadAtom, PySem.W.mg_of X G aC_BadAtom, ⟨ga_BadAtom, gg_BadAtom, eC_BadAtom, hC_BadAtom⟩, PySem.W.exm_ref eC_BadAtom hC_BadAtom tC_BadAtom sC_BadAtom⟩
  have ck : Ck l.prog w K mg base 4 "Letter" CL (spInit2 CL C_BadAtom) := ⟨f_LI, _, _, ⟨mk, aLI, iLI, kc⟩, fnX F_LI sc_Letter___init__ init_len (bd_init T L c10 er_BadAtom), PySem.W.mg_of X G aCL, b_LI⟩
  have m1 := cm_form (P := l.prog) (w := w) (mg := mg) (base := base) D_Letter_form L
  have m2 := cm_written T D_Letter_written L c12
  have eI_BadKey : FnOk l.prog w K mg base (L2.CX l.prog w) 1 f_BadKey _ ["self", "key"] (spErr K "key") := fnX F_BadKey sc_BadKey___init__ (fun vs H Q E h => by obtain ⟨_, _, _, rfl, _⟩ := h; rfl) (BodyN.x (err_body (C := C_BadKey) rfl sc_BadKey___init__ (Or.inl rfl) (Or.inl rfl) (by decide) (by decide)))
  have er_BadKey : Er l.prog w K mg base 1 "BadKey" C_BadKey "key" := ⟨⟨f_BadKey, _, _, eI_BadKey, aI_BadKey, tI_BadKey, b_BadKey⟩, ⟨⟨_, _, _, _, _, _, _, _, _, _, _, _, _, _, _, xC_BadKey, rfl⟩, sa_BadKey, eC_BadKey, tC_BadKey, kC_BadKey⟩, nb_BadKey, PySem.W.mg_of X G aC_BadKey, ⟨ga_BadKey, gg_BadKey, eC_BadKey, hC_BadKey⟩, PySem.W.exm_ref eC_BadKey hC_BadKey tC_BadKey sC_BadKey⟩
  have n1 := cm_add T L LC D_Letter___add__ ck
  have n2 := cm_mul T L LC D_Letter___mul__ ck
  have n3 := cm_xor T L LC D_Letter___xor__ ck er_BadKey
  have n4 := cm_invert T L D_Letter___invert__ ck
  have n5 := cm_pos T L D_Letter___pos__ ck
  have n6 := cm_neg T L D_Letter___neg__ ck
  have d1 := ca_atom T D_law_atom c2 c3 c4 c5
  have d2 := ca_form T D_law_form c2 d1
  have d3 := ca_letter T L LC D_law_letter ck n1 n2 n3 n4 n5 n6
  have d1p := ca_atomP T D_law_atom c2 c3 c4 c5
  have d2p := ca_formP T D_law_form c2 d1p
  have lt := ca_lettered T L D_lettered ck
  have ma := ca_match T L D_match lt m1
  have lf := ca_lfilled (P := l.prog) (w := w) (base := base) T D_law_filled 8
  have pf := ca_plain T D_law_plain_forms (d2p 5)
  have md := ca_matched (P := l.prog) (w := w) (base := base) T D_law_matched 8
  have be := ca_bent T D_law_bent c2 (d2p 2) 12
  exact fn_law T L F_law c1 c2 (d2p 5) lf pf be md (d3 24) ma m1
theorem walk {l : PySem.W.OpenLaw} {q : Program} {loose : List Str} {XP : (Str → Option Value) → Heap → Prop} {YP : World → Heap → Prop} {d : DefRec} {K : Params → PySem.W.Frag} (hn : l.most = some 63) (hdf : d.params.defaults = [])
    (hY : ∀ (w : World) (h : Heap), YP w h → (K w.params).In h)
    (F : ∀ (w : World) (mg : Str → Option Value) (fa : Addr) (h : Heap), (K w.params).In h → h.Ns mainGlobals mg → mg d.name = some (.ref fa) →
      ∃ fd : FuncData, (∀ (s : Shared) (u : Value), BindsTo s fd ⟨[u], []⟩ [("_law_script", u)]) ∧ ∀ base : Heap, (K w.params).In base → base.Ns mainGlobals mg → FnOk l.prog w (K w.params) mg base (L2.CX l.prog w) 33 fa fd ["_law_script"] (spLaw (K w.params))) :
    PySem.W.WalkO q loose XP YP l.row.toRowW d [] (fun f vs => PySem.call f vs) :=
  L2.walk_of (n := 63) (k := 33) (x := "_law_script") (CX := fun w => L2.CX l.prog w) (sp := fun w => spLaw (K w.params)) hn (by decide) hdf ⟨rfl, by decide, by decide⟩ hY F (fun _ _ a ns hl _ hS => ⟨a, ns, rfl, hS, hl, fun _ => rfl⟩) fun _ _ _ _ _ z => by
    obtain ⟨_, _, _, _, _, _, _, _, _, _, _, _, y⟩ := z
    exact y
end Op
open PySem PySem.W PyProof.Rows in
set_option maxRecDepth 100000 in
set_option maxHeartbeats 0 in
theorem PySem.Challenge.cw_openroads_k10_patterns_matched_holds : PySem.Challenge.rw_openroads_k10_patterns_matched.Holds := by
  w_on; o_law; k_head; (case hw => w_witness2)
  k_fill
  refine Op.walk (l := PySem.Challenge.rw_openroads_k10_patterns_matched) rfl rfl (fun w h Y => PySem.W.kIn_of Y) ?F
  case F =>
    intro w mg fa h KX G hmg
    refine' Op.all_mk KX G hmg ?a_law_stream ?l_law_stream ?c_law_stream ?k_law_stream ?a_law_draw ?l_law_draw ?c_law_draw ?k_law_draw ?a_law_pick ?l_law_pick ?c_law_pick ?k_law_pick ?a_law_word ?l_law_word ?c_law_word ?k_law_word ?a_law_name ?l_law_name ?c_law_name ?k_law_name ?a_made_of ?l_made_of ?c_made_of ?k_made_of ?a_is_word ?l_is_word ?c_is_word ?k_is_word ?a_is_name ?l_is_name ?c_is_name ?k_is_name ?a_is_unknown ?l_is_unknown ?c_is_unknown ?k_is_unknown ?a_atom_form ?l_atom_form ?c_atom_form ?k_atom_form ?a_atom_text ?l_atom_text ?c_atom_text ?k_atom_text ?a_form_text ?l_form_text ?c_form_text ?k_form_text ?a_law_atom ?l_law_atom ?c_law_atom ?k_law_atom ?a_law_form ?l_law_form ?c_law_form ?k_law_form ?a_law_letter ?l_law_letter ?c_law_letter ?k_law_letter ?a_forms_in ?l_forms_in ?c_forms_in ?k_forms_in ?a_law_filled ?l_law_filled ?c_law_filled ?k_law_filled ?a_lettered ?l_lettered ?c_lettered ?k_lettered ?a_match ?l_match ?c_match ?k_match ?a_law_plain_forms ?l_law_plain_forms ?c_law_plain_forms ?k_law_plain_forms ?a_law_matched ?l_law_matched ?c_law_matched ?k_law_matched ?a_law_bent ?l_law_bent ?c_law_bent ?k_law_bent ?a_law ?l_law ?c_law ?k_law ?aCL ?pg ?hd ?po ?sa ?mk ?kc ?nS ?aLI ?iLI ?l_LI ?c_LI ?k_LI ?lc1 ?lc2 ?lc3 ?lc4 ?lc5 ?a_Letter_form ?i_Letter_form ?l_Letter_form ?c_Letter_form ?k_Letter_form ?a_Letter_written ?i_Letter_written ?l_Letter_written ?c_Letter_written ?k_Letter_written ?a_Letter___add__ ?i_Letter___add__ ?l_Letter___add__ ?c_Letter___add__ ?k_Letter___add__ ?a_Letter___mul__ ?i_Letter___mul__ ?l_Letter___mul__ ?c_Letter___mul__ ?k_Letter___mul__ ?a_Letter___xor__ ?i_Letter___xor__ ?l_Letter___xor__ ?c_Letter___xor__ ?k_Letter___xor__ ?a_Letter___invert__ ?i_Letter___invert__ ?l_Letter___invert__ ?c_Letter___invert__ ?k_Letter___invert__ ?a_Letter___pos__ ?i_Letter___pos__ ?l_Letter___pos__ ?c_Letter___pos__ ?k_Letter___pos__ ?a_Letter___neg__ ?i_Letter___neg__ ?l_Letter___neg__ ?c_Letter___neg__ ?k_Letter___neg__ ?a_Letter___eq__ ?i_Letter___eq__ ?l_Letter___eq__ ?c_Letter___eq__ ?k_Letter___eq__ ?a_Letter___lt__ ?i_Letter___lt__ ?l_Letter___lt__ ?c_Letter___lt__ ?k_Letter___lt__ ?a_Letter___le__ ?i_Letter___le__ ?l_Letter___le__ ?c_Letter___le__ ?k_Letter___le__ ?a_Letter___gt__ ?i_Letter___gt__ ?l_Letter___gt__ ?c_Letter___gt__ ?k_Letter___gt__ ?a_Letter___ge__ ?i_Letter___ge__ ?l_Letter___ge__ ?c_Letter___ge__ ?k_Letter___ge__ ?aC_BadAtom ?xC_BadAtom ?sa_BadAtom ?ga_BadAtom ?gg_BadAtom ?kC_BadAtom ?eC_BadAtom ?tC_BadAtom ?hC_BadAtom ?iC_BadAtom ?sC_BadAtom ?nb_BadAtom ?aI_BadAtom ?tI_BadAtom ?l_BadAtom ?c_BadAtom ?k_BadAtom ?aC_BadKey ?xC_BadKey ?sa_BadKey ?ga_BadKey ?gg_BadKey ?kC_BadKey ?eC_BadKey ?tC_BadKey ?hC_BadKey ?iC_BadKey ?sC_BadKey ?nb_BadKey ?aI_BadKey ?tI_BadKey ?l_BadKey ?c_BadKey ?k_BadKey ?z_abs ?z_all ?z_dict ?z_int ?z_isinstance ?z_len ?z_list ?z_max ?z_range ?z_str ?z_tuple ?z_zip ?s_c_SMALL ?s_c_CAPITALS ?s_c_DIGITS ?s_c_ATOMS ?l_c_ATOMS ?s_c_KEYS ?l_c_KEYS
    (case a_law_stream => k_is)
    (case l_law_stream => k_is)
    (case c_law_stream => k_is)
    (case k_law_stream => k_is)
    (case a_law_draw => k_is)
    (case l_law_draw => k_is)
    (case c_law_draw => k_is)
    (case k_law_draw => k_is)
    (case a_law_pick => k_is)
    (case l_law_pick => k_is)
    (case c_law_pick => k_is)
    (case k_law_pick => k_is)
    (case a_law_word => k_is)
    (case l_law_word => k_is)
    (case c_law_word => k_is)
    (case k_law_word => k_is)
    (case a_law_name => k_is)
    (case l_law_name => k_is)
    (case c_law_name => k_is)
    (case k_law_name => k_is)
    (case a_made_of => k_is)
    (case l_made_of => k_is)
    (case c_made_of => k_is)
    (case k_made_of => k_is)
    (case a_is_word => k_is)
    (case l_is_word => k_is)
    (case c_is_word => k_is)
    (case k_is_word => k_is)
    (case a_is_name => k_is)
    (case l_is_name => k_is)
    (case c_is_name => k_is)
    (case k_is_name => k_is)
    (case a_is_unknown => k_is)
    (case l_is_unknown => k_is)
    (case c_is_unknown => k_is)
    (case k_is_unknown => k_is)
    (case a_atom_form => k_is)
    (case l_atom_form => k_is)
    (case c_atom_form => k_is)
    (case k_atom_form => k_is)
    (case a_atom_text => k_is)
    (case l_atom_text => k_is)
    (case c_atom_text => k_is)
    (case k_atom_text => k_is)
    (case a_form_text => k_is)
    (case l_form_text => k_is)
    (case c_form_text => k_is)
    (case k_form_text => k_is)
    (case a_law_atom => k_is)
    (case l_law_atom => k_is)
    (case c_law_atom => k_is)
    (case k_law_atom => k_is)
    (case a_law_form => k_is)
    (case l_law_form => k_is)
    (case c_law_form => k_is)
    (case k_law_form => k_is)
    (case a_law_letter => k_is)
    (case l_law_letter => k_is)
    (case c_law_letter => k_is)
    (case k_law_letter => k_is)
    (case a_forms_in => k_is)
    (case l_forms_in => k_is)
    (case c_forms_in => k_is)
    (case k_forms_in => k_is)
    (case a_law_filled => k_is)
    (case l_law_filled => k_is)
    (case c_law_filled => k_is)
    (case k_law_filled => k_is)
    (case a_lettered => k_is)
    (case l_lettered => k_is)
    (case c_lettered => k_is)
    (case k_lettered => k_is)
    (case a_match => k_is)
    (case l_match => k_is)
    (case c_match => k_is)
    (case k_match => k_is)
    (case a_law_plain_forms => k_is)
    (case l_law_plain_forms => k_is)
    (case c_law_plain_forms => k_is)
    (case k_law_plain_forms => k_is)
    (case a_law_matched => k_is)
    (case l_law_matched => k_is)
    (case c_law_matched => k_is)
    (case k_law_matched => k_is)
    (case a_law_bent => k_is)
    (case l_law_bent => k_is)
    (case c_law_bent => k_is)
    (case k_law_bent => k_is)
    (case a_law => k_is)
    (case l_law => k_is)
    (case c_law => k_is)
    (case k_law => k_is)
    (case aCL => k_is)
    (case pg => k_is)
    (case hd => k_is)
    (case po => k_is)
    (case sa => k_is)
    (case mk => k_is)
    (case kc => k_is)
    (case nS => k_is)
    (case aLI => k_is)
    (case iLI => k_is)
    (case l_LI => k_is)
    (case c_LI => k_is)
    (case k_LI => k_is)
    (case lc1 => k_is)
    (case lc2 => k_is)
    (case lc3 => k_is)
    (case lc4 => k_is)
    (case lc5 => k_is)
    (case a_Letter_form => k_is)
    (case i_Letter_form => k_is)
    (case l_Letter_form => k_is)
    (case c_Letter_form => k_is)
    (case k_Letter_form => k_is)
    (case a_Letter_written => k_is)
    (case i_Letter_written => k_is)
    (case l_Letter_written => k_is)
    (case c_Letter_written => k_is)
    (case k_Letter_written => k_is)
    (case a_Letter___add__ => k_is)
    (case i_Letter___add__ => k_is)
    (case l_Letter___add__ => k_is)
    (case c_Letter___add__ => k_is)
    (case k_Letter___add__ => k_is)
    (case a_Letter___mul__ => k_is)
    (case i_Letter___mul__ => k_is)
    (case l_Letter___mul__ => k_is)
    (case c_Letter___mul__ => k_is)
    (case k_Letter___mul__ => k_is)
    (case a_Letter___xor__ => k_is)
    (case i_Letter___xor__ => k_is)
    (case l_Letter___xor__ => k_is)
    (case c_Letter___xor__ => k_is)
    (case k_Letter___xor__ => k_is)
    (case a_Letter___invert__ => k_is)
    (case i_Letter___invert__ => k_is)
    (case l_Letter___invert__ => k_is)
    (case c_Letter___invert__ => k_is)
    (case k_Letter___invert__ => k_is)
    (case a_Letter___pos__ => k_is)
    (case i_Letter___pos__ => k_is)
    (case l_Letter___pos__ => k_is)
    (case c_Letter___pos__ => k_is)
    (case k_Letter___pos__ => k_is)
    (case a_Letter___neg__ => k_is)
    (case i_Letter___neg__ => k_is)
    (case l_Letter___neg__ => k_is)
    (case c_Letter___neg__ => k_is)
    (case k_Letter___neg__ => k_is)
    (case a_Letter___eq__ => k_is)
    (case i_Letter___eq__ => k_is)
    (case l_Letter___eq__ => k_is)
    (case c_Letter___eq__ => k_is)
    (case k_Letter___eq__ => k_is)
    (case a_Letter___lt__ => k_is)
    (case i_Letter___lt__ => k_is)
    (case l_Letter___lt__ => k_is)
    (case c_Letter___lt__ => k_is)
    (case k_Letter___lt__ => k_is)
    (case a_Letter___le__ => k_is)
    (case i_Letter___le__ => k_is)
    (case l_Letter___le__ => k_is)
    (case c_Letter___le__ => k_is)
    (case k_Letter___le__ => k_is)
    (case a_Letter___gt__ => k_is)
    (case i_Letter___gt__ => k_is)
    (case l_Letter___gt__ => k_is)
    (case c_Letter___gt__ => k_is)
    (case k_Letter___gt__ => k_is)
    (case a_Letter___ge__ => k_is)
    (case i_Letter___ge__ => k_is)
    (case l_Letter___ge__ => k_is)
    (case c_Letter___ge__ => k_is)
    (case k_Letter___ge__ => k_is)
    (case aC_BadAtom => k_is)
    (case xC_BadAtom => k_is)
    (case sa_BadAtom => k_is)
    (case ga_BadAtom => k_is)
    (case gg_BadAtom => k_is)
    (case kC_BadAtom => k_is)
    (case eC_BadAtom => k_is)
    (case tC_BadAtom => k_is)
    (case hC_BadAtom => k_is)
    (case iC_BadAtom => k_is)
    (case sC_BadAtom => k_is)
    (case nb_BadAtom => k_is)
    (case aI_BadAtom => k_is)
    (case tI_BadAtom => k_is)
    (case l_BadAtom => k_is)
    (case c_BadAtom => k_is)
    (case k_BadAtom => k_is)
    (case aC_BadKey => k_is)
    (case xC_BadKey => k_is)
    (case sa_BadKey => k_is)
    (case ga_BadKey => k_is)
    (case gg_BadKey => k_is)
    (case kC_BadKey => k_is)
    (case eC_BadKey => k_is)
    (case tC_BadKey => k_is)
    (case hC_BadKey => k_is)
    (case iC_BadKey => k_is)
    (case sC_BadKey => k_is)
    (case nb_BadKey => k_is)
    (case aI_BadKey => k_is)
    (case tI_BadKey => k_is)
    (case l_BadKey => k_is)
    (case c_BadKey => k_is)
    (case k_BadKey => k_is)
    (case z_abs => k_is)
    (case z_all => k_is)
    (case z_dict => k_is)
    (case z_int => k_is)
    (case z_isinstance => k_is)
    (case z_len => k_is)
    (case z_list => k_is)
    (case z_max => k_is)
    (case z_range => k_is)
    (case z_str => k_is)
    (case z_tuple => k_is)
    (case z_zip => k_is)
    (case s_c_SMALL => k_is)
    (case s_c_CAPITALS => k_is)
    (case s_c_DIGITS => k_is)
    (case s_c_ATOMS => k_is)
    (case l_c_ATOMS => k_is)
    (case s_c_KEYS => k_is)
    (case l_c_KEYS => k_is)
