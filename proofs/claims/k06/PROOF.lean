import PyProof.Rows.All
import Wide.All
import OpenK.AllK
import Wide.FinOn
import HandS.ForMost
import HandS.ForExc
import HandS.ExcInit
import HandS.ExcField
import HandS.IsInst
import HandS.ExcIs
import HandS.HotCalls
import HandS.StrMore
import HandS.Codes
import HandS.Wide
import HandS.Evl
import HandS.TupLe
import HandS.TupAny
import HandS.ClsMeth
import HandS.ReplaceLit
import HandS.ReplaceDef
import HandS.ReplaceList
import HandS.Strs
import HandS.Set
import HandS.SetFor
import PyProof.Rows.SortShellAny
import PySem.Challenge.RW_openroads_k06_parts_of_letters
set_option Elab.async false
set_option linter.all false
set_option maxRecDepth 100000
set_option maxHeartbeats 4000000
namespace Op
open PySem PySem.Spec PyProof.Rows L2
def top (i : Nat) : Stmt := PySem.Challenge.pw_openroads_k06_parts_of_letters.main.body.getD i (.Pass ⟨0, 0, 0, 0⟩)
abbrev s_law_stream : Stmt := (top 33)
abbrev N_law_stream : List Str := ["_law_script", "_law_k", "_law_cell"]
abbrev p_law_stream : List Str := ["_law_script", "_law_k"]
theorem sc_law_stream : FnScope N_law_stream p_law_stream (defScope s_law_stream) := ⟨rfl, rfl, rfl, by decide +kernel, rfl, by decide +kernel, by decide +kernel⟩
abbrev s_law_draw : Stmt := (top 34)
abbrev N_law_draw : List Str := ["_law_stream_here", "_law_many", "_law_digit", "_law_spread"]
abbrev p_law_draw : List Str := ["_law_stream_here", "_law_many"]
theorem sc_law_draw : FnScope N_law_draw p_law_draw (defScope s_law_draw) := ⟨rfl, rfl, rfl, by decide +kernel, rfl, by decide +kernel, by decide +kernel⟩
abbrev s_law_pick : Stmt := (top 35)
abbrev N_law_pick : List Str := ["_law_stream_here", "_law_things"]
abbrev p_law_pick : List Str := ["_law_stream_here", "_law_things"]
theorem sc_law_pick : FnScope N_law_pick p_law_pick (defScope s_law_pick) := ⟨rfl, rfl, rfl, by decide +kernel, rfl, by decide +kernel, by decide +kernel⟩
abbrev s_law_word : Stmt := (top 36)
abbrev N_law_word : List Str := ["_law_stream_here", "_law_size", "_law_k"]
abbrev p_law_word : List Str := ["_law_stream_here"]
theorem sc_law_word : FnScope N_law_word p_law_word (defScope s_law_word) := ⟨rfl, rfl, rfl, by decide +kernel, rfl, by decide +kernel, by decide +kernel⟩
abbrev s_law_name : Stmt := (top 37)
abbrev N_law_name : List Str := ["_law_stream_here", "_law_size", "_law_many", "_law_letters", "_law_k"]
abbrev p_law_name : List Str := ["_law_stream_here"]
theorem sc_law_name : FnScope N_law_name p_law_name (defScope s_law_name) := ⟨rfl, rfl, rfl, by decide +kernel, rfl, by decide +kernel, by decide +kernel⟩
abbrev s_made_of : Stmt := (top 6)
abbrev N_made_of : List Str := ["text", "signs", "sign"]
abbrev p_made_of : List Str := ["text", "signs"]
theorem sc_made_of : FnScope N_made_of p_made_of (defScope s_made_of) := ⟨rfl, rfl, rfl, by decide +kernel, rfl, by decide +kernel, by decide +kernel⟩
abbrev s_is_word : Stmt := (top 7)
abbrev N_is_word : List Str := ["text"]
abbrev p_is_word : List Str := ["text"]
theorem sc_is_word : FnScope N_is_word p_is_word (defScope s_is_word) := ⟨rfl, rfl, rfl, by decide +kernel, rfl, by decide +kernel, by decide +kernel⟩
abbrev s_is_name : Stmt := (top 8)
abbrev N_is_name : List Str := ["text", "capitals"]
abbrev p_is_name : List Str := ["text"]
theorem sc_is_name : FnScope N_is_name p_is_name (defScope s_is_name) := ⟨rfl, rfl, rfl, by decide +kernel, rfl, by decide +kernel, by decide +kernel⟩
abbrev s_is_unknown : Stmt := (top 9)
abbrev N_is_unknown : List Str := ["text"]
abbrev p_is_unknown : List Str := ["text"]
theorem sc_is_unknown : FnScope N_is_unknown p_is_unknown (defScope s_is_unknown) := ⟨rfl, rfl, rfl, by decide +kernel, rfl, by decide +kernel, by decide +kernel⟩
abbrev s_atom_form : Stmt := (top 11)
abbrev N_atom_form : List Str := ["text"]
abbrev p_atom_form : List Str := ["text"]
theorem sc_atom_form : FnScope N_atom_form p_atom_form (defScope s_atom_form) := ⟨rfl, rfl, rfl, by decide +kernel, rfl, by decide +kernel, by decide +kernel⟩
abbrev s_atom_text : Stmt := (top 12)
abbrev N_atom_text : List Str := ["form"]
abbrev p_atom_text : List Str := ["form"]
theorem sc_atom_text : FnScope N_atom_text p_atom_text (defScope s_atom_text) := ⟨rfl, rfl, rfl, by decide +kernel, rfl, by decide +kernel, by decide +kernel⟩
abbrev s_form_text : Stmt := (top 27)
abbrev N_form_text : List Str := ["form", "pieces", "left", "part"]
abbrev p_form_text : List Str := ["form"]
theorem sc_form_text : FnScope N_form_text p_form_text (defScope s_form_text) := ⟨rfl, rfl, rfl, by decide +kernel, rfl, by decide +kernel, by decide +kernel⟩
abbrev s_Letter___init__ : Stmt := (inClass (top 31) 0)
abbrev N_Letter___init__ : List Str := ["self", "atom", "shape"]
abbrev p_Letter___init__ : List Str := ["self", "atom"]
theorem sc_Letter___init__ : FnScope N_Letter___init__ p_Letter___init__ (defScope s_Letter___init__) := ⟨rfl, rfl, rfl, by decide +kernel, rfl, by decide +kernel, by decide +kernel⟩
abbrev s_Letter_form : Stmt := (inClass (top 31) 3)
abbrev N_Letter_form : List Str := ["self"]
abbrev p_Letter_form : List Str := ["self"]
theorem sc_Letter_form : FnScope N_Letter_form p_Letter_form (defScope s_Letter_form) := ⟨rfl, rfl, rfl, by decide +kernel, rfl, by decide +kernel, by decide +kernel⟩
abbrev s_Letter_written : Stmt := (inClass (top 31) 4)
abbrev N_Letter_written : List Str := ["self"]
abbrev p_Letter_written : List Str := ["self"]
theorem sc_Letter_written : FnScope N_Letter_written p_Letter_written (defScope s_Letter_written) := ⟨rfl, rfl, rfl, by decide +kernel, rfl, by decide +kernel, by decide +kernel⟩
abbrev s_Letter___add__ : Stmt := (inClass (top 31) 8)
abbrev N_Letter___add__ : List Str := ["self", "other"]
abbrev p_Letter___add__ : List Str := ["self", "other"]
theorem sc_Letter___add__ : FnScope N_Letter___add__ p_Letter___add__ (defScope s_Letter___add__) := ⟨rfl, rfl, rfl, by decide +kernel, rfl, by decide +kernel, by decide +kernel⟩
abbrev s_Letter___mul__ : Stmt := (inClass (top 31) 9)
abbrev N_Letter___mul__ : List Str := ["self", "other"]
abbrev p_Letter___mul__ : List Str := ["self", "other"]
theorem sc_Letter___mul__ : FnScope N_Letter___mul__ p_Letter___mul__ (defScope s_Letter___mul__) := ⟨rfl, rfl, rfl, by decide +kernel, rfl, by decide +kernel, by decide +kernel⟩
abbrev s_Letter___xor__ : Stmt := (inClass (top 31) 10)
abbrev N_Letter___xor__ : List Str := ["self", "other"]
abbrev p_Letter___xor__ : List Str := ["self", "other"]
theorem sc_Letter___xor__ : FnScope N_Letter___xor__ p_Letter___xor__ (defScope s_Letter___xor__) := ⟨rfl, rfl, rfl, by decide +kernel, rfl, by decide +kernel, by decide +kernel⟩
abbrev s_Letter___invert__ : Stmt := (inClass (top 31) 11)
abbrev N_Letter___invert__ : List Str := ["self"]
abbrev p_Letter___invert__ : List Str := ["self"]
theorem sc_Letter___invert__ : FnScope N_Letter___invert__ p_Letter___invert__ (defScope s_Letter___invert__) := ⟨rfl, rfl, rfl, by decide +kernel, rfl, by decide +kernel, by decide +kernel⟩
abbrev s_Letter___pos__ : Stmt := (inClass (top 31) 12)
abbrev N_Letter___pos__ : List Str := ["self"]
abbrev p_Letter___pos__ : List Str := ["self"]
theorem sc_Letter___pos__ : FnScope N_Letter___pos__ p_Letter___pos__ (defScope s_Letter___pos__) := ⟨rfl, rfl, rfl, by decide +kernel, rfl, by decide +kernel, by decide +kernel⟩
abbrev s_Letter___neg__ : Stmt := (inClass (top 31) 13)
abbrev N_Letter___neg__ : List Str := ["self"]
abbrev p_Letter___neg__ : List Str := ["self"]
theorem sc_Letter___neg__ : FnScope N_Letter___neg__ p_Letter___neg__ (defScope s_Letter___neg__) := ⟨rfl, rfl, rfl, by decide +kernel, rfl, by decide +kernel, by decide +kernel⟩
abbrev s_law_atom : Stmt := (top 38)
abbrev N_law_atom : List Str := ["_law_stream_here", "_law_unknowns", "_law_way"]
abbrev p_law_atom : List Str := ["_law_stream_here", "_law_unknowns"]
theorem sc_law_atom : FnScope N_law_atom p_law_atom (defScope s_law_atom) := ⟨rfl, rfl, rfl, by decide +kernel, rfl, by decide +kernel, by decide +kernel⟩
abbrev s_law_form : Stmt := (top 39)
abbrev N_law_form : List Str := ["_law_stream_here", "_law_unknowns", "_law_deep", "_law_way", "_law_one", "_law_other"]
abbrev p_law_form : List Str := ["_law_stream_here", "_law_unknowns", "_law_deep"]
theorem sc_law_form : FnScope N_law_form p_law_form (defScope s_law_form) := ⟨rfl, rfl, rfl, by decide +kernel, rfl, by decide +kernel, by decide +kernel⟩
abbrev s_law_letter : Stmt := (top 40)
abbrev N_law_letter : List Str := ["_law_form_here", "_law_inner", "_law_part"]
abbrev p_law_letter : List Str := ["_law_form_here"]
theorem sc_law_letter : FnScope N_law_letter p_law_letter (defScope s_law_letter) := ⟨rfl, rfl, rfl, by decide +kernel, rfl, by decide +kernel, by decide +kernel⟩
abbrev s_Letter___eq__ : Stmt := (inClass (top 31) 14)
abbrev N_Letter___eq__ : List Str := ["self", "other"]
abbrev p_Letter___eq__ : List Str := ["self", "other"]
theorem sc_Letter___eq__ : FnScope N_Letter___eq__ p_Letter___eq__ (defScope s_Letter___eq__) := ⟨rfl, rfl, rfl, by decide +kernel, rfl, by decide +kernel, by decide +kernel⟩
abbrev s_Letter___lt__ : Stmt := (inClass (top 31) 15)
abbrev N_Letter___lt__ : List Str := ["self", "other"]
abbrev p_Letter___lt__ : List Str := ["self", "other"]
theorem sc_Letter___lt__ : FnScope N_Letter___lt__ p_Letter___lt__ (defScope s_Letter___lt__) := ⟨rfl, rfl, rfl, by decide +kernel, rfl, by decide +kernel, by decide +kernel⟩
abbrev s_Letter___le__ : Stmt := (inClass (top 31) 16)
abbrev N_Letter___le__ : List Str := ["self", "other"]
abbrev p_Letter___le__ : List Str := ["self", "other"]
theorem sc_Letter___le__ : FnScope N_Letter___le__ p_Letter___le__ (defScope s_Letter___le__) := ⟨rfl, rfl, rfl, by decide +kernel, rfl, by decide +kernel, by decide +kernel⟩
abbrev s_Letter___gt__ : Stmt := (inClass (top 31) 17)
abbrev N_Letter___gt__ : List Str := ["self", "other"]
abbrev p_Letter___gt__ : List Str := ["self", "other"]
theorem sc_Letter___gt__ : FnScope N_Letter___gt__ p_Letter___gt__ (defScope s_Letter___gt__) := ⟨rfl, rfl, rfl, by decide +kernel, rfl, by decide +kernel, by decide +kernel⟩
abbrev s_Letter___ge__ : Stmt := (inClass (top 31) 18)
abbrev N_Letter___ge__ : List Str := ["self", "other"]
abbrev p_Letter___ge__ : List Str := ["self", "other"]
theorem sc_Letter___ge__ : FnScope N_Letter___ge__ p_Letter___ge__ (defScope s_Letter___ge__) := ⟨rfl, rfl, rfl, by decide +kernel, rfl, by decide +kernel, by decide +kernel⟩
abbrev s_is_atom : Stmt := (top 10)
abbrev N_is_atom : List Str := ["kind", "text"]
abbrev p_is_atom : List Str := ["kind", "text"]
theorem sc_is_atom : FnScope N_is_atom p_is_atom (defScope s_is_atom) := ⟨rfl, rfl, rfl, by decide +kernel, rfl, by decide +kernel, by decide +kernel⟩
abbrev s_stands_alone : Stmt := (top 22)
abbrev N_stands_alone : List Str := ["part", "kind"]
abbrev p_stands_alone : List Str := ["part"]
theorem sc_stands_alone : FnScope N_stands_alone p_stands_alone (defScope s_stands_alone) := ⟨rfl, rfl, rfl, by decide +kernel, rfl, by decide +kernel, by decide +kernel⟩
abbrev s_first_fault : Stmt := (top 23)
abbrev N_first_fault : List Str := ["thing", "left", "path", "part", "is_behind", "at"]
abbrev p_first_fault : List Str := ["thing"]
theorem sc_first_fault : FnScope N_first_fault p_first_fault (defScope s_first_fault) := ⟨rfl, rfl, rfl, by decide +kernel, rfl, by decide +kernel, by decide +kernel⟩
abbrev s_forms_in : Stmt := (top 24)
abbrev N_forms_in : List Str := ["form", "found", "left", "part"]
abbrev p_forms_in : List Str := ["form"]
theorem sc_forms_in : FnScope N_forms_in p_forms_in (defScope s_forms_in) := ⟨rfl, rfl, rfl, by decide +kernel, rfl, by decide +kernel, by decide +kernel⟩
abbrev s_law_parts : Stmt := (top 41)
abbrev N_law_parts : List Str := ["_law_form_here", "_law_found", "_law_part"]
abbrev p_law_parts : List Str := ["_law_form_here"]
theorem sc_law_parts : FnScope N_law_parts p_law_parts (defScope s_law_parts) := ⟨rfl, rfl, rfl, by decide +kernel, rfl, by decide +kernel, by decide +kernel⟩
abbrev s_Letter_unknowns : Stmt := (inClass (top 31) 5)
abbrev N_Letter_unknowns : List Str := ["self", "part"]
abbrev p_Letter_unknowns : List Str := ["self"]
theorem sc_Letter_unknowns : FnScope N_Letter_unknowns p_Letter_unknowns (defScope s_Letter_unknowns) := ⟨rfl, rfl, rfl, by decide +kernel, rfl, by decide +kernel, by decide +kernel⟩
abbrev s_Letter_names : Stmt := (inClass (top 31) 6)
abbrev N_Letter_names : List Str := ["self", "part"]
abbrev p_Letter_names : List Str := ["self"]
theorem sc_Letter_names : FnScope N_Letter_names p_Letter_names (defScope s_Letter_names) := ⟨rfl, rfl, rfl, by decide +kernel, rfl, by decide +kernel, by decide +kernel⟩
abbrev s_Letter___contains__ : Stmt := (inClass (top 31) 19)
abbrev N_Letter___contains__ : List Str := ["self", "x"]
abbrev p_Letter___contains__ : List Str := ["self", "x"]
theorem sc_Letter___contains__ : FnScope N_Letter___contains__ p_Letter___contains__ (defScope s_Letter___contains__) := ⟨rfl, rfl, rfl, by decide +kernel, rfl, by decide +kernel, by decide +kernel⟩
abbrev s_Letter___len__ : Stmt := (inClass (top 31) 20)
abbrev N_Letter___len__ : List Str := ["self"]
abbrev p_Letter___len__ : List Str := ["self"]
theorem sc_Letter___len__ : FnScope N_Letter___len__ p_Letter___len__ (defScope s_Letter___len__) := ⟨rfl, rfl, rfl, by decide +kernel, rfl, by decide +kernel, by decide +kernel⟩
abbrev s_law_atoms : Stmt := (top 42)
abbrev N_law_atoms : List Str := ["_law_form_here", "_law_kind", "_law_part"]
abbrev p_law_atoms : List Str := ["_law_form_here", "_law_kind"]
theorem sc_law_atoms : FnScope N_law_atoms p_law_atoms (defScope s_law_atoms) := ⟨rfl, rfl, rfl, by decide +kernel, rfl, by decide +kernel, by decide +kernel⟩
abbrev s_BadAtom___init__ : Stmt := (inClass (top 15) 0)
abbrev N_BadAtom___init__ : List Str := ["self", "text"]
abbrev p_BadAtom___init__ : List Str := ["self", "text"]
theorem sc_BadAtom___init__ : FnScope N_BadAtom___init__ p_BadAtom___init__ (defScope s_BadAtom___init__) := ⟨rfl, rfl, rfl, by decide +kernel, rfl, by decide +kernel, by decide +kernel⟩
abbrev s_BadKey___init__ : Stmt := (inClass (top 17) 0)
abbrev N_BadKey___init__ : List Str := ["self", "key"]
abbrev p_BadKey___init__ : List Str := ["self", "key"]
theorem sc_BadKey___init__ : FnScope N_BadKey___init__ p_BadKey___init__ (defScope s_BadKey___init__) := ⟨rfl, rfl, rfl, by decide +kernel, rfl, by decide +kernel, by decide +kernel⟩
abbrev s_law : Stmt := (top 43)
abbrev N_law : List Str := ["_law_script", "_law_k", "_law_stream_here", "_law_form_here", "_law_letter_here", "_law_parts_here", "_law_others", "_law_turn", "_law_part", "_law_other", "_law_unknowns", "_law_names"]
abbrev p_law : List Str := ["_law_script"]
theorem sc_law : FnScope N_law p_law (defScope s_law) := ⟨rfl, rfl, rfl, by decide +kernel, rfl, by decide +kernel, by decide +kernel⟩
/-- what the top leaves of the built-in names and of its constants -/
structure Bl (K : PySem.W.Frag) (mg : Str → Option Value) : Prop where
  b_abs : mg "abs" = none
  b_all : mg "all" = none
  b_any : mg "any" = none
  b_int : mg "int" = none
  b_isinstance : mg "isinstance" = none
  b_len : mg "len" = none
  b_max : mg "max" = none
  b_range : mg "range" = none
  b_set : mg "set" = none
  b_sorted : mg "sorted" = none
  b_str : mg "str" = none
  b_tuple : mg "tuple" = none
  c_SMALL : ∃ u, mg "SMALL" = some u ∧ RelV (.str "abcdefghijklmnopqrstuvwxyz") u
  c_CAPITALS : ∃ u, mg "CAPITALS" = some u ∧ RelV (.str "ABCDEFGHIJKLMNOPQRSTUVWXYZ") u
  c_DIGITS : ∃ u, mg "DIGITS" = some u ∧ RelV (.str "0123456789") u
  t_ATOMS : ∃ a, mg "ATOMS" = some (.ref a) ∧ ∀ H : Hp, SqT K H a [.str "word", .str "name", .str "unknown"]
  t_KEYS : ∃ a, mg "KEYS" = some (.ref a) ∧ ∀ H : Hp, SqT K H a [.str "open", .str "own"]
end Op
namespace Op
open PySem PySem.Spec PyProof.Rows L2
/-! ## defs of the module, and how they are called -/
/-- a def of the module, under its name -/
structure Df (K : PySem.W.Frag) (mg : Str → Option Value) (x : Str) (st : Stmt) (ps : List Str) : Prop where
  ex : ∃ (f : Addr) (fd : FuncData), Fun K x x st f fd ∧ mg x = some (.ref f) ∧ Binds K fd ps []
/-- a method of the class at C -/
structure Dm (K : PySem.W.Frag) (C : Addr) (m qual : Str) (st : Stmt) (ps : List Str) : Prop where
  ex : ∃ (f : Addr) (fd : FuncData), Fun K m qual st f fd ∧ Meth K C m f ∧ Binds K fd ps []
/-- a def that keeps sp -/
structure Ca (P : Program) (w : World) (K : PySem.W.Frag) (mg : Str → Option Value) (base : Heap) (k : Nat) (x : Str) (sp : Sp) : Prop where
  ex : ∃ (f : Addr) (fd : FuncData) (ps : List Str), FnOk P w K mg base (L2.CX P w) k f fd ps sp ∧ mg x = some (.ref f) ∧ PySem.W.keepIn K (.ref f) = true ∧ Binds K fd ps []
structure Cm (P : Program) (w : World) (K : PySem.W.Frag) (mg : Str → Option Value) (base : Heap) (k : Nat) (C : Addr) (m : Str) (sp : Sp) : Prop where
  ex : ∃ (f : Addr) (fd : FuncData) (ps : List Str), FnOk P w K mg base (L2.CX P w) k f fd ps sp ∧ Meth K C m f ∧ Binds K fd ps []
section
variable {P : Program} {w : World} {K : PySem.W.Frag} {mg : Str → Option Value} {base : Heap}
/-- the body of a def that raises nothing -/
abbrev BodyN (P : Program) (w : World) (K : PySem.W.Frag) (mg : Str → Option Value) (base : Heap) (N : List Str) (qual : Str) (st : Stmt) (k : Nat) (sp : Sp) : Prop :=
  ∀ (f : Addr) (cdv : Value) (A : Around) (outer : List Env) (s : Shared) (H : Hp) (vs : List V) (Q : VK) (E : XK), Room k (A.deeper (envOfC qual (defScope st) s.heap.objs.size f cdv)) → sp vs H Q E →
      ∃ t, PSs (cxOf (L2.CX P w) P w K mg base N qual (defScope st) f cdv A outer s H E).nox (defBody st) t ∧ t { nx := fun _ H' => Q .non H', rt := Q } (start N vs) H
/-- .. of one that may raise -/
abbrev BodyX (P : Program) (w : World) (K : PySem.W.Frag) (mg : Str → Option Value) (base : Heap) (N : List Str) (qual : Str) (st : Stmt) (k : Nat) (sp : Sp) : Prop :=
  ∀ (f : Addr) (cdv : Value) (A : Around) (outer : List Env) (s : Shared) (H : Hp) (vs : List V) (Q : VK) (E : XK), Room k (A.deeper (envOfC qual (defScope st) s.heap.objs.size f cdv)) → sp vs H Q E →
      ∃ t, PSs (cxOf (L2.CX P w) P w K mg base N qual (defScope st) f cdv A outer s H E) (defBody st) t ∧ t { nx := fun _ H' => Q .non H', rt := Q } (start N vs) H
theorem fnX {x qual : Str} {st : Stmt} {f : Addr} {fd : FuncData} {N ps : List Str} {k : Nat} {sp : Sp} (F : Fun K x qual st f fd) (S : FnScope N ps (defScope st)) (len : ∀ vs H Q E, sp vs H Q E → vs.length = ps.length)
    (hb : BodyX P w K mg base N qual st k sp) : FnOk P w K mg base (L2.CX P w) (k + 1) f fd ps sp := by
  obtain ⟨oc, od, kV, doc, pm, an, cdv, ct, osl, rfl, lk, hcd⟩ := F.ex
  exact fn_of lk hcd S len fun A outer s H vs Q E hr hsp => hb f cdv A outer s H vs Q E hr hsp
theorem BodyN.x {N : List Str} {qual : Str} {st : Stmt} {k : Nat} {sp : Sp} (h : BodyN P w K mg base N qual st k sp) : BodyX P w K mg base N qual st k sp := fun f cdv A outer s H vs Q E hr hsp => by
  obtain ⟨t, p, q⟩ := h f cdv A outer s H vs Q E hr hsp
  exact ⟨t, p.nox, q⟩
theorem ca_x {x : Str} {st : Stmt} {N ps : List Str} {k : Nat} {sp : Sp} (D : Df K mg x st ps) (S : FnScope N ps (defScope st)) (len : ∀ vs H Q E, sp vs H Q E → vs.length = ps.length)
    (hb : BodyX P w K mg base N x st k sp) : Ca P w K mg base (k + 1) x sp := by
  obtain ⟨f, fd, F, hm, b⟩ := D.ex
  exact ⟨f, fd, ps, fnX F S len hb, hm, F.kp, b⟩
theorem ca_n {x : Str} {st : Stmt} {N ps : List Str} {k : Nat} {sp : Sp} (D : Df K mg x st ps) (S : FnScope N ps (defScope st)) (len : ∀ vs H Q E, sp vs H Q E → vs.length = ps.length)
    (hb : BodyN P w K mg base N x st k sp) : Ca P w K mg base (k + 1) x sp := ca_x D S len hb.x
theorem cm_x {C : Addr} {m qual : Str} {st : Stmt} {N ps : List Str} {k : Nat} {sp : Sp} (D : Dm K C m qual st ps) (S : FnScope N ps (defScope st)) (len : ∀ vs H Q E, sp vs H Q E → vs.length = ps.length)
    (hb : BodyX P w K mg base N qual st k sp) : Cm P w K mg base (k + 1) C m sp := by
  obtain ⟨f, fd, F, hm, b⟩ := D.ex
  exact ⟨f, fd, ps, fnX F S len hb, hm, b⟩
theorem cm_n {C : Addr} {m qual : Str} {st : Stmt} {N ps : List Str} {k : Nat} {sp : Sp} (D : Dm K C m qual st ps) (S : FnScope N ps (defScope st)) (len : ∀ vs H Q E, sp vs H Q E → vs.length = ps.length)
    (hb : BodyN P w K mg base N qual st k sp) : Cm P w K mg base (k + 1) C m sp := cm_x D S len hb.x
end
section
variable {X : Cx} {k j : Nat} {C : Addr} {x m : Str} {sp : Sp} {p pos apos : Pos} {e o : Expr} {es : List Expr} {ta : TE} {t : TA}
/-- f(..), nothing raised -/
def tCa (sp : Sp) (t : TA) : TE := fun σ H Q => t σ H fun vs H1 => sp vs H1 Q E0
theorem pe_ca (c : Ca X.prog X.w X.K X.mg X.base k x sp) (hr : Room j X.A) (hk : k ≤ j) (hg : Gl X x) (ha : PA X (e :: es) t)
    (hdb : (x == ("__debug__" : Str)) = false := by decide) (he : starEach (e :: es) X.env = (false, eval e X.env) :: starEach es X.env := by rfl) (hpl : (backTo pos (starEach es X.env)).any (·.1) = false := by rfl) :
    PE X (.Call (.Name x p) (e :: es) [] pos) (tCa sp t) := by
  obtain ⟨f, fd, ps, F, hm, kp, b⟩ := c.ex
  have h := pe_call (p := p) (pos := pos) F (hr.mono hk) hg hm kp b .nil passL ha hdb he hpl
  have q : tCall sp [] E0 t = tCa sp t := by
    funext σ H Q
    show (t σ H fun vs H1 => sp (vs ++ []) H1 Q E0) = t σ H fun vs H1 => sp vs H1 Q E0
    congr 1
    funext vs H1
    rw [List.append_nil]
  rw [← q]
  exact h
theorem pe_ca0 (c : Ca X.prog X.w X.K X.mg X.base k x sp) (hr : Room j X.A) (hk : k ≤ j) (hg : Gl X x)
    (hdb : (x == ("__debug__" : Str)) = false := by decide) :
    PE X (.Call (.Name x p) [] [] pos) (tCa sp tNil) := by
  obtain ⟨f, fd, ps, F, hm, kp, b⟩ := c.ex
  exact pe_call0 (p := p) (pos := pos) F (hr.mono hk) hg hm kp b .nil passL hdb
end
/-! ## heaps: all but one object stay -/
/-- all that is tracked stays, but what stands at a -/
def But (a : Addr) (H H' : Hp) : Prop := ∀ b o, b ≠ a → H b = some o → H' b = some o
theorem But.refl {a : Addr} (H : Hp) : But a H H := fun _ _ _ h => h
theorem But.trans {a : Addr} {H H1 H2 : Hp} (x : But a H H1) (y : But a H1 H2) : But a H H2 := fun b o n h => y b o n (x b o n h)
theorem But.of {a : Addr} {H H' : Hp} (x : Same H H') : But a H H' := fun b o _ h => x b o h
theorem But.upd {a : Addr} {H : Hp} {o : HO} : But a H (upd H a o) := fun b u n h => by rw [upd_ne n]; exact h
theorem Same.upd {a : Addr} {H : Hp} {o : HO} (h : H a = none) : Same H (upd H a o) := fun b u e => by rw [upd_ne (ne_of_none e h)]; exact e
theorem But.same {a : Addr} {H H' : Hp} {o : HO} (x : But a H H') (h : H a = some o) (h' : H' a = some o) : Same H H' := fun b u e => by
  by_cases q : b = a
  · rw [q] at e ⊢
    rw [h] at e
    cases e
    exact h'
  · exact x b u q e
theorem But.none {a p : Addr} {H H' : Hp} (x : But a H H') (hp : H' p = Option.none) (n : p ≠ a) : H p = Option.none := by
  cases q : H p with
  | none => rfl
  | some o =>
    rw [x p o n q] at hp
    cases hp
end Op

namespace Op
open PySem PySem.Spec PyProof.Rows L2
/-! ## readings answered from the left, one rule a construct; walk_at "go" tries them -/
/-- named readings -/
def rLenQ (K : PySem.W.Frag) : List V → Hp → VK → Prop := fun xs H Q => ∃ p ys, xs = [.ref p] ∧ (SqL K H p ys ∨ SqT K H p ys) ∧ Q (.int ys.length) H
theorem cq_len {X : Cx} : CallR X (.builtin "len") (rLenQ X.K) := call_len_seq
def rLenS : List V → Hp → VK → Prop := fun xs H Q => ∃ z, xs = [.str z] ∧ z.length ≤ sizeLine ∧ Q (.int z.length) H
theorem cq_lens {X : Cx} : CallR X (.builtin "len") rLenS := call_len_str
def rAbs : List V → Hp → VK → Prop := fun xs H Q => ∃ i, xs = [.int i] ∧ Q (.int (if i < 0 then -i else i)) H
theorem cq_abs {X : Cx} : CallR X (.builtin "abs") rAbs := call_abs
def rInt1 : List V → Hp → VK → Prop := fun xs H Q => (∃ i, xs = [.int i] ∧ Q (.int i) H) ∨ ∃ k, xs = [.bl k] ∧ Q (.int (if k = true then 1 else 0)) H
theorem cq_int {X : Cx} : CallR X (.type "int") rInt1 := call_int1
def rCatS : R2 := fun x y H Q => ∃ i j, x = .str i ∧ y = .str j ∧ i.length + j.length ≤ sizeLine ∧ Q (.str (i ++ j)) H
theorem oq_adds {X : Cx} : OpR X (binaryOp .Add) rCatS := op_add_str
def rInSg : R2 := fun x y H Q => ∃ (c : Nat) (z : Str), x = .str ⟨#[c]⟩ ∧ y = .str z ∧ Q (.bl (decide (c ∈ z.cps.toList))) H
theorem oq_insg {X : Cx} : OpR X (compareOp .In) rInSg := op_in_sign
def rNinSg : R2 := fun x y H Q => ∃ (c : Nat) (z : Str), x = .str ⟨#[c]⟩ ∧ y = .str z ∧ Q (.bl (!decide (c ∈ z.cps.toList))) H
theorem oq_ninsg {X : Cx} : OpR X (compareOp .NotIn) rNinSg := op_notIn_sign
def rIsNn : R2 := fun x y H Q => y = .non ∧ Q (.bl (decide (x = .non))) H
theorem oq_isN {X : Cx} : OpR X (compareOp .Is) rIsNn := op_isN
def rNotNn : R2 := fun x y H Q => y = .non ∧ Q (.bl (!decide (x = .non))) H
theorem oq_notN {X : Cx} : OpR X (compareOp .IsNot) rNotNn := op_notN
def rJoin (K : PySem.W.Frag) : V → List V → Hp → VK → Prop := fun x xs H Q => ∃ a p, ∃ ys : List Str, x = .str a ∧ xs = [.ref p] ∧ (SqL K H p (ys.map V.str) ∨ SqT K H p (ys.map V.str)) ∧ (ys.map (·.length)).sum + ys.length * a.length ≤ 16777216 ∧ Q (.str (Txt.join a ys)) H
theorem pq_join {X : Cx} {o e : Expr} {to te : TE} {apos pos : Pos} (ho : PE X o to) (he : PE X e te) (hs : starEach [e] X.env = [(false, eval e X.env)] := by rfl) (hbase : attributeBase o "join" X.env (eval o X.env) = eval o X.env := by rfl) (hline : (apos.endLine == pos.line) = true := by rfl) :
    PE X (.Call (.Attribute o "join" apos) [e] [] pos) (tM1 (rJoin X.K) to te) := pe_join ho he hs hbase hline
def rStarts : V → List V → Hp → VK → Prop := fun x xs H Q => ∃ a b, x = .str a ∧ xs = [.str b] ∧ Q (.bl (Txt.startswith a b)) H
theorem mq_starts {X : Cx} : MtR X "str.startswith" rStarts := mt_startswith
def rRstrip : V → List V → Hp → VK → Prop := fun x xs H Q => ∃ a b, x = .str a ∧ xs = [.str b] ∧ a.length ≤ sizeLine ∧ Q (.str (Txt.rstripChars a b)) H
theorem mq_rstrip {X : Cx} : MtR X "str.rstrip" rRstrip := mt_rstripChars
def tTruQ (K : PySem.W.Frag) (ta : TE) : TT := fun σ H Q => ta σ H fun x H' => ∃ k, TruV K x H' k ∧ Q k H'
def rTru (K : PySem.W.Frag) (x : V) (H : Hp) (Q : Bool → Hp → Prop) : Prop := ∃ k, TruV K x H k ∧ Q k H
theorem pq_truth {X : Cx} {a : Expr} {ta : TE} (ha : PE X a ta) (he : ∀ whole, isTrue a X.env whole = (do let v ← whole; standAt a.pos; holding [v] (truthy v))) : PT X a (tTruQ X.K ta) := pt_truth ha he
section
variable {K : PySem.W.Frag} {σ : L2.St} {H : Hp} {i : Nat} {v x y z : V} {ta tb te tc : TE} {b : Bool} {a C dx : Addr} {fs : List (Str × V)} {f : Str} {t u c : TT} {Q : VK} {R : Bool → Hp → Prop} {ts us : TS} {D : Ends} {g : TG} {r : R2} {tl tr : TA} {L : List V → Hp → Prop} {S : L2.St → Hp → Prop}
theorem g_var (h : σ[i]? = some (some v)) (k : Q v H) : tVar i σ H Q := ⟨v, h, k⟩
theorem g_c (k : Q v H) : tC v σ H Q := k
theorem g_op (k : ta σ H fun x H1 => tb σ H1 fun y H2 => r x y H2 Q) : tOp r ta tb σ H Q := k
theorem g_un {r : V → Hp → VK → Prop} (k : ta σ H fun x H1 => r x H1 Q) : tUn r ta σ H Q := k
theorem g_if (k : t σ H fun c H1 => if c = true then ta σ H1 Q else tb σ H1 Q) : tIf t ta tb σ H Q := k
theorem g_test (k : te σ H fun x H' => ∃ k, x = .bl k ∧ R k H') : tTest te σ H R := k
theorem g_B (k : te σ H fun x H' => ∃ k, x = .bl k ∧ R k H') : tB te σ H R := k
theorem g_bl {A : Bool → Prop} (k : A b) : ∃ c, V.bl b = V.bl c ∧ A c := ⟨b, rfl, k⟩
theorem g_not (k : t σ H fun c H1 => R (!c) H1) : tNot t σ H R := k
theorem g_and (k : t σ H fun c H1 => if c = true then u σ H1 R else R false H1) : tAnd t u σ H R := k
theorem g_or (k : t σ H fun c H1 => if c = true then R true H1 else u σ H1 R) : tOr t u σ H R := k
theorem g_andV (k : ta σ H fun x H1 => ∃ c, x = .bl c ∧ if c = true then tb σ H1 Q else Q (.bl false) H1) : tAndV ta tb σ H Q := k
theorem g_orV (k : ta σ H fun x H1 => ∃ c, x = .bl c ∧ if c = true then Q (.bl true) H1 else tb σ H1 Q) : tOrV ta tb σ H Q := k
theorem g_notV (k : ta σ H fun x H1 => ∃ c, x = .bl c ∧ Q (.bl (!c)) H1) : tNotV ta σ H Q := k
theorem g_nil (k : L [] H) : tNil σ H L := k
theorem g_cons (k : ta σ H fun x H1 => tr σ H1 fun xs H2 => L (x :: xs) H2) : tCons ta tr σ H L := k
theorem g_CB {r : List V → Hp → VK → Prop} (k : tl σ H fun vs H1 => r vs H1 Q) : tCB r tl σ H Q := k
theorem g_ca {sp : Sp} (k : tl σ H fun vs H1 => sp vs H1 Q E0) : tCa sp tl σ H Q := k
theorem g_seq (k : ts { D with nx := us D } σ H) : tSeq ts us D σ H := k
theorem g_next (k : D.nx σ H) : tNext D σ H := k
theorem g_asg (k : te σ H fun x H1 => g x σ H1 D.nx) : tAsg te g D σ H := k
theorem g_name (k : S (σ.set i (some v)) H) : gName i v σ H S := k
theorem g_ret (k : te σ H D.rt) : tRet te D σ H := k
theorem g_retN (k : D.rt .non H) : tRetN D σ H := k
theorem g_drop (k : te σ H fun _ H1 => D.nx σ H1) : tDrop te D σ H := k
theorem g_ifS (k : c σ H fun b H1 => if b = true then ts D σ H1 else us D σ H1) : tIfS c ts us D σ H := k
theorem g_sub {to ti : TE} {s : TSet} (k : to σ H fun o H1 => ti σ H1 fun i H2 => s o i v H2 fun H3 => S σ H3) : gSub to ti s v σ H S := k
theorem g_I0 {f : Int → Int → V} {i j : Int} (k : Q (f i j) H) : rI0 f (.int i) (.int j) H Q := ⟨i, j, rfl, rfl, k⟩
theorem g_I {A : Int → Int → Prop} {f : Int → Int → V} {i j : Int} (h : A i j) (k : Q (f i j) H) : rI A f (.int i) (.int j) H Q := ⟨i, j, rfl, rfl, h, k⟩
theorem g_U {f : Int → V} {i : Int} (k : Q (f i) H) : rU f (.int i) H Q := ⟨i, rfl, k⟩
theorem g_eq (h : scal x y = true) (k : Q (.bl (decide (x = y))) H) : rEq x y H Q := ⟨h, k⟩
theorem g_ne (h : scal x y = true) (k : Q (.bl (!decide (x = y))) H) : rNe x y H Q := ⟨h, k⟩
theorem g_lenL {xs : List V} (h : SqL K H a xs) (k : Q (.int xs.length) H) : rLenQ K [.ref a] H Q := ⟨a, xs, rfl, .inl h, k⟩
theorem g_lenT {xs : List V} (h : SqT K H a xs) (k : Q (.int xs.length) H) : rLenQ K [.ref a] H Q := ⟨a, xs, rfl, .inr h, k⟩
theorem g_lenS {s : Str} (h : s.length ≤ sizeLine) (k : Q (.int s.length) H) : rLenS [.str s] H Q := ⟨s, rfl, h, k⟩
theorem g_abs {i : Int} (k : ∀ j : Int, 0 ≤ j → (j = i ∨ j = -i) → Q (.int j) H) : rAbs [.int i] H Q := ⟨i, rfl, k _ (by split <;> omega) (by split <;> omega)⟩
theorem g_int {i : Int} (k : Q (.int i) H) : rInt1 [.int i] H Q := .inl ⟨i, rfl, k⟩
theorem g_ixL {xs : List V} {i : Int} (h : SqL K H a xs) (ha : atI xs i = some v) (k : Q v H) : rIxL K (.ref a) (.int i) H Q := ⟨a, xs, i, v, rfl, rfl, h, ha, k⟩
theorem g_ixT {xs : List V} {i : Int} (h : SqT K H a xs) (ha : atI xs i = some v) (k : Q v H) : rIxT K (.ref a) (.int i) H Q := ⟨a, xs, i, v, rfl, rfl, h, ha, k⟩
theorem g_setL {xs : List V} {i : Int} {j : Nat} {S : Hp → Prop} (h : H a = some (.lst xs)) (hi : ixN xs.length i = some j) (k : S (L2.upd H a (.lst (xs.set j v)))) : rSetL (.ref a) (.int i) v H S := ⟨a, xs, i, j, rfl, rfl, h, hi, k⟩
theorem g_catS {s t : Str} (h : s.length + t.length ≤ sizeLine) (k : Q (.str (s ++ t)) H) : rCatS (.str s) (.str t) H Q := ⟨s, t, rfl, rfl, h, k⟩
theorem g_insg {c : Nat} {s : Str} (k : Q (.bl (decide (c ∈ s.cps.toList))) H) : rInSg (.str ⟨#[c]⟩) (.str s) H Q := ⟨c, s, rfl, rfl, k⟩
theorem g_ninsg {c : Nat} {s : Str} (k : Q (.bl (!decide (c ∈ s.cps.toList))) H) : rNinSg (.str ⟨#[c]⟩) (.str s) H Q := ⟨c, s, rfl, rfl, k⟩
theorem g_isN (k : Q (.bl (decide (x = .non))) H) : rIsNn x .non H Q := ⟨rfl, k⟩
theorem g_notN (k : Q (.bl (!decide (x = .non))) H) : rNotNn x .non H Q := ⟨rfl, k⟩
theorem g_lst {L : TA} (k : L σ H fun xs H1 => xs.length ≤ sizeLine ∧ ∀ p, H1 p = none → Q (.ref p) (L2.upd H1 p (.lst xs))) : tLst L σ H Q := k
theorem g_tup {L : TA} (k : L σ H fun xs H1 => xs.length ≤ sizeLine ∧ ∀ p, H1 p = none → Q (.ref p) (L2.upd H1 p (.tup xs))) : tTup L σ H Q := k
theorem g_app {xs : List V} (h : H a = some (.lst xs)) (hl : xs.length < sizeLine) (k : Q .non (L2.upd H a (.lst (xs ++ [y])))) : rAppend (.ref a) [y] H Q := ⟨a, xs, y, rfl, rfl, h, hl, k⟩
theorem g_pop {xs : List V} (h : H a = some (.lst (xs ++ [y]))) (k : Q y (L2.upd H a (.lst xs))) : rPop (.ref a) [] H Q :=
  ⟨a, xs ++ [y], y, rfl, rfl, h, by rw [List.length_append, List.length_singleton, Nat.add_sub_cancel, List.getElem?_append_right (Nat.le_refl _), Nat.sub_self]; rfl, by rw [List.dropLast_concat]; exact k⟩
theorem g_ext {b : Addr} {xs zs : List V} (h : H a = some (.lst xs)) (h2 : H b = some (.lst zs)) (hl : xs.length + zs.length ≤ sizeLine) (k : Q .non (L2.upd H a (.lst (xs ++ zs)))) : rExtend (.ref a) [.ref b] H Q := ⟨a, b, xs, zs, rfl, rfl, h, h2, hl, k⟩
theorem g_BM {T : String} {r : V → List V → Hp → VK → Prop} (k : ta σ H fun x H1 => tyV K T x H1 ∧ tl σ H1 fun xs H2 => r x xs H2 Q) : tBM K T r ta tl σ H Q := k
theorem g_BM0 {T : String} {r : V → List V → Hp → VK → Prop} (k : ta σ H fun x H1 => tyV K T x H1 ∧ r x [] H1 Q) : tBM0 K T r ta σ H Q := k
theorem g_M1 {r : V → List V → Hp → VK → Prop} (k : ta σ H fun x H1 => (∃ a, x = .str a) ∧ te σ H1 fun y H2 => r x [y] H2 Q) : tM1 r ta te σ H Q := k
theorem g_isS {s : Str} {A : Prop} (k : A) : (∃ a, V.str s = V.str a) ∧ A := ⟨⟨s, rfl⟩, k⟩
theorem g_tyS {s : Str} {A : Prop} (k : A) : tyV K "str" (.str s) H ∧ A := ⟨rfl, k⟩
theorem g_tyL {xs : List V} {A : Prop} (h : H a = some (.lst xs)) (k : A) : tyV K "list" (.ref a) H ∧ A := ⟨.inl ⟨rfl, xs, SqL.of h⟩, k⟩
theorem g_join {s : Str} {ys : List Str} (h : SqL K H a (ys.map V.str)) (hl : (ys.map (·.length)).sum + ys.length * s.length ≤ 16777216) (k : Q (.str (Txt.join s ys)) H) : rJoin K (.str s) [.ref a] H Q := ⟨s, a, ys, rfl, rfl, .inl h, hl, k⟩
theorem g_cat {b : Addr} {xs zs : List V} (h : H a = some (.lst xs)) (h2 : H b = some (.lst zs)) (hl : xs.length + zs.length ≤ sizeLine) (k : ∀ p, H p = none → Q (.ref p) (L2.upd H p (.lst (xs ++ zs)))) : rCat (.ref a) (.ref b) H Q := ⟨a, b, xs, zs, rfl, rfl, h, h2, hl, k⟩
theorem g_starts {s t : Str} (k : Q (.bl (Txt.startswith s t)) H) : rStarts (.str s) [.str t] H Q := ⟨s, t, rfl, rfl, k⟩
theorem g_rstrip {s t : Str} (h : s.length ≤ sizeLine) (k : Q (.str (Txt.rstripChars s t)) H) : rRstrip (.str s) [.str t] H Q := ⟨s, t, rfl, rfl, h, k⟩
theorem g_chain {r r' : R2} (k : ta σ H fun x H1 => tb σ H1 fun y H2 => r x y H2 fun z H3 => ∃ k, z = .bl k ∧ (if k = true then tc σ H3 fun w' H4 => r' y w' H4 Q else Q (.bl false) H3)) : tChain r r' ta tb tc σ H Q := k
theorem g_sl {r : V → Option Int → Option Int → Hp → VK → Prop} {lo hi : TO} (k : ta σ H fun x H1 => lo σ H1 fun l H2 => hi σ H2 fun u H3 => r x l u H3 Q) : tSl r ta lo hi σ H Q := k
theorem g_nopart {Q : Option Int → Hp → Prop} (k : Q none H) : tNoPart σ H Q := k
theorem g_part {Q : Option Int → Hp → Prop} (k : te σ H fun x H1 => ∃ i, x = .int i ∧ Q (some i) H1) : tPart te σ H Q := k
theorem g_isI {i : Int} {A : Int → Prop} (k : A i) : ∃ j, V.int i = V.int j ∧ A j := ⟨i, rfl, k⟩
theorem g_inT {xs : List V} (h : SqT K H a xs) (hx : flatV x = true) (ha : xs.all flatV = true) (k : Q (.bl (inV x xs)) H) : rIn K false x (.ref a) H Q := ⟨a, xs, rfl, .inr h, hx, ha, by rw [if_neg Bool.false_ne_true]; exact k⟩
theorem g_ninT {xs : List V} (h : SqT K H a xs) (hx : flatV x = true) (ha : xs.all flatV = true) (k : Q (.bl (!inV x xs)) H) : rIn K true x (.ref a) H Q := ⟨a, xs, rfl, .inr h, hx, ha, by rw [if_pos rfl]; exact k⟩
theorem g_inL {xs : List V} (h : SqL K H a xs) (hx : flatV x = true) (ha : xs.all flatV = true) (k : Q (.bl (inV x xs)) H) : rIn K false x (.ref a) H Q := ⟨a, xs, rfl, .inl h, hx, ha, by rw [if_neg Bool.false_ne_true]; exact k⟩
theorem g_isi {c : V} {t u : Value} {b : Bool} (hc : ClsV c u) (ht : TyX K H x t) (hk : PySem.W.kitOne K t u = some b) (k : Q (.bl b) H) : rIsi K [x, c] H Q := ⟨x, c, t, u, b, rfl, hc, ht, hk, k⟩
theorem g_tru (k : ta σ H fun x H' => rTru K x H' R) : tTruQ K ta σ H R := k
theorem g_truL {xs : List V} (h : SqL K H a xs) (k : R (!xs.isEmpty) H) : rTru K (.ref a) H R := ⟨_, .inl ⟨xs, h, rfl⟩, k⟩
theorem g_while {tb : TS} (W : Nat → L2.St → Hp → Prop) (m0 : Nat) (h0 : W m0 σ H) (hs : ∀ m σ' H', W m σ' H' → c σ' H' fun b H1 => if b = true then ∃ N : L2.St → Hp → Prop, (∀ σ' H', N σ' H' → ∃ m', m' < m ∧ W m' σ' H') ∧ tb { D with nx := N, ct := N, bk := D.nx } σ' H1 else D.nx σ' H1) : tWhile c tb D σ H := ⟨W, ⟨m0, h0⟩, hs⟩
theorem ty_l {xs : List V} (h : H a = some (.lst xs)) : tyV K "list" (.ref a) H := .inl ⟨rfl, xs, SqL.of h⟩
theorem iteD {c A B : Prop} [Decidable c] (h1 : c → A) (h2 : ¬ c → B) : if decide c = true then A else B := by
  by_cases h : c
  · rw [decide_eq_true h]; exact h1 h
  · rw [decide_eq_false h]; exact h2 h
theorem iteND {c A B : Prop} [Decidable c] (h1 : ¬ c → A) (h2 : c → B) : if (!decide c) = true then A else B := by
  by_cases h : c
  · rw [decide_eq_true h]; exact h2 h
  · rw [decide_eq_false h]; exact h1 h
theorem iteDT {c A B : Prop} [Decidable c] (h : c) (k : A) : if decide c = true then A else B := by rw [decide_eq_true h]; exact k
theorem iteDF {c A B : Prop} [Decidable c] (h : ¬ c) (k : B) : if decide c = true then A else B := by rw [decide_eq_false h]; exact k
theorem iteNT {A B : Prop} (h : B) : if (!true) = true then A else B := h
theorem iteNF {A B : Prop} (h : A) : if (!false) = true then A else B := h
theorem iteB {b : Bool} {A B : Prop} (h1 : b = true → A) (h2 : b = false → B) : if b = true then A else B := by
  cases b
  · exact h2 rfl
  · exact h1 rfl
end
/-- [e for x in range(n)]: behind the range's argument -/
def rLcR (j : Nat) (te : TE) (vs : List Nat) (σ : L2.St) (xs : List V) (H : Hp) (Q : VK) : Prop := ∃ n : Int, xs = [.int n] ∧ -(2 ^ 62) ≤ n ∧ n < 2 ^ 62 ∧ ∀ D, H D = none → ∃ W : Nat → Nat → Hp → Prop, (∃ m, W 0 m (L2.upd H D (.lst []))) ∧ ∀ i m H, W i m H →
  ((Itr 0 n.toNat).stop i H ∧ Q (.ref D) H) ∨ ((Itr 0 n.toNat).go i H ∧ ∃ Nx : Hp → Prop, (∀ H', Nx H' → ∃ m', m' < m ∧ W (i + 1) m' H') ∧ ∀ x H', (Itr 0 n.toNat).yld i H x H' → gName j x (wipe σ vs) H' fun σ2 H2 => wipe σ2 vs = wipe σ vs ∧ tYes σ2 H2 fun b H3 =>
    if b = true then te σ2 H3 fun y H4 => ∃ acc, H4 D = some (.lst acc) ∧ acc.length < sizeLine ∧ Nx (L2.upd H4 D (.lst (acc ++ [y]))) else Nx H3)
theorem g_lcR {σ : L2.St} {H : Hp} {Q : VK} {tl : TA} {te : TE} {j : Nat} {vs : List Nat} (k : tl σ H fun xs H1 => rLcR j te vs σ xs H1 Q) : tLc (iRng1 tl) (gName j) tYes te vs σ H Q := k
/-- the tuples stay -/
def Tps (H H' : Hp) : Prop := ∀ b xs, H b = some (.tup xs) → H' b = some (.tup xs)
theorem Tps.refl (H : Hp) : Tps H H := fun _ _ h => h
theorem Tps.trans {H H1 H2 : Hp} (a : Tps H H1) (b : Tps H1 H2) : Tps H H2 := fun x xs h => b x xs (a x xs h)
theorem Tps.new {H : Hp} {p : Addr} {o : HO} (h : H p = none) : Tps H (L2.upd H p o) := fun b ys e => Same.upd h b _ e
theorem Tps.lst {H : Hp} {p : Addr} {o : HO} {xs : List V} (h : H p = some (.lst xs)) : Tps H (L2.upd H p o) := fun b ys e => by
  rw [upd_ne (ne_of e h (by intro z; cases z))]
  exact e
theorem Same.mut {H H' : Hp} {p : Addr} {o : HO} (s : Same H H') (h : H p = none) : Same H (L2.upd H' p o) := fun b u e => by
  rw [upd_ne (ne_of_none e h)]
  exact s b u e
theorem Tps.same {H H' : Hp} (s : Same H H') : Tps H H' := fun b xs h => s b _ h
/-- a turn's end: the new item stands behind those so far -/
def lcPost (J : Addr → Nat → List V → Hp → Prop) (D : Addr) (i : Nat) : VK := fun y H => ∃ acc, H D = some (.lst acc) ∧ acc.length < sizeLine ∧ ∃ acc', (L2.upd H D (.lst (acc ++ [y]))) D = some (.lst acc') ∧ acc'.length = i + 1 ∧ J D (i + 1) acc' (L2.upd H D (.lst (acc ++ [y])))
theorem lcPost.of {J : Addr → Nat → List V → Hp → Prop} {D : Addr} {i : Nat} {acc : List V} {y : V} {H : Hp} (h : H D = some (.lst acc)) (hl : acc.length = i) (hi : i < 1000000) (k : J D (i + 1) (acc ++ [y]) (L2.upd H D (.lst (acc ++ [y])))) : lcPost J D i y H :=
  ⟨acc, h, by rw [sizeLine_eq]; omega, acc ++ [y], upd_same, by rw [List.length_append, hl]; rfl, k⟩
/-- the walk of rLcR: J says what the turns so far have left -/
theorem r_lcR {σ : L2.St} {H : Hp} {Q : VK} {te : TE} {j : Nat} {n : Int} {vs : List Nat} (J : Addr → Nat → List V → Hp → Prop) (hn : 0 ≤ n ∧ n < 1000000) (hw : ∀ x, wipe ((wipe σ vs).set j (some x)) vs = wipe σ vs)
    (h0 : ∀ D, H D = none → J D 0 [] (L2.upd H D (.lst [])))
    (hs : ∀ (D : Addr) (i : Nat) (acc : List V) (H2 : Hp), H D = none → (i : Int) < n → H2 D = some (.lst acc) → acc.length = i → J D i acc H2 → te ((wipe σ vs).set j (some (.int (i : Int)))) H2 (lcPost J D i))
    (hd : ∀ D acc H2, H D = none → H2 D = some (.lst acc) → (acc.length : Int) = n → J D n.toNat acc H2 → Q (.ref D) H2) : rLcR j te vs σ [.int n] H Q := by
  refine ⟨n, rfl, by omega, by omega, fun D hD => ?_⟩
  refine lc_range (lo := 0) (n := n.toNat) (fun i H2 => ∃ acc, H2 D = some (.lst acc) ∧ acc.length = i ∧ J D i acc H2) ⟨[], upd_same, rfl, h0 D hD⟩ (fun i H2 hi p => ?_) (fun H2 p => ?_)
  · obtain ⟨acc, h1, h2, h3⟩ := p
    have e0 : (0 : Int) + (i : Int) = (i : Int) := Int.zero_add _
    have r := hs D i acc H2 hD (by omega) h1 h2 h3
    rw [← e0] at r
    exact ⟨hw _, r⟩
  · obtain ⟨acc, h1, h2, h3⟩ := p
    exact hd D acc H2 hD h1 (by omega) h3
theorem len_le {cs : List Nat} (h : cs.length < 1000000) : (SX.S cs).length ≤ sizeLine := by rw [SX.S_len, sizeLine_eq]; omega
/-! ### comprehensions over the signs of a text, whose tests and items change nothing -/
def rLcS (j : Nat) (tt : TT) (te : TE) (vs : List Nat) (σ : L2.St) (v : V) (H : Hp) (Q : VK) : Prop := ∃ x : Str, v = .str x ∧ ∀ D, H D = none → ∃ W : Nat → Nat → Hp → Prop, (∃ m, W 0 m (L2.upd H D (.lst []))) ∧ ∀ i m H, W i m H →
  ((Its x).stop i H ∧ Q (.ref D) H) ∨ ((Its x).go i H ∧ ∃ Nx : Hp → Prop, (∀ H', Nx H' → ∃ m', m' < m ∧ W (i + 1) m' H') ∧ ∀ x' H', (Its x).yld i H x' H' → gName j x' (wipe σ vs) H' fun σ2 H2 => wipe σ2 vs = wipe σ vs ∧ tt σ2 H2 fun b H3 =>
    if b = true then te σ2 H3 fun y H4 => ∃ acc, H4 D = some (.lst acc) ∧ acc.length < sizeLine ∧ Nx (L2.upd H4 D (.lst (acc ++ [y]))) else Nx H3)
theorem g_lcS {σ : L2.St} {H : Hp} {Q : VK} {tl : TE} {tt : TT} {te : TE} {j : Nat} {vs : List Nat} (k : tl σ H fun v H1 => rLcS j tt te vs σ v H1 Q) : tLc (iStr tl) (gName j) tt te vs σ H Q := k
theorem r_lcS {σ : L2.St} {H : Hp} {Q : VK} {tt : TT} {te : TE} {j : Nat} {cs : List Nat} {vs : List Nat} (b : Nat → Bool) (f : Nat → V) (hn : cs.length < 1000000) (hw : ∀ x, wipe ((wipe σ vs).set j (some x)) vs = wipe σ vs)
    (ht : ∀ c H2 (R : Bool → Hp → Prop), c ∈ cs → Same H H2 → R (b c) H2 → tt ((wipe σ vs).set j (some (.str (SX.S [c])))) H2 R)
    (he : ∀ c H2 (R : VK), c ∈ cs → b c = true → Same H H2 → R (f c) H2 → te ((wipe σ vs).set j (some (.str (SX.S [c])))) H2 R)
    (k : ∀ D, H D = none → Q (.ref D) (L2.upd H D (.lst ((cs.filter b).map f)))) : rLcS j tt te vs σ (.str (SX.S cs)) H Q := by
  refine ⟨SX.S cs, rfl, fun D hD => ?_⟩
  have hsz : (SX.S cs).cps.size = cs.length := by simp [SX.S]
  refine ⟨fun i m H2 => m = cs.length - i ∧ i ≤ cs.length ∧ H2 = L2.upd H D (.lst (((cs.take i).filter b).map f)), ⟨cs.length, by simp, Nat.zero_le _, rfl⟩, ?_⟩
  rintro i m H2 ⟨rfl, hi, rfl⟩
  by_cases hlt : i < cs.length
  · refine .inr ⟨?_, fun H' => H' = L2.upd H D (.lst (((cs.take (i + 1)).filter b).map f)), fun H' e => ⟨cs.length - (i + 1), by omega, rfl, by omega, e⟩, ?_⟩
    · show i < (SX.S cs).cps.size
      rw [hsz]; exact hlt
    · rintro x' H' ⟨rfl, c, hc, rfl⟩
      have hc' : cs[i]? = some c := by
        have : (SX.S cs).cps[i]? = cs[i]? := by simp [SX.S]
        rw [← this]; exact hc
      have hget : cs[i] = c := by
        rw [List.getElem?_eq_getElem hlt] at hc'
        exact Option.some.inj hc'
      have hmem : c ∈ cs := hget ▸ List.getElem_mem hlt
      have htk : cs.take (i + 1) = cs.take i ++ [c] := by rw [List.take_succ, hc']; rfl
      have hS : Same H (L2.upd H D (.lst (((cs.take i).filter b).map f))) := Same.upd hD
      refine ⟨hw _, ?_⟩
      refine ht c _ _ hmem hS ?_
      cases hb : b c with
      | false =>
        rw [if_neg Bool.false_ne_true, htk, List.filter_append, List.filter_cons, if_neg (by rw [hb]; decide), List.filter_nil, List.append_nil]
      | true =>
        rw [if_pos rfl]
        refine he c _ _ hmem hb hS ⟨_, upd_same, ?_, ?_⟩
        · rw [List.length_map, sizeLine_eq]
          have := List.length_filter_le b (cs.take i)
          rw [List.length_take] at this
          omega
        · rw [upd_upd, htk, List.filter_append, List.filter_cons, if_pos hb, List.filter_nil, List.map_append]
          rfl
  · have e : i = cs.length := by omega
    refine .inl ⟨by show (SX.S cs).cps.size ≤ i; rw [hsz]; omega, ?_⟩
    rw [e, List.take_length]
    exact k D hD
/-- .. without a test -/
theorem r_lcS1 {σ : L2.St} {H : Hp} {Q : VK} {te : TE} {j : Nat} {cs : List Nat} {vs : List Nat} (f : Nat → V) (hn : cs.length < 1000000) (hw : ∀ x, wipe ((wipe σ vs).set j (some x)) vs = wipe σ vs)
    (he : ∀ c H2 (R : VK), c ∈ cs → Same H H2 → R (f c) H2 → te ((wipe σ vs).set j (some (.str (SX.S [c])))) H2 R)
    (k : ∀ D, H D = none → Q (.ref D) (L2.upd H D (.lst (cs.map f)))) : rLcS j tYes te vs σ (.str (SX.S cs)) H Q :=
  r_lcS (fun _ => true) f hn hw (fun c H2 R _ _ r => r) (fun c H2 R h1 _ h3 => he c H2 R h1 h3) (fun D hD => by
    have e : cs.filter (fun _ => true) = cs := List.filter_eq_self.mpr fun _ _ => rfl
    rw [e]
    exact k D hD)
def rAllQ (K : PySem.W.Frag) : List V → Hp → VK → Prop := rAll K
theorem g_all {K : PySem.W.Frag} {H : Hp} {Q : VK} {a : Addr} {bs : List Bool} (h : SqL K H a (bs.map V.bl)) (k : Q (.bl (bs.all id)) H) : rAll K [.ref a] H Q := ⟨a, bs, rfl, h, k⟩
theorem g_any {K : PySem.W.Frag} {H : Hp} {Q : VK} {a : Addr} {bs : List Bool} (h : SqL K H a (bs.map V.bl)) (k : Q (.bl (bs.any id)) H) : rAny K [.ref a] H Q := ⟨a, bs, rfl, h, k⟩
theorem g_slX {H : Hp} {Q : VK} {z : Str} {lo hi : Option Int} (h : z.length ≤ sizeLine) (k : Q (.str (Txt.slice z lo hi)) H) : C8.rSlX (.str z) lo hi H Q := ⟨z, rfl, h, k⟩
/-! ### list(text) -/
theorem vals_of_get : ∀ {xs : List V} {us : List Value}, xs.length = us.length → (∀ (j : Nat) (x : V) (u : Value), xs[j]? = some x → us[j]? = some u → RelV x u) → Vals xs us
  | [], [], _, _ => .nil
  | [], _ :: _, h, _ => by simp at h
  | _ :: _, [], h, _ => by simp at h
  | x :: xs, u :: us, h, k => .cons (k 0 x u rfl rfl) (vals_of_get (by simpa using h) fun j y z h1 h2 => k (j + 1) y z (by simpa using h1) (by simpa using h2))
def rListS : List V → Hp → VK → Prop := fun xs H Q => ∃ cs : List Nat, xs = [.str (SX.S cs)] ∧ cs.length ≤ 1000000 ∧ ∀ l, H l = none → Q (.ref l) (L2.upd H l (.lst (cs.map fun c => .str (SX.S [c]))))
theorem cq_list_str {X : Cx} (hc : X.calm = true) : CallR X (.type "list") rListS := by
  intro pins s σ H xs us Q I r h
  obtain ⟨cs, rfl, hl, q⟩ := h
  obtain ⟨u, rfl, t, rfl⟩ := vals1 r
  have hsz : (SX.S cs).cps.size = cs.length := by simp [SX.S]
  refine call_list_str (I.ok.hd hc) (SX.S cs) t (fun h' tk acc' c' kp e items => ?_) (by rw [hsz, sizeLine_eq]; omega)
  have rv : Vals (cs.map fun c => V.str (SX.S [c])) acc'.toList := by
    have h0 : acc'.toList.length = cs.length := by rw [← hsz, ← items.1]; simp
    refine vals_of_get (by rw [List.length_map, h0]) fun j x u h1 h2 => ?_
    obtain ⟨c, tk2, hc1, rfl⟩ := items.2 j u (by simpa using h2)
    have hc2 : cs[j]? = some c := by
      have : (SX.S cs).cps[j]? = cs[j]? := by simp [SX.S]
      rw [← this]; exact hc1
    rw [List.getElem?_map, hc2] at h1
    have e2 : V.str (SX.S [c]) = x := Option.some.inj h1
    rw [← e2]
    exact ⟨tk2, rfl⟩
  exact ⟨.ref s.heap.objs.size, _, I.laid (t' := tk) kp (Nat.le_refl _) (show ObjOk X.prog X.w _ h' _ (.lst _) from ⟨by rw [List.length_map, sizeLine_eq]; omega, acc'.toList, c', rv, by simpa using e⟩), rfl, q _ (I.hok.fresh (Nat.le_refl _))⟩
end Op

namespace Op
open PySem PySem.Spec PyProof.Rows L2
local macro_rules | `(tactic| walk_at "go1") => `(tactic| first
  | ((with_reducible refine' g_var ?h ?_); (case h => rfl)) | with_reducible refine' g_c ?_ | with_reducible refine' g_op ?_ | with_reducible refine' g_un ?_ | with_reducible refine' g_if ?_ | with_reducible refine' g_test ?_ | with_reducible refine' g_B ?_ | with_reducible refine' g_bl ?_
  | with_reducible refine' g_not ?_ | with_reducible refine' g_and ?_ | with_reducible refine' g_or ?_ | with_reducible refine' g_andV ?_ | with_reducible refine' g_orV ?_ | with_reducible refine' g_notV ?_ | with_reducible refine' g_nil ?_ | with_reducible refine' g_cons ?_ | with_reducible refine' g_CB ?_ | with_reducible refine' g_ca ?_
  | with_reducible refine' g_seq ?_ | with_reducible refine' g_next ?_ | with_reducible refine' g_asg ?_ | with_reducible refine' g_name ?_ | with_reducible refine' g_ret ?_ | with_reducible refine' g_retN ?_ | with_reducible refine' g_drop ?_ | with_reducible refine' g_ifS ?_ | with_reducible refine' g_sub ?_
  | with_reducible refine' g_I0 ?_ | with_reducible refine' g_U ?_ | ((with_reducible refine' g_eq ?h ?_); (case h => rfl)) | ((with_reducible refine' g_ne ?h ?_); (case h => rfl))
  | ((with_reducible refine' g_lenL ?h ?_); (case h => first | assumption | exact SqL.of (by assumption) | exact SqL.of upd_same)) | ((with_reducible refine' g_lenT ?h ?_); (case h => first | assumption | exact SqT.of (by assumption) | exact SqT.of upd_same))
  | ((with_reducible refine' g_ixL ?h ?ha ?_); (case h => first | assumption | exact SqL.of (by assumption) | exact SqL.of upd_same); (case ha => rfl)) | ((with_reducible refine' g_ixT ?h ?ha ?_); (case h => first | assumption | exact SqT.of (by assumption) | exact SqT.of upd_same); (case ha => rfl))
  | ((with_reducible refine' g_I ?h ?_); (case h => first | decide | omega | (first | refine' ⟨?_, ?_, ?_⟩ | refine' ⟨?_, ?_⟩ | refine' Or.inl ⟨?_, ?_⟩) <;> omega | (refine' Or.inr ⟨?_, ?_⟩ <;> omega)))
  | ((with_reducible refine' g_setL ?h ?ha ?_); (case h => first | assumption | exact upd_same); (case ha => rfl))
  | with_reducible refine' g_lcR ?_
  | with_reducible refine' g_M1 ?_ | with_reducible refine' g_isS ?_ | with_reducible refine' g_tyS ?_ | ((with_reducible refine' g_tyL ?h ?_); (case h => first | assumption | exact upd_same))
  | ((with_reducible refine' g_cat ?h ?h2 ?hl ?_); (case h => first | assumption | exact upd_same); (case h2 => first | assumption | exact upd_same); (case hl => first | decide | (simp; omega)))
  | with_reducible refine' g_lcS ?_
  | with_reducible refine' g_starts ?_ | with_reducible refine' g_chain ?_
  | ((with_reducible refine' g_lenS ?h ?_); (case h => first | exact len_le (by assumption) | exact len_le (by omega))) | ((with_reducible refine' g_rstrip ?h ?_); (case h => first | exact len_le (by assumption) | exact len_le (by omega))) | ((with_reducible refine' g_slX ?h ?_); (case h => first | exact len_le (by assumption) | exact len_le (by omega)))
  | with_reducible refine' g_sl ?_ | with_reducible refine' g_nopart ?_ | with_reducible refine' g_part ?_ | with_reducible refine' g_isI ?_
  | with_reducible refine' g_tru ?_
  | with_reducible refine' iteT ?_ | with_reducible refine' iteF ?_ | with_reducible refine' iteNT ?_ | with_reducible refine' iteNF ?_
  | with_reducible refine' g_int ?_ | with_reducible refine' g_insg ?_ | with_reducible refine' g_ninsg ?_ | with_reducible refine' g_isN ?_ | with_reducible refine' g_notN ?_ | with_reducible refine' g_lst ?_ | with_reducible refine' g_tup ?_ | with_reducible refine' g_BM ?_ | with_reducible refine' g_BM0 ?_)
local macro_rules | `(tactic| walk_at "go") => `(tactic| repeat' walk_at "go1")
/-! ## the law's stream of draws -/
/-- at st a stream that has been asked at most n times -/
def StAt (H : Hp) (st : Addr) (n : Nat) : Prop := ∃ a b c : Int, H st = some (.lst [.int a, .int b, .int c]) ∧ 0 ≤ a ∧ 0 ≤ b ∧ b < 4294967296 ∧ 0 ≤ c ∧ c ≤ (n : Int)
theorem StAt.mono {H : Hp} {st : Addr} {n m : Nat} (h : StAt H st n) (l : n ≤ m) : StAt H st m := by
  obtain ⟨a, b, c, h0, h1, h2, h3, h4, h5⟩ := h
  exact ⟨a, b, c, h0, h1, h2, h3, h4, by omega⟩
theorem StAt.same {H H' : Hp} {st : Addr} {n : Nat} (h : StAt H st n) (s : Same H H') : StAt H' st n := by
  obtain ⟨a, b, c, h0, h1⟩ := h
  exact ⟨a, b, c, s _ _ h0, h1⟩
theorem StAt.ne {H : Hp} {st p : Addr} {n : Nat} (h : StAt H st n) (hp : H p = none) : st ≠ p := by
  obtain ⟨a, b, c, h0, _⟩ := h
  exact ne_of_none h0 hp
/-- _law_stream(script, k) -/
def spStream (K : PySem.W.Frag) : Sp := fun vs H Q _ => ∃ (a : Addr) (ns : List Int) (k : Nat), vs = [.ref a, .int (k : Int)] ∧ SqL K H a (ns.map V.int) ∧ k < 64 ∧
  ∀ H' st, H st = none → Same H H' → StAt H' st 0 → Q (.ref st) H'
/-- _law_draw(stream, many) -/
def spDraw : Sp := fun vs H Q _ => ∃ (st : Addr) (m n : Nat), vs = [.ref st, .int (m : Int)] ∧ 0 < m ∧ m < 1000000 ∧ StAt H st n ∧ n < 1000000000000 ∧
  ∀ H' (d : Nat), d < m → But st H H' → StAt H' st (n + 1) → Q (.int (d : Int)) H'
/-- _law_pick(stream, things) -/
def spPick (K : PySem.W.Frag) : Sp := fun vs H Q _ => ∃ (st l : Addr) (xs : List V) (n : Nat), vs = [.ref st, .ref l] ∧ SqL K H l xs ∧ l ≠ st ∧ 0 < xs.length ∧ xs.length < 1000000 ∧ StAt H st n ∧ n < 1000000000000 ∧
  ∀ H' v, v ∈ xs → But st H H' → StAt H' st (n + 1) → Q v H'
theorem SqL.but {K : PySem.W.Frag} {H H' : Hp} {a st : Addr} {xs : List V} (h : SqL K H a xs) (n : a ≠ st) (b : But st H H') : SqL K H' a xs := by
  rcases h with (h | ⟨o, h⟩) | h
  · exact .inl (.inl (b _ _ n h))
  · exact .inl (.inr ⟨o, b _ _ n h⟩)
  · exact .inr h
section
variable {P : Program} {w : World} {K : PySem.W.Frag} {mg : Str → Option Value} {base : Heap}
theorem ca_stream (T : Bl K mg) (D : Df K mg "_law_stream" s_law_stream p_law_stream) : Ca P w K mg base 1 "_law_stream" (spStream K) := by
  refine ca_n D sc_law_stream (fun vs H Q E h => ?_) (fun f cdv A outer s H vs Q E hr h => ?_)
  · obtain ⟨a, ns, k, rfl, _⟩ := h
    rfl
  · obtain ⟨a, ns, k, rfl, hS, hk, q⟩ := h
    refine ⟨_, (C8.pss_cut (ps_set (i := 2) sc_law_stream.nd rfl (Or.inl rfl) (pe_ifExp (pt_cmpR op_lt (pv 1) (pe_callB cq_len (by rfl) T.b_len (by decide +kernel) (pa_cons (pv 0) pa_nil)) (nomark _)) (pe_callB cq_abs (by rfl) T.b_abs (by decide +kernel) (pa_cons (pe_ix ix_list (pv 0) (pv 1) (fun _ _ => rfl)) pa_nil)) pe_int))
  (pss_one (ps_ret (pe_lst (pa_cons (pe_ifExp (pt_cmpR op_ge (pv 2) (pe_op op_pow pe_int pe_int) (nomark _)) (pv 2) pe_int) (pa_cons (pe_op op_add (pe_op op_mod (pe_callTy cq_int (by rfl) T.b_int (by decide +kernel) (pa_cons (pv 2) pa_nil)) pe_int) (pe_op op_mul pe_int (pv 1))) (pa_cons pe_int pa_nil))))))), ?_⟩
    refine ⟨fun σ' H' => ∃ z : Int, 0 ≤ z ∧ σ' = [some (.ref a), some (.int (k : Int)), some (.int z)] ∧ H' = H, ?_, ?_⟩
    · walk_at "go"
      refine iteD (fun h => ?_) (fun h => ?_)
      · rw [List.length_map] at h
        have hk2 : k < ns.length := by omega
        have ha : atI (ns.map V.int) ((k : Nat) : Int) = some (.int ns[k]) := atI_nat (by rw [List.getElem?_map, List.getElem?_eq_getElem hk2]; rfl)
        walk_at "go"
        refine g_ixL hS ha ?_
        walk_at "go"
        refine g_abs fun j hj _ => ?_
        walk_at "go"
        exact ⟨j, hj, rfl, rfl⟩
      · walk_at "go"
        exact ⟨0, Int.le_refl _, rfl, rfl⟩
    · rintro σ' H' ⟨z, hz, rfl, rfl⟩
      walk_at "go"
      have e1 : z % 2147483647 < 2147483647 := Int.emod_lt_of_pos z (by decide)
      have e2 : 0 ≤ z % 2147483647 := Int.emod_nonneg z (by decide)
      refine iteD (fun h => ?_) (fun h => ?_)
      all_goals
        walk_at "go"
        refine ⟨by show 3 ≤ sizeLine; decide, fun p hp => ?_⟩
        refine q _ p hp (Same.upd hp) ?_
      · exact ⟨z, _, 0, upd_same, hz, by omega, by omega, by omega, by omega⟩
      · exact ⟨0, _, 0, upd_same, by omega, by omega, by omega, by omega, by omega⟩
theorem fdiv_nonneg {a : Int} {m : Nat} (ha : 0 ≤ a) : 0 ≤ a.fdiv (m : Int) := by
  rw [Int.fdiv_eq_ediv_of_nonneg _ (by omega)]
  exact Int.ediv_nonneg ha (by omega)
theorem ca_draw (T : Bl K mg) (D : Df K mg "_law_draw" s_law_draw p_law_draw) : Ca P w K mg base 1 "_law_draw" spDraw := by
  refine ca_n D sc_law_draw (fun vs H Q E h => ?_) (fun f cdv A outer s H vs Q E hr h => ?_)
  · obtain ⟨st, m, n, rfl, _⟩ := h
    rfl
  · obtain ⟨st, m, n, rfl, hm, hm2, ⟨a, b, c, hs, ha, hb, hb2, hc, hc2⟩, hn, q⟩ := h
    refine ⟨_, (pss_cons (ps_if (pt_cmpR op_gt (pe_ix ix_list (pv 0) pe_int (fun _ _ => rfl)) pe_int (nomark _))
  (pss_cons (ps_set (i := 2) sc_law_draw.nd rfl (Or.inl rfl) (pe_op op_mod (pe_callTy cq_int (by rfl) T.b_int (by decide +kernel) (pa_cons (pe_ix ix_list (pv 0) pe_int (fun _ _ => rfl)) pa_nil)) (pv 1)))
  (pss_cons (ps_asg (pe_op op_fdivN (pe_ix ix_list (pv 0) pe_int (fun _ _ => rfl)) (pv 1)) (pg_sub (pv 0) pe_int set_list))
  (pss_one (ps_ret (pv 2)))))
  pss_nil)
  (pss_cons (ps_asg (pe_op op_add (pe_ix ix_list (pv 0) pe_int (fun _ _ => rfl)) pe_int) (pg_sub (pv 0) pe_int set_list))
  (pss_cons (ps_set (i := 3) sc_law_draw.nd rfl (Or.inl rfl) (pe_op op_mod (pe_op op_pow (pe_callTy cq_int (by rfl) T.b_int (by decide +kernel) (pa_cons (pe_op op_add (pe_op op_add (pe_ix ix_list (pv 0) pe_int (fun _ _ => rfl)) (pe_op op_mul pe_int (pe_ix ix_list (pv 0) pe_int (fun _ _ => rfl)))) pe_int) pa_nil)) pe_int) pe_int))
  (pss_one (ps_ret (pe_op op_mod (pe_op op_fdivN (pe_op op_mod (pe_callTy cq_int (by rfl) T.b_int (by decide +kernel) (pa_cons (pe_op op_mul (pe_op op_add (pv 3) (pe_ix ix_list (pv 0) pe_int (fun _ _ => rfl))) pe_int) pa_nil)) pe_int) pe_int) (pv 1))))))), ?_⟩
    walk_at "go"
    refine iteD (fun h => ?_) (fun h => ?_)
    · walk_at "go"
      have e1 : a % (m : Int) < (m : Int) := Int.emod_lt_of_pos a (by omega)
      have e2 : 0 ≤ a % (m : Int) := Int.emod_nonneg a (by omega)
      have e3 : (((a % (m : Int)).toNat : Nat) : Int) = a % (m : Int) := Int.toNat_of_nonneg e2
      have r := q (L2.upd H st (.lst [.int (a.fdiv (m : Int)), .int b, .int c])) (a % (m : Int)).toNat (by omega) But.upd ⟨_, b, c, upd_same, fdiv_nonneg ha, hb, hb2, hc, by omega⟩
      rw [e3] at r
      exact r
    · walk_at "go"
      generalize hX : ((b + 7919 * (c + 1) + 104729) ^ Int.toNat 5 % 2147483647 + (c + 1)) * 40692 % 2147483629 = X
      have e1 : X.fdiv 7 % (m : Int) < (m : Int) := Int.emod_lt_of_pos _ (by omega)
      have e2 : 0 ≤ X.fdiv 7 % (m : Int) := Int.emod_nonneg _ (by omega)
      have e3 : (((X.fdiv 7 % (m : Int)).toNat : Nat) : Int) = X.fdiv 7 % (m : Int) := Int.toNat_of_nonneg e2
      have r := q (L2.upd H st (.lst [.int a, .int b, .int (c + 1)])) (X.fdiv 7 % (m : Int)).toNat (by omega) But.upd ⟨a, b, c + 1, upd_same, ha, hb, hb2, by omega, by omega⟩
      rw [e3] at r
      exact r
/-- a draw, its many told -/
theorem g_draw {st : Addr} {n m : Nat} {z : Int} {H : Hp} {Q : VK} (hz : z = (m : Int)) (h0 : 0 < m) (h1 : m < 1000000) (hst : StAt H st n) (hn : n < 1000000000000) (k : ∀ H' (d : Nat), d < m → But st H H' → StAt H' st (n + 1) → Q (.int (d : Int)) H') :
    spDraw [.ref st, .int z] H Q E0 := by
  subst hz
  exact ⟨st, m, n, rfl, h0, h1, hst, hn, k⟩
theorem at_lt {xs : List V} {d : Nat} (h : d < xs.length) : ∃ v, v ∈ xs ∧ atI xs ((d : Nat) : Int) = some v := ⟨xs[d], List.getElem_mem h, atI_nat (List.getElem?_eq_getElem h)⟩
theorem ca_pick (T : Bl K mg) (D : Df K mg "_law_pick" s_law_pick p_law_pick) (c_law_draw : Ca P w K mg base 1 "_law_draw" spDraw) : Ca P w K mg base 2 "_law_pick" (spPick K) := by
  refine ca_n D sc_law_pick (fun vs H Q E h => ?_) (fun f cdv A outer s H vs Q E hr h => ?_)
  · obtain ⟨st, l, xs, n, rfl, _⟩ := h
    rfl
  · obtain ⟨st, l, xs, n, rfl, hS, hne, h0, h1, hst, hn, q⟩ := h
    refine ⟨_, (pss_one (ps_ret (pe_ix ix_list (pv 1) (pe_ca c_law_draw hr (by decide) (by rfl) (pa_cons (pv 0) (pa_cons (pe_callB cq_len (by rfl) T.b_len (by decide +kernel) (pa_cons (pv 1) pa_nil)) pa_nil))) (fun _ _ => rfl)))), ?_⟩
    walk_at "go"
    refine ⟨st, xs.length, n, rfl, h0, h1, hst, hn, fun H' d hd hb hst' => ?_⟩
    obtain ⟨v, hv, ha⟩ := at_lt hd
    refine g_ixL (SqL.but hS hne hb) ha ?_
    exact q H' v hv hb hst'
/-- things[draw(stream, n)], the things written there -/
theorem g_pick {st p : Addr} {n : Nat} {xs : List V} {z : Int} {H : Hp} {Q : VK} (hz : z = ((xs.length : Nat) : Int)) (hp : H p = none) (hst : StAt H st n) (hn : n < 1000000000000) (h0 : 0 < xs.length) (h1 : xs.length < 1000000) (k : ∀ H' v, v ∈ xs → But st H H' → StAt H' st (n + 1) → Q v H') :
    spDraw [.ref st, .int z] (L2.upd H p (.lst xs)) (fun y H2 => rIxL K (.ref p) y H2 Q) E0 := by
  subst hz
  refine ⟨st, xs.length, n, rfl, h0, h1, hst.same (Same.upd hp), hn, fun H1 d hd b1 s1 => ?_⟩
  obtain ⟨v, hv, ha⟩ := at_lt hd
  refine g_ixL (SqL.of (b1 _ _ (hst.ne hp).symm upd_same)) ha ?_
  exact k H1 v hv ((But.of (Same.upd hp)).trans b1) s1
end
end Op

namespace Op
open PySem PySem.Spec PyProof.Rows L2 SX
local macro_rules | `(tactic| walk_at "go1") => `(tactic| first
  | ((with_reducible refine' g_var ?h ?_); (case h => rfl)) | with_reducible refine' g_c ?_ | with_reducible refine' g_op ?_ | with_reducible refine' g_un ?_ | with_reducible refine' g_if ?_ | with_reducible refine' g_test ?_ | with_reducible refine' g_B ?_ | with_reducible refine' g_bl ?_
  | with_reducible refine' g_not ?_ | with_reducible refine' g_and ?_ | with_reducible refine' g_or ?_ | with_reducible refine' g_andV ?_ | with_reducible refine' g_orV ?_ | with_reducible refine' g_notV ?_ | with_reducible refine' g_nil ?_ | with_reducible refine' g_cons ?_ | with_reducible refine' g_CB ?_ | with_reducible refine' g_ca ?_
  | with_reducible refine' g_seq ?_ | with_reducible refine' g_next ?_ | with_reducible refine' g_asg ?_ | with_reducible refine' g_name ?_ | with_reducible refine' g_ret ?_ | with_reducible refine' g_retN ?_ | with_reducible refine' g_drop ?_ | with_reducible refine' g_ifS ?_ | with_reducible refine' g_sub ?_
  | with_reducible refine' g_I0 ?_ | with_reducible refine' g_U ?_ | ((with_reducible refine' g_eq ?h ?_); (case h => rfl)) | ((with_reducible refine' g_ne ?h ?_); (case h => rfl))
  | ((with_reducible refine' g_lenL ?h ?_); (case h => first | assumption | exact SqL.of (by assumption) | exact SqL.of upd_same)) | ((with_reducible refine' g_lenT ?h ?_); (case h => first | assumption | exact SqT.of (by assumption) | exact SqT.of upd_same))
  | ((with_reducible refine' g_ixL ?h ?ha ?_); (case h => first | assumption | exact SqL.of (by assumption) | exact SqL.of upd_same); (case ha => rfl)) | ((with_reducible refine' g_ixT ?h ?ha ?_); (case h => first | assumption | exact SqT.of (by assumption) | exact SqT.of upd_same); (case ha => rfl))
  | ((with_reducible refine' g_I ?h ?_); (case h => first | decide | omega | (first | refine' ⟨?_, ?_, ?_⟩ | refine' ⟨?_, ?_⟩ | refine' Or.inl ⟨?_, ?_⟩) <;> omega | (refine' Or.inr ⟨?_, ?_⟩ <;> omega)))
  | ((with_reducible refine' g_setL ?h ?ha ?_); (case h => first | assumption | exact upd_same); (case ha => rfl))
  | with_reducible refine' g_lcR ?_
  | with_reducible refine' g_M1 ?_ | with_reducible refine' g_isS ?_ | with_reducible refine' g_tyS ?_ | ((with_reducible refine' g_tyL ?h ?_); (case h => first | assumption | exact upd_same))
  | ((with_reducible refine' g_cat ?h ?h2 ?hl ?_); (case h => first | assumption | exact upd_same); (case h2 => first | assumption | exact upd_same); (case hl => first | decide | (simp; omega)))
  | with_reducible refine' g_lcS ?_
  | with_reducible refine' g_starts ?_ | with_reducible refine' g_chain ?_
  | ((with_reducible refine' g_lenS ?h ?_); (case h => first | exact len_le (by assumption) | exact len_le (by omega))) | ((with_reducible refine' g_rstrip ?h ?_); (case h => first | exact len_le (by assumption) | exact len_le (by omega))) | ((with_reducible refine' g_slX ?h ?_); (case h => first | exact len_le (by assumption) | exact len_le (by omega)))
  | with_reducible refine' g_sl ?_ | with_reducible refine' g_nopart ?_ | with_reducible refine' g_part ?_ | with_reducible refine' g_isI ?_
  | with_reducible refine' g_tru ?_
  | with_reducible refine' iteT ?_ | with_reducible refine' iteF ?_ | with_reducible refine' iteNT ?_ | with_reducible refine' iteNF ?_
  | with_reducible refine' g_int ?_ | with_reducible refine' g_insg ?_ | with_reducible refine' g_ninsg ?_ | with_reducible refine' g_isN ?_ | with_reducible refine' g_notN ?_ | with_reducible refine' g_lst ?_ | with_reducible refine' g_tup ?_ | with_reducible refine' g_BM ?_ | with_reducible refine' g_BM0 ?_)
local macro_rules | `(tactic| walk_at "go") => `(tactic| repeat' walk_at "go1")
/-! ## drawn words and names -/
/-- all signs in a .. b -/
def Signs (a b : Nat) (cs : List Nat) : Prop := ∀ c ∈ cs, a ≤ c ∧ c ≤ b
def isWordL (cs : List Nat) : Prop := 1 ≤ cs.length ∧ cs.length ≤ 8 ∧ Signs 97 122 cs
def isNameL (cs : List Nat) : Prop := ∃ as bs, cs = as ++ bs ∧ 1 ≤ as.length ∧ cs.length ≤ 8 ∧ Signs 65 90 as ∧ Signs 48 57 bs
def spWord : Sp := fun vs H Q _ => ∃ (st : Addr) (n : Nat), vs = [.ref st] ∧ StAt H st n ∧ n + 9 ≤ 1000000000000 ∧
  ∀ H' cs, isWordL cs → But st H H' → StAt H' st (n + 9) → Q (.str (S cs)) H'
def spName : Sp := fun vs H Q _ => ∃ (st : Addr) (n : Nat), vs = [.ref st] ∧ StAt H st n ∧ n + 11 ≤ 1000000000000 ∧
  ∀ H' cs, isNameL cs → But st H H' → StAt H' st (n + 11) → Q (.str (S cs)) H'
theorem g_ixS {K : PySem.W.Frag} {H : Hp} {Q : VK} {z : Str} {i : Int} {c : Nat} (h : z.length ≤ sizeLine) (ha : atI z.cps.toList i = some c) (k : Q (.str (S [c])) H) : rIxS (.str z) (.int i) H Q := ⟨z, i, c, rfl, rfl, h, ha, k⟩
theorem at_ltL {α : Type} {xs : List α} {d : Nat} (h : d < xs.length) : ∃ v, v ∈ xs ∧ atI xs ((d : Nat) : Int) = some v := ⟨xs[d], List.getElem_mem h, atI_nat (List.getElem?_eq_getElem h)⟩
theorem joinL_signs : ∀ cs : List Nat, TL.joinL [] (cs.map fun c => [c]) = cs
  | [] => rfl
  | [c] => rfl
  | c :: d :: r => by
    have ih := joinL_signs (d :: r)
    show [c] ++ ([] ++ TL.joinL [] ((d :: r).map fun c => [c])) = c :: d :: r
    rw [ih]
    rfl
theorem signs_map (cs : List Nat) : (cs.map fun c => V.str (S [c])) = ((cs.map fun c => [c]).map S).map V.str := by rw [List.map_map, List.map_map]; rfl
theorem join_signs (cs : List Nat) : Txt.join (Str.ofString "") ((cs.map fun c => [c]).map S) = S cs := by
  rw [show Str.ofString "" = S [] by decide +kernel, join_S, joinL_signs]
theorem sum_ones : ∀ cs : List Nat, (((cs.map fun c => [c]).map S).map (·.length)).sum = cs.length
  | [] => rfl
  | c :: r => by
    have ih := sum_ones r
    show (S [c]).length + (((r.map fun c => [c]).map S).map (·.length)).sum = r.length + 1
    rw [ih, S_len]
    show 1 + r.length = r.length + 1
    omega
/-- [sign of the alphabet, drawn, for k in range(n)] -/
theorem lc_signs {σ : L2.St} {H1 : Hp} {Q : VK} {j m n lo hi : Nat} {vs : List Nat} {st : Addr} {z : Str} {zm N : Int} (hm : zm = (m : Int)) (hz : z.cps.toList.length = m) (hl : z.length ≤ sizeLine) (h0 : 0 < m) (h1 : m < 1000000) (hr : ∀ c ∈ z.cps.toList, lo ≤ c ∧ c ≤ hi) (hN : 0 ≤ N ∧ N < 1000000)
    (hw : ∀ x, wipe ((wipe σ vs).set j (some x)) vs = wipe σ vs) (hs0 : ∀ x, ((wipe σ vs).set j (some x))[0]? = some (some (V.ref st))) (hst : StAt H1 st n) (hn : n + N.toNat ≤ 1000000000000)
    (k : ∀ D H2 cs, H1 D = none → But st H1 H2 → StAt H2 st (n + N.toNat) → H2 D = some (.lst (cs.map fun c => V.str (S [c]))) → (cs.length : Int) = N → Signs lo hi cs → Q (.ref D) H2) :
    rLcR j (tOp rIxS (tC (.str z)) (tCa spDraw (tCons (tVar 0) (tCons (tC (.int zm)) tNil)))) vs σ [.int N] H1 Q := by
  refine r_lcR (fun D i acc H2 => But st H1 H2 ∧ StAt H2 st (n + i) ∧ ∃ cs, acc = cs.map (fun c => V.str (S [c])) ∧ Signs lo hi cs) hN hw (fun D hD => ?_) (fun D i acc H2 hD hi hacc hlen J => ?_) (fun D acc H2 hD hacc hlen J => ?_)
  · exact ⟨But.of (Same.upd hD), hst.same (Same.upd hD), [], rfl, fun c hc => nomatch hc⟩
  · obtain ⟨b2, s2, cs, rfl, hcs⟩ := J
    refine g_op (g_c (g_ca (g_cons (g_var (hs0 _) (g_cons (g_c (g_nil ?_)))))))
    refine g_draw hm h0 h1 s2 (by omega) fun H3 d hd b3 s3 => ?_
    obtain ⟨c, hc, ha⟩ := at_ltL (xs := z.cps.toList) (d := d) (by omega)
    have nD : D ≠ st := (hst.ne hD).symm
    refine g_ixS (K := []) hl ha (lcPost.of (b3 _ _ nD hacc) hlen (by omega) ⟨fun b o hb e => ?_, ?_, cs ++ [c], by rw [List.map_append]; rfl, fun y hy => ?_⟩)
    · rw [upd_ne (ne_of_none e hD)]
      exact b3 _ _ hb (b2 _ _ hb e)
    · obtain ⟨a1, a2, a3, e, r⟩ := s3
      exact ⟨a1, a2, a3, by rw [upd_ne nD.symm]; exact e, r⟩
    · rcases List.mem_append.mp hy with hy | hy
      · exact hcs y hy
      · rw [List.mem_singleton.mp hy]
        exact hr c hc
  · obtain ⟨b2, s2, cs, rfl, hcs⟩ := J
    exact k D H2 cs hD b2 s2 hacc (by rw [List.length_map] at hlen; exact hlen) hcs
section
variable {P : Program} {w : World} {K : PySem.W.Frag} {mg : Str → Option Value} {base : Heap}
theorem ca_word (T : Bl K mg) (D : Df K mg "_law_word" s_law_word p_law_word) (c_law_draw : Ca P w K mg base 1 "_law_draw" spDraw) : Ca P w K mg base 2 "_law_word" spWord := by
  refine ca_n D sc_law_word (fun vs H Q E h => ?_) (fun f cdv A outer s H vs Q E hr h => ?_)
  · obtain ⟨st, n, rfl, _⟩ := h
    rfl
  · obtain ⟨st, n, rfl, hst, hn, q⟩ := h
    refine ⟨_, (pss_cons (ps_set (i := 1) sc_law_word.nd rfl (Or.inl rfl) (pe_ix ix_list (pe_lst (pa_cons pe_int (pa_cons pe_int (pa_cons pe_int (pa_cons pe_int (pa_cons pe_int (pa_cons pe_int pa_nil))))))) (pe_ca c_law_draw hr (by decide) (by rfl) (pa_cons (pv 0) (pa_cons pe_int pa_nil))) (fun _ _ => rfl)))
  (pss_one (ps_ret (pq_join pe_str (pe_lc (own := [("_law_k", 2)]) (g := gName 2) (tt := tYes) rfl sc_law_word.nd (pi_range1 rfl T.b_range (pa_cons (pv 1) pa_nil)) (blkOk_by (own := [("_law_k", 2)]) (N := N_law_word) (sc := defScope s_law_word) (by decide +kernel)) (fun _ _ _ _ _ => pg_name (i := 2) sc_law_word.nd rfl (Or.inl rfl)) (fun _ _ _ _ _ => pts_nil) (fun _ _ _ _ _ => (pe_ix ix_str pe_str (pe_ca c_law_draw hr (by decide) (by rfl) (pa_cons (pv 0) (pa_cons pe_int pa_nil))) (fun _ _ => rfl)))))))), ?_⟩
    walk_at "go"
    refine ⟨by show 6 ≤ sizeLine; decide, fun p hp => ?_⟩
    walk_at "go"
    refine' g_pick ?hz hp hst ?hn ?h0 ?h1 ?_
    case hz => rfl
    case hn => omega
    case h0 => decide
    case h1 => decide
    intro H1 v hv b1 s1
    obtain ⟨z, rfl, hz1, hz2⟩ : ∃ z : Int, v = .int z ∧ 1 ≤ z ∧ z ≤ 8 := by
      simp only [List.mem_cons, List.not_mem_nil, or_false] at hv
      rcases hv with rfl | rfl | rfl | rfl | rfl | rfl <;> exact ⟨_, rfl, by decide, by decide⟩
    walk_at "go"
    refine lc_signs (m := 26) (lo := 97) (hi := 122) (n := n + 1) rfl (by decide +kernel) (by decide +kernel) (by decide) (by decide) (by decide +kernel) ⟨by omega, by omega⟩ (fun _ => rfl) (fun _ => rfl) s1 (by omega) fun D H2 cs hD b2 s2 hacc hlen hcs => ?_
    refine g_join (by rw [← signs_map]; exact SqL.of hacc) ?_ ?_
    · rw [sum_ones, List.length_map, List.length_map, show (Str.ofString "").length = 0 by decide +kernel]
      omega
    · rw [join_signs]
      exact q _ cs ⟨by omega, by omega, hcs⟩ (b1.trans b2) (s2.mono (by omega))
theorem ca_name (T : Bl K mg) (D : Df K mg "_law_name" s_law_name p_law_name) (c_law_draw : Ca P w K mg base 1 "_law_draw" spDraw) : Ca P w K mg base 2 "_law_name" spName := by
  refine ca_n D sc_law_name (fun vs H Q E h => ?_) (fun f cdv A outer s H vs Q E hr h => ?_)
  · obtain ⟨st, n, rfl, _⟩ := h
    rfl
  · obtain ⟨st, n, rfl, hst, hn, q⟩ := h
    refine ⟨_, (pss_cons (ps_set (i := 1) sc_law_name.nd rfl (Or.inl rfl) (pe_ix ix_list (pe_lst (pa_cons pe_int (pa_cons pe_int (pa_cons pe_int (pa_cons pe_int (pa_cons pe_int (pa_cons pe_int pa_nil))))))) (pe_ca c_law_draw hr (by decide) (by rfl) (pa_cons (pv 0) (pa_cons pe_int pa_nil))) (fun _ _ => rfl)))
  (pss_cons (ps_set (i := 2) sc_law_name.nd rfl (Or.inl rfl) (pe_ix ix_list (pe_lst (pa_cons pe_int (pa_cons pe_int (pa_cons pe_int (pa_cons pe_int (pa_cons pe_int pa_nil)))))) (pe_ca c_law_draw hr (by decide) (by rfl) (pa_cons (pv 0) (pa_cons pe_int pa_nil))) (fun _ _ => rfl)))
  (pss_cons (ps_setLc (i := 3) (own := [("_law_k", 4)]) (g := gName 4) (tt := tYes) rfl sc_law_name.nd rfl rfl (sw_true rfl rfl rfl (by decide +kernel)) (pi_range1 rfl T.b_range (pa_cons (pe_callB (cr_max rfl) (by rfl) T.b_max (by decide +kernel) (pa_cons (pe_lst (pa_cons pe_int (pa_cons (pe_op op_sub (pv 1) (pv 2)) pa_nil))) pa_nil)) pa_nil)) (blkOk_by (own := [("_law_k", 4)]) (N := N_law_name) (sc := defScope s_law_name) (by decide +kernel)) (fun _ _ _ _ _ => pg_name (i := 4) sc_law_name.nd rfl (Or.inl rfl)) (fun _ _ _ _ _ => pts_nil) (fun _ _ _ _ _ => (pe_ix ix_str pe_str (pe_ca c_law_draw hr (by decide) (by rfl) (pa_cons (pv 0) (pa_cons pe_int pa_nil))) (fun _ _ => rfl))))
  (pss_one (ps_ret (pq_join pe_str (pe_op op_cat (pv 3) (pe_lc (own := [("_law_k", 4)]) (g := gName 4) (tt := tYes) rfl sc_law_name.nd (pi_range1 rfl T.b_range (pa_cons (pe_op op_sub (pv 1) (pe_callB cq_len (by rfl) T.b_len (by decide +kernel) (pa_cons (pv 3) pa_nil))) pa_nil)) (blkOk_by (own := [("_law_k", 4)]) (N := N_law_name) (sc := defScope s_law_name) (by decide +kernel)) (fun _ _ _ _ _ => pg_name (i := 4) sc_law_name.nd rfl (Or.inl rfl)) (fun _ _ _ _ _ => pts_nil) (fun _ _ _ _ _ => (pe_ix ix_str pe_str (pe_ca c_law_draw hr (by decide) (by rfl) (pa_cons (pv 0) (pa_cons pe_int pa_nil))) (fun _ _ => rfl))))))))))), ?_⟩
    walk_at "go"
    refine ⟨by show 6 ≤ sizeLine; decide, fun p hp => ?_⟩
    walk_at "go"
    refine' g_pick ?hz hp hst ?hn ?h0 ?h1 ?_
    case hz => rfl
    case hn => omega
    case h0 => decide
    case h1 => decide
    intro H1 v hv b1 s1
    obtain ⟨z, rfl, hz1, hz2⟩ : ∃ z : Int, v = .int z ∧ 1 ≤ z ∧ z ≤ 8 := by
      simp only [List.mem_cons, List.not_mem_nil, or_false] at hv
      rcases hv with rfl | rfl | rfl | rfl | rfl | rfl <;> exact ⟨_, rfl, by decide, by decide⟩
    walk_at "go"
    refine ⟨by show 5 ≤ sizeLine; decide, fun p2 hp2 => ?_⟩
    walk_at "go"
    refine' g_pick ?hz hp2 s1 ?hn ?h0 ?h1 ?_
    case hz => rfl
    case hn => omega
    case h0 => decide
    case h1 => decide
    intro H2 v hv b2 s2
    obtain ⟨y, rfl, hy1, hy2⟩ : ∃ z : Int, v = .int z ∧ 0 ≤ z ∧ z ≤ 2 := by
      simp only [List.mem_cons, List.not_mem_nil, or_false] at hv
      rcases hv with rfl | rfl | rfl | rfl | rfl <;> exact ⟨_, rfl, by decide, by decide⟩
    walk_at "go"
    refine ⟨by show 2 ≤ sizeLine; decide, fun p3 hp3 => ?_⟩
    refine ⟨p3, [1, z - y], rfl, SqL.of upd_same, Nat.zero_lt_succ _, fun m hm1 hm2 => ?_⟩
    have m1 : 1 ≤ m := hm2 1 (List.mem_cons_self ..)
    have m2 : z - y ≤ m := hm2 _ (List.mem_cons_of_mem _ (List.mem_cons_self ..))
    have m3 : m = 1 ∨ m = z - y := by
      simp only [List.mem_cons, List.not_mem_nil, or_false] at hm1
      exact hm1
    walk_at "go"
    refine lc_signs (m := 26) (lo := 65) (hi := 90) (n := n + 1 + 1) rfl (by decide +kernel) (by decide +kernel) (by decide) (by decide) (by decide +kernel) ⟨by omega, by omega⟩ (fun _ => rfl) (fun _ => rfl) (s2.same (Same.upd hp3)) (by omega) fun D3 H3 as hD3 b3 s3 hacc3 hlen3 has => ?_
    walk_at "go"
    have nD3 : D3 ≠ st := ((s2.same (Same.upd hp3)).ne hD3).symm
    have eN : (((as.map fun c => V.str (S [c])).length : Nat) : Int) = m := by rw [List.length_map]; exact hlen3
    rw [eN]
    refine lc_signs (m := 10) (lo := 48) (hi := 57) (n := n + 1 + 1 + m.toNat) rfl (by decide +kernel) (by decide +kernel) (by decide) (by decide) (by decide +kernel) ⟨by omega, by omega⟩ (fun _ => rfl) (fun _ => rfl) s3 (by omega) fun D4 H4 bs hD4 b4 s4 hacc4 hlen4 hbs => ?_
    refine g_cat (b4 _ _ nD3 hacc3) hacc4 (by rw [List.length_map, List.length_map, sizeLine_eq]; omega) fun p5 hp5 => ?_
    rw [← List.map_append]
    refine g_join (by rw [← signs_map]; exact SqL.of upd_same) ?_ ?_
    · rw [sum_ones, List.length_map, List.length_map, List.length_append, show (Str.ofString "").length = 0 by decide +kernel]
      omega
    · rw [join_signs]
      have b5 : But st H2 H4 := (But.of (Same.upd hp3)).trans (b3.trans b4)
      exact q _ (as ++ bs) ⟨as, bs, rfl, by omega, by rw [List.length_append]; omega, has, hbs⟩ ((b1.trans (b2.trans b5)).trans (But.of (Same.upd hp5))) ((s4.same (Same.upd hp5)).mono (by omega))
end
end Op

namespace Op
open PySem PySem.Spec PyProof.Rows L2 SX
local macro_rules | `(tactic| walk_at "go1") => `(tactic| first
  | ((with_reducible refine' g_var ?h ?_); (case h => rfl)) | with_reducible refine' g_c ?_ | with_reducible refine' g_op ?_ | with_reducible refine' g_un ?_ | with_reducible refine' g_if ?_ | with_reducible refine' g_test ?_ | with_reducible refine' g_B ?_ | with_reducible refine' g_bl ?_
  | with_reducible refine' g_not ?_ | with_reducible refine' g_and ?_ | with_reducible refine' g_or ?_ | with_reducible refine' g_andV ?_ | with_reducible refine' g_orV ?_ | with_reducible refine' g_notV ?_ | with_reducible refine' g_nil ?_ | with_reducible refine' g_cons ?_ | with_reducible refine' g_CB ?_ | with_reducible refine' g_ca ?_
  | with_reducible refine' g_seq ?_ | with_reducible refine' g_next ?_ | with_reducible refine' g_asg ?_ | with_reducible refine' g_name ?_ | with_reducible refine' g_ret ?_ | with_reducible refine' g_retN ?_ | with_reducible refine' g_drop ?_ | with_reducible refine' g_ifS ?_ | with_reducible refine' g_sub ?_
  | with_reducible refine' g_I0 ?_ | with_reducible refine' g_U ?_ | ((with_reducible refine' g_eq ?h ?_); (case h => rfl)) | ((with_reducible refine' g_ne ?h ?_); (case h => rfl))
  | ((with_reducible refine' g_lenL ?h ?_); (case h => first | assumption | exact SqL.of (by assumption) | exact SqL.of upd_same)) | ((with_reducible refine' g_lenT ?h ?_); (case h => first | assumption | exact SqT.of (by assumption) | exact SqT.of upd_same))
  | ((with_reducible refine' g_ixL ?h ?ha ?_); (case h => first | assumption | exact SqL.of (by assumption) | exact SqL.of upd_same); (case ha => rfl)) | ((with_reducible refine' g_ixT ?h ?ha ?_); (case h => first | assumption | exact SqT.of (by assumption) | exact SqT.of upd_same); (case ha => rfl))
  | ((with_reducible refine' g_I ?h ?_); (case h => first | decide | omega | (first | refine' ⟨?_, ?_, ?_⟩ | refine' ⟨?_, ?_⟩ | refine' Or.inl ⟨?_, ?_⟩) <;> omega | (refine' Or.inr ⟨?_, ?_⟩ <;> omega)))
  | ((with_reducible refine' g_setL ?h ?ha ?_); (case h => first | assumption | exact upd_same); (case ha => rfl))
  | with_reducible refine' g_lcR ?_
  | with_reducible refine' g_M1 ?_ | with_reducible refine' g_isS ?_ | with_reducible refine' g_tyS ?_ | ((with_reducible refine' g_tyL ?h ?_); (case h => first | assumption | exact upd_same))
  | ((with_reducible refine' g_cat ?h ?h2 ?hl ?_); (case h => first | assumption | exact upd_same); (case h2 => first | assumption | exact upd_same); (case hl => first | decide | (simp; omega)))
  | with_reducible refine' g_lcS ?_
  | with_reducible refine' g_starts ?_ | with_reducible refine' g_chain ?_
  | ((with_reducible refine' g_lenS ?h ?_); (case h => first | exact len_le (by assumption) | exact len_le (by omega))) | ((with_reducible refine' g_rstrip ?h ?_); (case h => first | exact len_le (by assumption) | exact len_le (by omega))) | ((with_reducible refine' g_slX ?h ?_); (case h => first | exact len_le (by assumption) | exact len_le (by omega)))
  | with_reducible refine' g_sl ?_ | with_reducible refine' g_nopart ?_ | with_reducible refine' g_part ?_ | with_reducible refine' g_isI ?_
  | with_reducible refine' g_tru ?_
  | with_reducible refine' iteT ?_ | with_reducible refine' iteF ?_ | with_reducible refine' iteNT ?_ | with_reducible refine' iteNF ?_
  | with_reducible refine' g_int ?_ | with_reducible refine' g_insg ?_ | with_reducible refine' g_ninsg ?_ | with_reducible refine' g_isN ?_ | with_reducible refine' g_notN ?_ | with_reducible refine' g_lst ?_ | with_reducible refine' g_tup ?_ | with_reducible refine' g_BM ?_ | with_reducible refine' g_BM0 ?_)
local macro_rules | `(tactic| walk_at "go") => `(tactic| repeat' walk_at "go1")
/-! ## the program's atoms -/
def smallL : List Nat := (Str.ofString "abcdefghijklmnopqrstuvwxyz").cps.toList
def capL : List Nat := (Str.ofString "ABCDEFGHIJKLMNOPQRSTUVWXYZ").cps.toList
def digL : List Nat := (Str.ofString "0123456789").cps.toList
theorem small_S : Str.ofString "abcdefghijklmnopqrstuvwxyz" = S smallL := (S_tl _).symm
theorem cap_S : Str.ofString "ABCDEFGHIJKLMNOPQRSTUVWXYZ" = S capL := (S_tl _).symm
theorem dig_S : Str.ofString "0123456789" = S digL := (S_tl _).symm
def allIn (cs ss : List Nat) : Bool := cs.all fun c => decide (c ∈ ss)
/-- cs without the digits at its end -/
def noDig (cs : List Nat) : List Nat := (cs.reverse.dropWhile fun c => digL.contains c).reverse
def isWordB (cs : List Nat) : Bool := decide (1 ≤ cs.length) && (decide (cs.length ≤ 8) && allIn cs smallL)
def isNameB (cs : List Nat) : Bool := decide (1 ≤ (noDig cs).length) && (decide (cs.length ≤ 8) && allIn (noDig cs) capL)
def isUnkB (cs : List Nat) : Bool := decide (1 ≤ cs.length) && (decide (cs.length ≤ 7) && allIn cs smallL)
abbrev kWord : Str := Str.ofString "word"
abbrev kName : Str := Str.ofString "name"
abbrev kUnk : Str := Str.ofString "unknown"
/-- the atom with this text: its kind, its own text -/
def kindOf (cs : List Nat) : Option (Str × List Nat) :=
  if isWordB cs then some (kWord, cs) else if isNameB cs then some (kName, cs) else if cs.head? = some 63 ∧ isUnkB cs.tail = true then some (kUnk, cs.tail) else none
theorem starts_q (cs : List Nat) : Txt.startswith (S cs) (Str.ofString "?") = decide (cs.head? = some 63) := by
  rw [show Str.ofString "?" = S [63] by decide +kernel]
  unfold Txt.startswith Builtin.Str.subAt
  rw [S_len, S_len]
  cases cs with
  | nil => rfl
  | cons c r =>
    have e : (S (c :: r)).cps.extract 0 (0 + [63].length) = [c].toArray := by simp [S]
    rw [e]
    show (decide (0 + 1 ≤ (c :: r).length) && ([c].toArray == [63].toArray)) = decide (some c = some 63)
    by_cases h : c = 63
    · subst h; simp
    · simp [h]
theorem take_drop {p : Nat → Bool} (cs : List Nat) : cs.take (cs.length - (cs.reverse.takeWhile p).length) = (cs.reverse.dropWhile p).reverse := by
  have h : cs.reverse.takeWhile p ++ cs.reverse.dropWhile p = cs.reverse := List.takeWhile_append_dropWhile
  have h2 : cs = (cs.reverse.dropWhile p).reverse ++ (cs.reverse.takeWhile p).reverse := by
    rw [← List.reverse_append, h, List.reverse_reverse]
  have hl : cs.length = (cs.reverse.dropWhile p).length + (cs.reverse.takeWhile p).length := by
    have := congrArg List.length h2
    rw [List.length_append, List.length_reverse, List.length_reverse] at this
    exact this
  have e : cs.length - (cs.reverse.takeWhile p).length = (cs.reverse.dropWhile p).reverse.length := by rw [List.length_reverse]; omega
  rw [e]
  generalize (cs.reverse.dropWhile p).reverse = X at h2 ⊢
  rw [h2]
  exact List.take_left
theorem rstrip_dig (cs : List Nat) : Txt.rstripChars (S cs) (Str.ofString "0123456789") = S (noDig cs) := by
  have hc : (Str.ofString "0123456789").cps.contains = fun c => digL.contains c := by
    funext c
    show (Str.ofString "0123456789").cps.contains c = (Str.ofString "0123456789").cps.toList.contains c
    rw [Bool.eq_iff_iff]
    simp
  have h1 : stripLo (fun c => digL.contains c) false (S cs) = 0 := rfl
  have h2 : stripHi (fun c => digL.contains c) true (S cs) 0 = cs.length - (cs.reverse.takeWhile fun c => digL.contains c).length := by
    unfold stripHi
    rw [if_pos rfl, S_len]
    rfl
  have h3 := take_drop (p := fun c => digL.contains c) cs
  unfold Txt.rstripChars Txt.stripBy
  rw [hc]
  unfold stripSame stripped
  rw [h1, h2, S_len]
  unfold noDig
  rw [← h3]
  generalize cs.length - (cs.reverse.takeWhile fun c => digL.contains c).length = m
  by_cases e : m = cs.length
  · rw [if_pos (by simp [e]), e, List.take_length]
  · rw [if_neg (by simp [e])]
    unfold Builtin.Str.strSub
    exact TL.ext_tl (by show ((S cs).cps.extract 0 _).toList = _; simp [S])
def spMadeOf : Sp := fun vs H Q _ => ∃ cs ss : List Nat, vs = [.str (S cs), .str (S ss)] ∧ cs.length < 1000000 ∧ ∀ H', Same H H' → Q (.bl (allIn cs ss)) H'
def spTextB (p : List Nat → Bool) : Sp := fun vs H Q _ => ∃ cs : List Nat, vs = [.str (S cs)] ∧ cs.length < 1000000 ∧ ∀ H', Same H H' → Q (.bl (p cs)) H'
section
variable {P : Program} {w : World} {K : PySem.W.Frag} {mg : Str → Option Value} {base : Heap}
theorem all_map_bl (cs : List Nat) (p : Nat → Bool) : (cs.map fun c => V.bl (p c)) = (cs.map p).map V.bl := by rw [List.map_map]; rfl
theorem ca_made_of (T : Bl K mg) (D : Df K mg "made_of" s_made_of p_made_of) : Ca P w K mg base 1 "made_of" spMadeOf := by
  refine ca_n D sc_made_of (fun vs H Q E h => ?_) (fun f cdv A outer s H vs Q E hr h => ?_)
  · obtain ⟨cs, ss, rfl, _⟩ := h
    rfl
  · obtain ⟨cs, ss, rfl, hl, q⟩ := h
    refine ⟨_, (pss_one (ps_ret (pe_callB (cr_all rfl) (by rfl) T.b_all (by decide +kernel) (pa_cons (pe_lc (own := [("sign", 2)]) (g := gName 2) (tt := tYes) rfl sc_made_of.nd (pi_str (pv 0)) (blkOk_by (own := [("sign", 2)]) (N := N_made_of) (sc := defScope s_made_of) (by decide +kernel)) (fun _ _ _ _ _ => pg_name (i := 2) sc_made_of.nd rfl (Or.inl rfl)) (fun _ _ _ _ _ => pts_nil) (fun _ _ _ _ _ => (pe_cmpR oq_insg (pv 2) (pv 1) rfl))) pa_nil)))), ?_⟩
    walk_at "go"
    refine r_lcS1 (fun c => .bl (decide (c ∈ ss))) hl (fun _ => rfl) (fun c H2 R hc hS r => ?_) fun D hD => ?_
    · walk_at "go"
      exact r
    · rw [all_map_bl]
      refine g_all (SqL.of upd_same) ?_
      rw [List.all_map]
      exact q _ (Same.upd hD)
theorem ca_is_word (T : Bl K mg) (D : Df K mg "is_word" s_is_word p_is_word) (c_made_of : Ca P w K mg base 1 "made_of" spMadeOf) : Ca P w K mg base 2 "is_word" (spTextB isWordB) := by
  refine ca_n D sc_is_word (fun vs H Q E h => ?_) (fun f cdv A outer s H vs Q E hr h => ?_)
  · obtain ⟨cs, rfl, _⟩ := h
    rfl
  · obtain ⟨cs, rfl, hl, q⟩ := h
    refine ⟨_, (pss_one (ps_ret (pe_and (pe_chain op_le op_le pe_int (pe_callB cq_lens (by rfl) T.b_len (by decide +kernel) (pa_cons (pv 0) pa_nil)) pe_int) (pe_one (pe_ca c_made_of hr (by decide) (by rfl) (pa_cons (pv 0) (pa_cons (C8.pe_gc (by rfl) T.c_SMALL) pa_nil))))))), ?_⟩
    walk_at "go"
    rw [S_len]
    refine iteD (fun h1 => ?_) (fun h1 => ?_)
    · walk_at "go"
      refine iteD (fun h2 => ?_) (fun h2 => ?_)
      · walk_at "go"
        rw [small_S]
        refine ⟨cs, smallL, rfl, hl, fun H' hS => ?_⟩
        have e : isWordB cs = allIn cs smallL := by unfold isWordB; rw [decide_eq_true (by omega : 1 ≤ cs.length), decide_eq_true (by omega : cs.length ≤ 8)]; rfl
        rw [← e]
        exact q _ hS
      · have e : isWordB cs = false := by unfold isWordB; rw [decide_eq_false (by omega : ¬ cs.length ≤ 8), Bool.false_and, Bool.and_false]
        rw [← e]
        exact q _ (Same.refl _)
    · walk_at "go"
      have e : isWordB cs = false := by unfold isWordB; rw [decide_eq_false (by omega : ¬ 1 ≤ cs.length), Bool.false_and]
      rw [← e]
      exact q _ (Same.refl _)
theorem ca_is_unknown (T : Bl K mg) (D : Df K mg "is_unknown" s_is_unknown p_is_unknown) (c_made_of : Ca P w K mg base 1 "made_of" spMadeOf) : Ca P w K mg base 2 "is_unknown" (spTextB isUnkB) := by
  refine ca_n D sc_is_unknown (fun vs H Q E h => ?_) (fun f cdv A outer s H vs Q E hr h => ?_)
  · obtain ⟨cs, rfl, _⟩ := h
    rfl
  · obtain ⟨cs, rfl, hl, q⟩ := h
    refine ⟨_, (pss_one (ps_ret (pe_and (pe_chain op_le op_le pe_int (pe_callB cq_lens (by rfl) T.b_len (by decide +kernel) (pa_cons (pv 0) pa_nil)) pe_int) (pe_one (pe_ca c_made_of hr (by decide) (by rfl) (pa_cons (pv 0) (pa_cons (C8.pe_gc (by rfl) T.c_SMALL) pa_nil))))))), ?_⟩
    walk_at "go"
    rw [S_len]
    refine iteD (fun h1 => ?_) (fun h1 => ?_)
    · walk_at "go"
      refine iteD (fun h2 => ?_) (fun h2 => ?_)
      · walk_at "go"
        rw [small_S]
        refine ⟨cs, smallL, rfl, hl, fun H' hS => ?_⟩
        have e : isUnkB cs = allIn cs smallL := by unfold isUnkB; rw [decide_eq_true (by omega : 1 ≤ cs.length), decide_eq_true (by omega : cs.length ≤ 7)]; rfl
        rw [← e]
        exact q _ hS
      · have e : isUnkB cs = false := by unfold isUnkB; rw [decide_eq_false (by omega : ¬ cs.length ≤ 7), Bool.false_and, Bool.and_false]
        rw [← e]
        exact q _ (Same.refl _)
    · walk_at "go"
      have e : isUnkB cs = false := by unfold isUnkB; rw [decide_eq_false (by omega : ¬ 1 ≤ cs.length), Bool.false_and]
      rw [← e]
      exact q _ (Same.refl _)
theorem noDig_len (cs : List Nat) : (noDig cs).length ≤ cs.length := by
  unfold noDig
  rw [List.length_reverse, ← List.length_reverse (as := cs)]
  exact List.Sublist.length_le (List.dropWhile_sublist _)
theorem ca_is_name (T : Bl K mg) (D : Df K mg "is_name" s_is_name p_is_name) (c_made_of : Ca P w K mg base 1 "made_of" spMadeOf) : Ca P w K mg base 2 "is_name" (spTextB isNameB) := by
  refine ca_n D sc_is_name (fun vs H Q E h => ?_) (fun f cdv A outer s H vs Q E hr h => ?_)
  · obtain ⟨cs, rfl, _⟩ := h
    rfl
  · obtain ⟨cs, rfl, hl, q⟩ := h
    refine ⟨_, (pss_cons (ps_set (i := 1) sc_is_name.nd rfl (Or.inl rfl) (pe_bm PySem.F.plainAttrs_str PySem.F.slot_str_rstrip PySem.F.type_str_rstrip mq_rstrip (pv 0) (pa_cons (C8.pe_gc (by rfl) T.c_DIGITS) pa_nil)))
  (pss_one (ps_ret (pe_and (pe_cmpR op_le pe_int (pe_callB cq_lens (by rfl) T.b_len (by decide +kernel) (pa_cons (pv 1) pa_nil)) (nomark _)) (pe_and (pe_cmpR op_le (pe_callB cq_lens (by rfl) T.b_len (by decide +kernel) (pa_cons (pv 0) pa_nil)) pe_int (nomark _)) (pe_one (pe_ca c_made_of hr (by decide) (by rfl) (pa_cons (pv 1) (pa_cons (C8.pe_gc (by rfl) T.c_CAPITALS) pa_nil))))))))), ?_⟩
    walk_at "go"
    rw [rstrip_dig]
    have hl2 := Nat.lt_of_le_of_lt (noDig_len cs) hl
    walk_at "go"
    rw [S_len]
    refine iteD (fun h1 => ?_) (fun h1 => ?_)
    · walk_at "go"
      rw [S_len]
      refine iteD (fun h2 => ?_) (fun h2 => ?_)
      · walk_at "go"
        rw [cap_S]
        refine ⟨noDig cs, capL, rfl, hl2, fun H' hS => ?_⟩
        have e : isNameB cs = allIn (noDig cs) capL := by unfold isNameB; rw [decide_eq_true (by omega : 1 ≤ (noDig cs).length), decide_eq_true (by omega : cs.length ≤ 8)]; rfl
        rw [← e]
        exact q _ hS
      · have e : isNameB cs = false := by unfold isNameB; rw [decide_eq_false (by omega : ¬ cs.length ≤ 8), Bool.false_and, Bool.and_false]
        rw [← e]
        exact q _ (Same.refl _)
    · have e : isNameB cs = false := by unfold isNameB; rw [decide_eq_false (by omega : ¬ 1 ≤ (noDig cs).length), Bool.false_and]
      rw [← e]
      exact q _ (Same.refl _)
/-- None, or the tuple of an atom -/
def AtomV (H : Hp) : Option (Str × List Nat) → V → Prop
  | none, v => v = .non
  | some (k, t), v => ∃ p, v = .ref p ∧ H p = some (.tup [.str k, .str (S t)])
def spAtomForm : Sp := fun vs H Q _ => ∃ cs : List Nat, vs = [.str (S cs)] ∧ cs.length < 1000000 ∧ ∀ H' v, Same H H' → AtomV H' (kindOf cs) v → Q v H'
theorem slice_one {cs : List Nat} : Txt.slice (S cs) (some 1) none = S cs.tail := by
  rw [slice_from (by decide)]
  show S (cs.drop 1) = S cs.tail
  rw [List.drop_one]
theorem ca_atom_form (T : Bl K mg) (D : Df K mg "atom_form" s_atom_form p_atom_form) (c_is_word : Ca P w K mg base 2 "is_word" (spTextB isWordB)) (c_is_name : Ca P w K mg base 2 "is_name" (spTextB isNameB)) (c_is_unknown : Ca P w K mg base 2 "is_unknown" (spTextB isUnkB)) :
    Ca P w K mg base 3 "atom_form" spAtomForm := by
  refine ca_n D sc_atom_form (fun vs H Q E h => ?_) (fun f cdv A outer s H vs Q E hr h => ?_)
  · obtain ⟨cs, rfl, _⟩ := h
    rfl
  · obtain ⟨cs, rfl, hl, q⟩ := h
    refine ⟨_, (pss_cons (ps_if (pt_val (pe_ca c_is_word hr (by decide) (by rfl) (pa_cons (pv 0) pa_nil)))
  (pss_one (ps_ret (pe_tup (pa_cons pe_str (pa_cons (pv 0) pa_nil)))))
  pss_nil)
  (pss_cons (ps_if (pt_val (pe_ca c_is_name hr (by decide) (by rfl) (pa_cons (pv 0) pa_nil)))
  (pss_one (ps_ret (pe_tup (pa_cons pe_str (pa_cons (pv 0) pa_nil)))))
  pss_nil)
  (pss_cons (ps_if (PW.pt (pw_and (pt_val (pe_m1 PySem.F.slot_str_startswith PySem.F.type_str_startswith mq_starts (pv 0) pe_str)) (pw_and1 (pt_val (pe_ca c_is_unknown hr (by decide) (by rfl) (pa_cons (pe_slice C8.sl_txt (pv 0) (po_some pe_int) po_none) pa_nil))))))
  (pss_one (ps_ret (pe_tup (pa_cons pe_str (pa_cons (pe_slice C8.sl_txt (pv 0) (po_some pe_int) po_none) pa_nil)))))
  pss_nil)
  (pss_one (ps_ret pe_non))))), ?_⟩
    walk_at "go"
    refine ⟨cs, rfl, hl, fun H1 e1 => ?_⟩
    walk_at "go"
    refine iteB (fun h1 => ?_) (fun h1 => ?_)
    · walk_at "go"
      refine ⟨by show 2 ≤ sizeLine; decide, fun p hp => ?_⟩
      refine q _ _ (e1.trans (Same.upd hp)) ?_
      unfold kindOf
      rw [if_pos h1]
      exact ⟨p, rfl, upd_same⟩
    walk_at "go"
    refine ⟨cs, rfl, hl, fun H2 e2 => ?_⟩
    walk_at "go"
    refine iteB (fun h2 => ?_) (fun h2 => ?_)
    · walk_at "go"
      refine ⟨by show 2 ≤ sizeLine; decide, fun p hp => ?_⟩
      refine q _ _ ((e1.trans e2).trans (Same.upd hp)) ?_
      unfold kindOf
      rw [if_neg (by rw [h1]; decide), if_pos h2]
      exact ⟨p, rfl, upd_same⟩
    walk_at "go"
    rw [starts_q]
    refine iteD (fun h3 => ?_) (fun h3 => ?_)
    · walk_at "go"
      rw [slice_one]
      refine ⟨cs.tail, rfl, by rw [List.length_tail]; omega, fun H3 e3 => ?_⟩
      walk_at "go"
      refine iteB (fun h4 => ?_) (fun h4 => ?_)
      · walk_at "go"
        rw [slice_one]
        refine ⟨by show 2 ≤ sizeLine; decide, fun p hp => ?_⟩
        refine q _ _ (((e1.trans e2).trans e3).trans (Same.upd hp)) ?_
        unfold kindOf
        rw [if_neg (by rw [h1]; decide), if_neg (by rw [h2]; decide), if_pos ⟨h3, h4⟩]
        exact ⟨p, rfl, upd_same⟩
      · walk_at "go"
        refine q _ _ ((e1.trans e2).trans e3) ?_
        unfold kindOf
        rw [if_neg (by rw [h1]; decide), if_neg (by rw [h2]; decide), if_neg (fun z => by rw [h4] at z; exact absurd z.2 (by decide))]
        rfl
    · walk_at "go"
      refine q _ _ (e1.trans e2) ?_
      unfold kindOf
      rw [if_neg (by rw [h1]; decide), if_neg (by rw [h2]; decide), if_neg (fun z => h3 z.1)]
      rfl
end
theorem dig_cap : ∀ c ∈ digL, c ∉ capL := by decide +kernel
theorem cap_dig {c : Nat} (h : c ∈ capL) : digL.contains c = false := by
  cases e : digL.contains c with
  | false => rfl
  | true => exact absurd h (dig_cap c (List.contains_iff_mem.mp e))
theorem allIn_mem {cs ss : List Nat} (h : allIn cs ss = true) : ∀ c ∈ cs, c ∈ ss := fun c hc => of_decide_eq_true (List.all_eq_true.mp h c hc)
theorem allIn_of {cs ss : List Nat} (h : ∀ c ∈ cs, c ∈ ss) : allIn cs ss = true := List.all_eq_true.mpr fun c hc => decide_eq_true (h c hc)
theorem tw_all {p : Nat → Bool} : ∀ (l : List Nat), ∀ c ∈ l.takeWhile p, p c = true
  | [], c, h => by simp at h
  | a :: r, c, h => by
    rw [List.takeWhile_cons] at h
    split at h
    · rename_i ha
      rcases List.mem_cons.mp h with e | h
      · rw [e]; exact ha
      · exact tw_all r c h
    · simp at h
theorem noDig_split (cs : List Nat) : ∃ ds, cs = noDig cs ++ ds ∧ ∀ c ∈ ds, c ∈ digL := by
  refine ⟨(cs.reverse.takeWhile fun c => digL.contains c).reverse, ?_, fun c hc => ?_⟩
  · unfold noDig
    rw [← List.reverse_append, List.takeWhile_append_dropWhile, List.reverse_reverse]
  · exact List.contains_iff_mem.mp (tw_all _ c (List.mem_reverse.mp hc))
theorem noDig_of {as ds : List Nat} (ha : ∀ c ∈ as, c ∈ capL) (hd : ∀ c ∈ ds, c ∈ digL) : noDig (as ++ ds) = as := by
  unfold noDig
  rw [List.reverse_append, List.dropWhile_append_of_pos fun c hc => List.contains_iff_mem.mpr (hd c (List.mem_reverse.mp hc))]
  cases e : as.reverse with
  | nil =>
    have : as = [] := List.reverse_eq_nil_iff.mp e
    rw [this]; rfl
  | cons c r =>
    have hc : c ∈ as := List.mem_reverse.mp (by rw [e]; exact List.mem_cons_self ..)
    rw [List.dropWhile_cons, if_neg (by rw [cap_dig (ha c hc)]; decide), ← e, List.reverse_reverse]
theorem filter_of {as ds : List Nat} (ha : ∀ c ∈ as, c ∈ capL) (hd : ∀ c ∈ ds, c ∈ digL) : (as ++ ds).filter (fun c => decide (c ∈ capL)) = as := by
  rw [List.filter_append, List.filter_eq_self.mpr fun c hc => decide_eq_true (ha c hc), List.filter_eq_nil_iff.mpr fun c hc => by simpa using dig_cap c (hd c hc), List.append_nil]
theorem name_iff {cs : List Nat} (h8 : cs.length ≤ 8) : isNameB cs = true ↔ 0 < (cs.filter fun c => decide (c ∈ capL)).length ∧ allIn (cs.take (cs.filter fun c => decide (c ∈ capL)).length) capL = true ∧ allIn (cs.drop (cs.filter fun c => decide (c ∈ capL)).length) digL = true := by
  constructor
  · intro h
    simp only [isNameB, Bool.and_eq_true, decide_eq_true_eq] at h
    obtain ⟨h1, _, h2⟩ := h
    obtain ⟨ds, e, hd⟩ := noDig_split cs
    have ha := allIn_mem h2
    generalize noDig cs = as at e ha h1 h2
    subst e
    rw [filter_of ha hd, List.take_left, List.drop_left]
    exact ⟨h1, h2, allIn_of hd⟩
  · rintro ⟨h1, h2, h3⟩
    have e := (List.take_append_drop (cs.filter fun c => decide (c ∈ capL)).length cs).symm
    have hn : noDig cs = cs.take (cs.filter fun c => decide (c ∈ capL)).length := by
      conv => lhs; rw [e]
      exact noDig_of (allIn_mem h2) (allIn_mem h3)
    have hl : (cs.filter fun c => decide (c ∈ capL)).length ≤ cs.length := List.length_filter_le _ _
    simp only [isNameB, Bool.and_eq_true, decide_eq_true_eq]
    rw [hn]
    exact ⟨by rw [List.length_take]; omega, h8, h2⟩
theorem name_head {cs : List Nat} (h : isNameB cs = true) : ∃ c r, cs = c :: r ∧ c ∈ capL := by
  simp only [isNameB, Bool.and_eq_true, decide_eq_true_eq] at h
  obtain ⟨h1, _, h2⟩ := h
  obtain ⟨ds, e, _⟩ := noDig_split cs
  cases q : noDig cs with
  | nil => rw [q] at h1; exact absurd h1 (by decide)
  | cons c r =>
    rw [q] at e h2
    exact ⟨c, r ++ ds, e, allIn_mem h2 c (List.mem_cons_self ..)⟩
end Op

namespace Op
open PySem PySem.Spec PyProof.Rows L2 SX
local macro_rules | `(tactic| walk_at "go1") => `(tactic| first
  | ((with_reducible refine' g_var ?h ?_); (case h => rfl)) | with_reducible refine' g_c ?_ | with_reducible refine' g_op ?_ | with_reducible refine' g_un ?_ | with_reducible refine' g_if ?_ | with_reducible refine' g_test ?_ | with_reducible refine' g_B ?_ | with_reducible refine' g_bl ?_
  | with_reducible refine' g_not ?_ | with_reducible refine' g_and ?_ | with_reducible refine' g_or ?_ | with_reducible refine' g_andV ?_ | with_reducible refine' g_orV ?_ | with_reducible refine' g_notV ?_ | with_reducible refine' g_nil ?_ | with_reducible refine' g_cons ?_ | with_reducible refine' g_CB ?_ | with_reducible refine' g_ca ?_
  | with_reducible refine' g_seq ?_ | with_reducible refine' g_next ?_ | with_reducible refine' g_asg ?_ | with_reducible refine' g_name ?_ | with_reducible refine' g_ret ?_ | with_reducible refine' g_retN ?_ | with_reducible refine' g_drop ?_ | with_reducible refine' g_ifS ?_ | with_reducible refine' g_sub ?_
  | with_reducible refine' g_I0 ?_ | with_reducible refine' g_U ?_ | ((with_reducible refine' g_eq ?h ?_); (case h => rfl)) | ((with_reducible refine' g_ne ?h ?_); (case h => rfl))
  | ((with_reducible refine' g_lenL ?h ?_); (case h => first | assumption | exact SqL.of (by assumption) | exact SqL.of upd_same)) | ((with_reducible refine' g_lenT ?h ?_); (case h => first | assumption | exact SqT.of (by assumption) | exact SqT.of upd_same))
  | ((with_reducible refine' g_ixL ?h ?ha ?_); (case h => first | assumption | exact SqL.of (by assumption) | exact SqL.of upd_same); (case ha => rfl)) | ((with_reducible refine' g_ixT ?h ?ha ?_); (case h => first | assumption | exact SqT.of (by assumption) | exact SqT.of upd_same); (case ha => rfl))
  | ((with_reducible refine' g_I ?h ?_); (case h => first | decide | omega | (first | refine' ⟨?_, ?_, ?_⟩ | refine' ⟨?_, ?_⟩ | refine' Or.inl ⟨?_, ?_⟩) <;> omega | (refine' Or.inr ⟨?_, ?_⟩ <;> omega)))
  | ((with_reducible refine' g_setL ?h ?ha ?_); (case h => first | assumption | exact upd_same); (case ha => rfl))
  | with_reducible refine' g_lcR ?_
  | with_reducible refine' g_M1 ?_ | with_reducible refine' g_isS ?_ | with_reducible refine' g_tyS ?_ | ((with_reducible refine' g_tyL ?h ?_); (case h => first | assumption | exact upd_same))
  | ((with_reducible refine' g_cat ?h ?h2 ?hl ?_); (case h => first | assumption | exact upd_same); (case h2 => first | assumption | exact upd_same); (case hl => first | decide | (simp; omega)))
  | with_reducible refine' g_lcS ?_
  | with_reducible refine' g_starts ?_ | with_reducible refine' g_chain ?_
  | ((with_reducible refine' g_lenS ?h ?_); (case h => first | exact len_le (by assumption) | exact len_le (by omega))) | ((with_reducible refine' g_rstrip ?h ?_); (case h => first | exact len_le (by assumption) | exact len_le (by omega))) | ((with_reducible refine' g_slX ?h ?_); (case h => first | exact len_le (by assumption) | exact len_le (by omega)))
  | with_reducible refine' g_sl ?_ | with_reducible refine' g_nopart ?_ | with_reducible refine' g_part ?_ | with_reducible refine' g_isI ?_
  | with_reducible refine' g_tru ?_
  | with_reducible refine' iteT ?_ | with_reducible refine' iteF ?_ | with_reducible refine' iteNT ?_ | with_reducible refine' iteNF ?_
  | with_reducible refine' g_int ?_ | with_reducible refine' g_insg ?_ | with_reducible refine' g_ninsg ?_ | with_reducible refine' g_isN ?_ | with_reducible refine' g_notN ?_ | with_reducible refine' g_lst ?_ | with_reducible refine' g_tup ?_ | with_reducible refine' g_BM ?_ | with_reducible refine' g_BM0 ?_)
local macro_rules | `(tactic| walk_at "go") => `(tactic| repeat' walk_at "go1")
/-! ## forms -/
/-- a form: an atom with its text, one or two inner forms -/
inductive Fm where
  | atm (k : Str) (t : List Nat) | un (k : Str) (a : Fm) | bi (k : Str) (a b : Fm)
/-- the form stands at v, of tuples -/
inductive FmAt (H : Hp) : V → Fm → Prop where
  | atm {p : Addr} {k : Str} {t : List Nat} : H p = some (.tup [.str k, .str (S t)]) → FmAt H (.ref p) (.atm k t)
  | un {p : Addr} {k : Str} {v : V} {a : Fm} : H p = some (.tup [.str k, v]) → FmAt H v a → FmAt H (.ref p) (.un k a)
  | bi {p : Addr} {k : Str} {v u : V} {a b : Fm} : H p = some (.tup [.str k, v, u]) → FmAt H v a → FmAt H u b → FmAt H (.ref p) (.bi k a b)
theorem FmAt.tps {H H' : Hp} (s : Tps H H') : ∀ {v : V} {a : Fm}, FmAt H v a → FmAt H' v a := by
  intro v a h
  induction h with
  | atm h => exact .atm (s _ _ h)
  | un h _ ih => exact .un (s _ _ h) ih
  | bi h _ _ ih1 ih2 => exact .bi (s _ _ h) ih1 ih2
theorem FmAt.same {H H' : Hp} {v : V} {a : Fm} (h : FmAt H v a) (s : Same H H') : FmAt H' v a := h.tps (Tps.same s)
abbrev kMark : Str := Str.ofString "mark"
abbrev kOpen : Str := Str.ofString "open"
abbrev kOwn : Str := Str.ofString "own"
abbrev kPair : Str := Str.ofString "pair"
abbrev kSeal : Str := Str.ofString "seal"
abbrev kLock : Str := Str.ofString "lock"
def unK (k : Str) : Bool := k == kMark || k == kOpen || k == kOwn
def biK (k : Str) : Bool := k == kPair || k == kSeal || k == kLock
def atK (k : Str) : Bool := k == kWord || k == kName || k == kUnk
def Fm.head : Fm → Str
  | .atm k _ => k
  | .un k _ => k
  | .bi k _ _ => k
/-- the form's words are of the right kind -/
def Fm.kin : Fm → Bool
  | .atm k _ => atK k
  | .un k a => unK k && a.kin
  | .bi k a b => biK k && (a.kin && b.kin)
def Fm.isKey : Fm → Bool
  | .un k _ => k == kOpen || k == kOwn
  | _ => false
/-- a form, as the document says -/
def Fm.ok : Fm → Bool
  | .atm k t => (k == kWord && isWordB t) || ((k == kName && isNameB t) || (k == kUnk && isUnkB t))
  | .un k a => unK k && a.ok
  | .bi k a b => biK k && ((!(k == kLock) || b.isKey) && (a.ok && b.ok))
theorem Fm.ok_kin : ∀ {a : Fm}, a.ok = true → a.kin = true
  | .atm k t, h => by
    simp only [Fm.ok, Bool.or_eq_true, Bool.and_eq_true] at h
    simp only [Fm.kin, atK, Bool.or_eq_true]
    rcases h with h | h | h
    · exact .inl (.inl h.1)
    · exact .inl (.inr h.1)
    · exact .inr h.1
  | .un k a, h => by
    simp only [Fm.ok, Bool.and_eq_true] at h
    simp only [Fm.kin, Bool.and_eq_true]
    exact ⟨h.1, Fm.ok_kin h.2⟩
  | .bi k a b, h => by
    simp only [Fm.ok, Bool.and_eq_true] at h
    simp only [Fm.kin, Bool.and_eq_true]
    exact ⟨h.1, Fm.ok_kin h.2.2.1, Fm.ok_kin h.2.2.2⟩
/-- how many forms stand in it -/
def Fm.size : Fm → Nat
  | .atm _ _ => 1
  | .un _ a => a.size + 1
  | .bi _ a b => a.size + b.size + 1
theorem Fm.size_pos : ∀ a : Fm, 0 < a.size
  | .atm _ _ => Nat.one_pos
  | .un _ _ => Nat.succ_pos _
  | .bi _ _ _ => Nat.succ_pos _
/-- the text of an atom -/
def atTxt (k : Str) (t : List Nat) : List Nat := if k = kUnk then 63 :: t else t
/-- the written letter -/
def Fm.txt : Fm → List Nat
  | .atm k t => atTxt k t
  | .un k a => k.cps.toList ++ [40] ++ a.txt ++ [41]
  | .bi k a b => k.cps.toList ++ [40] ++ a.txt ++ [44, 32] ++ b.txt ++ [41]
/-- every text in it is short -/
def Fm.small : Fm → Prop
  | .atm k t => t.length ≤ 8
  | .un _ a => a.small
  | .bi _ a b => a.small ∧ b.small
theorem Fm.ok_small : ∀ {a : Fm}, a.ok = true → a.small
  | .atm k t, h => by
    simp only [Fm.ok, Bool.or_eq_true, Bool.and_eq_true, isWordB, isNameB, isUnkB, decide_eq_true_eq] at h
    show t.length ≤ 8
    omega
  | .un k a, h => by
    simp only [Fm.ok, Bool.and_eq_true] at h
    show a.small
    exact Fm.ok_small h.2
  | .bi k a b, h => by
    simp only [Fm.ok, Bool.and_eq_true] at h
    exact ⟨Fm.ok_small h.2.2.1, Fm.ok_small h.2.2.2⟩
/-! what stands on form_text's stack -/
inductive It2 where
  | s (z : List Nat) | f (a : Fm)
def It2.txt : It2 → List Nat
  | .s z => z
  | .f a => a.txt
def Fm.wt : Fm → Nat
  | .atm _ _ => 1
  | .un _ a => a.wt + 3
  | .bi _ a b => a.wt + b.wt + 5
def It2.wt : It2 → Nat
  | .s _ => 1
  | .f a => a.wt
def It2.good : It2 → Prop
  | .s _ => True
  | .f a => a.kin = true ∧ a.small
def ItAt (H : Hp) (v : V) : It2 → Prop
  | .s z => v = .str (S z)
  | .f a => FmAt H v a
theorem ItAt.tps {H H' : Hp} {v : V} {x : It2} (t : Tps H H') (h : ItAt H v x) : ItAt H' v x := by
  cases x with
  | s z => exact h
  | f a => exact FmAt.tps t h
theorem Fm.wt_pos (a : Fm) : 0 < a.wt := by cases a <;> simp [Fm.wt]
theorem Fm.wt_le : ∀ a : Fm, a.wt ≤ 5 * a.size
  | .atm _ _ => by simp [Fm.wt, Fm.size]
  | .un _ a => by have := Fm.wt_le a; simp only [Fm.wt, Fm.size]; omega
  | .bi _ a b => by have := Fm.wt_le a; have := Fm.wt_le b; simp only [Fm.wt, Fm.size]; omega
theorem unK_len {k : Str} (h : unK k = true) : k.cps.toList.length ≤ 7 := by
  simp only [unK, Bool.or_eq_true, beq_iff_eq] at h
  rcases h with (rfl | rfl) | rfl <;> decide +kernel
theorem biK_len {k : Str} (h : biK k = true) : k.cps.toList.length ≤ 7 := by
  simp only [biK, Bool.or_eq_true, beq_iff_eq] at h
  rcases h with (rfl | rfl) | rfl <;> decide +kernel
theorem atTxt_len {k : Str} {t : List Nat} : (atTxt k t).length ≤ t.length + 1 := by
  unfold atTxt
  split
  · simp
  · omega
theorem Fm.txt_len : ∀ {a : Fm}, a.kin = true → a.small → a.txt.length ≤ 20 * a.size
  | .atm k t, _, h => by
    have h' : t.length ≤ 8 := h
    have := atTxt_len (k := k) (t := t)
    show (atTxt k t).length ≤ 20 * 1
    omega
  | .un k a, h, hs => by
    simp only [Fm.kin, Bool.and_eq_true] at h
    have hs' : a.small := hs
    have h1 := unK_len h.1
    have h2 := Fm.txt_len h.2 hs'
    simp only [Fm.txt, Fm.size, List.length_append, List.length_cons, List.length_nil]
    omega
  | .bi k a b, h, hs => by
    simp only [Fm.kin, Bool.and_eq_true] at h
    have hs' : a.small ∧ b.small := hs
    have h1 := biK_len h.1
    have h2 := Fm.txt_len h.2.1 hs'.1
    have h3 := Fm.txt_len h.2.2 hs'.2
    simp only [Fm.txt, Fm.size, List.length_append, List.length_cons, List.length_nil]
    omega
theorem joinL_nil : ∀ zs : List (List Nat), TL.joinL [] zs = zs.flatten
  | [] => rfl
  | [p] => by simp [TL.joinL]
  | p :: q :: r => by
    have ih := joinL_nil (q :: r)
    show p ++ ([] ++ TL.joinL [] (q :: r)) = p ++ (q :: r).flatten
    rw [ih]
    rfl
theorem join_flat (zs : List (List Nat)) : Txt.join (Str.ofString "") (zs.map S) = S zs.flatten := by
  rw [show Str.ofString "" = S [] by decide +kernel, join_S, joinL_nil]
theorem sum_flat : ∀ zs : List (List Nat), ((zs.map S).map (·.length)).sum = zs.flatten.length
  | [] => rfl
  | z :: r => by
    have ih := sum_flat r
    show (S z).length + ((r.map S).map (·.length)).sum = (z ++ r.flatten).length
    rw [ih, S_len, List.length_append]
/-- the loop's word: zs the pieces, st the stack from its top -/
def FtW (H0 : Hp) (v : V) (a : Fm) (pp pl : Addr) (m : Nat) (σ : L2.St) (H : Hp) : Prop := ∃ (zs : List (List Nat)) (st : List (V × It2)) (px : Option V), σ = [some v, some (.ref pp), some (.ref pl), px] ∧ Same H0 H ∧
  H pp = some (.lst (zs.map fun z => .str (S z))) ∧ H pl = some (.lst (st.map (·.1)).reverse) ∧ (∀ x ∈ st, ItAt H x.1 x.2 ∧ x.2.good) ∧
  zs.flatten ++ (st.map fun x => x.2.txt).flatten = a.txt ∧ m = (st.map fun x => x.2.wt).sum ∧ zs.length + m ≤ a.wt
def spAtomText : Sp := fun vs H Q _ => ∃ (p : Addr) (k : Str) (t : List Nat), vs = [.ref p] ∧ H p = some (.tup [.str k, .str (S t)]) ∧ t.length < 1000000 ∧ Q (.str (S (atTxt k t))) H
def spFormText : Sp := fun vs H Q _ => ∃ (v : V) (a : Fm), vs = [v] ∧ FmAt H v a ∧ a.kin = true ∧ a.small ∧ a.size ≤ 10000 ∧ ∀ H', Same H H' → Q (.str (S a.txt)) H'
section
variable {P : Program} {w : World} {K : PySem.W.Frag} {mg : Str → Option Value} {base : Heap}
theorem ca_atom_text (T : Bl K mg) (D : Df K mg "atom_text" s_atom_text p_atom_text) : Ca P w K mg base 1 "atom_text" spAtomText := by
  refine ca_n D sc_atom_text (fun vs H Q E h => ?_) (fun f cdv A outer s H vs Q E hr h => ?_)
  · obtain ⟨p, k, t, rfl, _⟩ := h
    rfl
  · obtain ⟨p, k, t, rfl, hp, hl, q⟩ := h
    refine ⟨_, (pss_cons (ps_if (pt_cmpR op_eq (pe_ix ix_tup (pv 0) pe_int (fun _ _ => rfl)) pe_str (nomark _))
  (pss_one (ps_ret (pe_op oq_adds pe_str (pe_ix ix_tup (pv 0) pe_int (fun _ _ => rfl)))))
  pss_nil)
  (pss_one (ps_ret (pe_ix ix_tup (pv 0) pe_int (fun _ _ => rfl))))), ?_⟩
    walk_at "go"
    refine iteD (fun h => ?_) (fun h => ?_)
    · walk_at "go"
      refine g_catS (by rw [S_len, sizeLine_eq]; exact Nat.le_trans (Nat.add_le_add_left (Nat.le_of_lt hl) _) (by decide +kernel)) ?_
      have e : k = kUnk := V.str.inj h
      have e2 : Str.ofString "?" ++ S t = S (atTxt k t) := by
        unfold atTxt
        rw [if_pos e, show Str.ofString "?" = S [63] by decide +kernel, S_cat]
        rfl
      rw [e2]
      exact q
    · walk_at "go"
      have e2 : S t = S (atTxt k t) := by
        unfold atTxt
        rw [if_neg fun z => h (congrArg V.str z)]
      rw [e2]
      exact q
theorem FtW.piece {H0 H1 : Hp} {v : V} {a : Fm} {pp pl : Addr} {m : Nat} {zs : List (List Nat)} {r : List (V × It2)} {px : Option V} {x : It2} {z : List Nat} {ys : List V} (sH : Same H0 H1) (hpp : H0 pp = none) (hpl : H0 pl = none) (npl : pp ≠ pl)
    (h1 : H1 pp = some (.lst (zs.map fun z => .str (S z)))) (h2 : H1 pl = some (.lst ys)) (h3 : ∀ y ∈ r, ItAt H1 y.1 y.2 ∧ y.2.good) (h4 : zs.flatten ++ (x.txt ++ (r.map fun x => x.2.txt).flatten) = a.txt) (hz : x.txt = z) (hw : 0 < x.wt)
    (h5 : m = x.wt + (r.map fun x => x.2.wt).sum) (h6 : zs.length + m ≤ a.wt) :
    ∃ m', m' < m ∧ FtW H0 v a pp pl m' [some v, some (.ref pp), some (.ref pl), px] (L2.upd (L2.upd H1 pl (.lst (r.map (·.1)).reverse)) pp (.lst ((zs.map fun z => .str (S z)) ++ [.str (S z)]))) := by
  have t1 : Tps H1 (L2.upd H1 pl (.lst (r.map (·.1)).reverse)) := Tps.lst h2
  have hp1 : L2.upd H1 pl (.lst (r.map (·.1)).reverse) pp = some (.lst (zs.map fun z => .str (S z))) := by rw [upd_ne npl]; exact h1
  refine ⟨(r.map fun x => x.2.wt).sum, by omega, zs ++ [z], r, _, rfl, Same.mut (Same.mut sH hpl) hpp, ?_, ?_, fun y hy => ⟨ItAt.tps (t1.trans (Tps.lst hp1)) (h3 y hy).1, (h3 y hy).2⟩, ?_, rfl, ?_⟩
  · rw [upd_same, List.map_append]; rfl
  · rw [upd_ne npl.symm, upd_same]
  · rw [← h4, ← hz]; simp
  · rw [List.length_append, List.length_singleton]
    omega
/-- .. where the part opened is put back in pieces -/
theorem FtW.open {H0 H1 H2 : Hp} {v : V} {a : Fm} {pp pl : Addr} {m : Nat} {zs : List (List Nat)} {r st : List (V × It2)} {px : Option V} {x : It2} (sH : Same H0 H2) (t : Tps H1 H2)
    (h1 : H2 pp = some (.lst (zs.map fun z => .str (S z)))) (h2 : H2 pl = some (.lst (st.map (·.1)).reverse)) (hst : ∀ y ∈ st, y ∈ r ∨ (ItAt H2 y.1 y.2 ∧ y.2.good)) (h3 : ∀ y ∈ r, ItAt H1 y.1 y.2 ∧ y.2.good) (h4 : zs.flatten ++ (x.txt ++ (r.map fun x => x.2.txt).flatten) = a.txt)
    (hz : (st.map fun x => x.2.txt).flatten = x.txt ++ (r.map fun x => x.2.txt).flatten) (hw : (st.map fun x => x.2.wt).sum + 1 ≤ x.wt + (r.map fun x => x.2.wt).sum) (h5 : m = x.wt + (r.map fun x => x.2.wt).sum) (h6 : zs.length + m ≤ a.wt) :
    ∃ m', m' < m ∧ FtW H0 v a pp pl m' [some v, some (.ref pp), some (.ref pl), px] H2 := by
  refine ⟨(st.map fun x => x.2.wt).sum, by omega, zs, st, _, rfl, sH, h1, h2, fun y hy => ?_, by rw [hz, h4], rfl, by omega⟩
  rcases hst y hy with q | q
  · exact ⟨ItAt.tps t (h3 y q).1, (h3 y q).2⟩
  · exact q
theorem It2.wt_pos (x : It2) : 0 < x.wt := by
  cases x with
  | s z => exact Nat.one_pos
  | f a => exact Fm.wt_pos a
theorem wt_len : ∀ r : List (V × It2), r.length ≤ (r.map fun x => x.2.wt).sum
  | [] => Nat.le_refl _
  | x :: r => by
    have ih := wt_len r
    have h := It2.wt_pos x.2
    show r.length + 1 ≤ x.2.wt + (r.map fun x => x.2.wt).sum
    omega
theorem len_lp : (Str.ofString "(").length = 1 := by decide +kernel
theorem unK_at {k : Str} (h : unK k = true) : atK k = false := by
  simp only [unK, Bool.or_eq_true, beq_iff_eq] at h
  rcases h with (rfl | rfl) | rfl <;> decide +kernel
theorem biK_at {k : Str} (h : biK k = true) : atK k = false := by
  simp only [biK, Bool.or_eq_true, beq_iff_eq] at h
  rcases h with (rfl | rfl) | rfl <;> decide +kernel
theorem str_len (k : Str) : k.length = k.cps.toList.length := by simp [Str.length]
theorem paren (k : Str) : k ++ Str.ofString "(" = S (k.cps.toList ++ [40]) := by
  rw [show Str.ofString "(" = S [40] by decide +kernel, ← S_cat, S_tl]
theorem inV_atoms (k : Str) : inV (.str k) [V.str kWord, V.str kName, V.str kUnk] = atK k := by
  show (eqV (.str kWord) (.str k) || (eqV (.str kName) (.str k) || (eqV (.str kUnk) (.str k) || false))) = _
  show ((kWord == k) || ((kName == k) || ((kUnk == k) || false))) = ((k == kWord || k == kName) || k == kUnk)
  rw [Bool.or_false, Bool.or_assoc, BEq.comm (a := kWord), BEq.comm (a := kName), BEq.comm (a := kUnk)]
theorem ca_form_text (T : Bl K mg) (D : Df K mg "form_text" s_form_text p_form_text) (c_atom_text : Ca P w K mg base 1 "atom_text" spAtomText) : Ca P w K mg base 2 "form_text" spFormText := by
  obtain ⟨aA, hA, tA⟩ := T.t_ATOMS
  have c_ATOMS : ∃ u, mg "ATOMS" = some u ∧ RelV (.ref aA) u := ⟨_, hA, rfl⟩
  refine ca_n D sc_form_text (fun vs H Q E h => ?_) (fun f cdv A outer s H vs Q E hr h => ?_)
  · obtain ⟨v, a, rfl, _⟩ := h
    rfl
  · obtain ⟨v, a, rfl, ha, hk, hs, hz, q⟩ := h
    refine ⟨_, (pss_cons (ps_set (i := 1) sc_form_text.nd rfl (Or.inl rfl) (pe_lst pa_nil))
  (pss_cons (ps_set (i := 2) sc_form_text.nd rfl (Or.inl rfl) (pe_lst (pa_cons (pv 0) pa_nil)))
  (pss_cons (ps_while PassesOwn.never (pq_truth (pv 2) (by intro _; rfl))
  (pss_cons (ps_set (i := 3) sc_form_text.nd rfl (Or.inl rfl) (pe_bm0 PySem.F.plainAttrs_list PySem.F.slot_list_pop PySem.F.type_list_pop mt_pop (pv 2)))
  (pss_one (ps_if (pt_val (pe_callB call_isi (by rfl) T.b_isinstance (by decide +kernel) (pa_cons (pv 3) (pa_cons (pe_bltn (v := .ty "str") (u := .type "str") (by rfl) T.b_str (by decide +kernel) rfl) pa_nil))))
  (pss_one (ps_expr (pe_bm PySem.F.plainAttrs_list PySem.F.slot_list_append PySem.F.type_list_append mt_append (pv 1) (pa_cons (pv 3) pa_nil))))
  (pss_one (ps_if (pt_cmpR op_in_seq (pe_ix ix_tup (pv 3) pe_int (fun _ _ => rfl)) (C8.pe_gc (by rfl) c_ATOMS) rfl)
  (pss_one (ps_expr (pe_bm PySem.F.plainAttrs_list PySem.F.slot_list_append PySem.F.type_list_append mt_append (pv 1) (pa_cons (pe_ca c_atom_text hr (by decide) (by rfl) (pa_cons (pv 3) pa_nil)) pa_nil))))
  (pss_cons (ps_expr (pe_bm PySem.F.plainAttrs_list PySem.F.slot_list_append PySem.F.type_list_append mt_append (pv 2) (pa_cons pe_str pa_nil)))
  (pss_cons (ps_if (pt_cmpR op_eq (pe_callB cq_len (by rfl) T.b_len (by decide +kernel) (pa_cons (pv 3) pa_nil)) pe_int (nomark _))
  (pss_one (ps_expr (pe_bm PySem.F.plainAttrs_list PySem.F.slot_list_extend PySem.F.type_list_extend mt_extend (pv 2) (pa_cons (pe_lst (pa_cons (pe_ix ix_tup (pv 3) pe_int (fun _ _ => rfl)) (pa_cons pe_str pa_nil))) pa_nil))))
  pss_nil)
  (pss_one (ps_expr (pe_bm PySem.F.plainAttrs_list PySem.F.slot_list_extend PySem.F.type_list_extend mt_extend (pv 2) (pa_cons (pe_lst (pa_cons (pe_ix ix_tup (pv 3) pe_int (fun _ _ => rfl)) (pa_cons (pe_op oq_adds (pe_ix ix_tup (pv 3) pe_int (fun _ _ => rfl)) pe_str) pa_nil))) pa_nil))))))))))))
  (pss_one (ps_ret (pq_join pe_str (pv 1))))))), ?_⟩
    walk_at "go"
    refine ⟨Nat.zero_le _, fun pp hpp => ?_⟩
    walk_at "go"
    refine ⟨by show 1 ≤ sizeLine; decide, fun pl hpl => ?_⟩
    walk_at "go"
    have hpl0 : H pl = none := (But.none (a := pp) But.upd hpl (fun e => by rw [e, upd_same] at hpl; cases hpl))
    have npl : pp ≠ pl := fun e => by rw [← e, upd_same] at hpl; cases hpl
    refine g_while (FtW H v a pp pl) a.wt ⟨[], [(v, .f a)], none, rfl, (Same.upd hpp).trans (Same.upd hpl), by rw [upd_ne npl, upd_same]; rfl, upd_same, ?_, by simp [It2.txt], by simp [It2.wt], Nat.le_of_eq (Nat.zero_add _)⟩ ?_
    · intro x hx
      rw [List.mem_singleton.mp hx]
      exact ⟨ha.tps ((Tps.new hpp).trans (Tps.new hpl)), hk, hs⟩
    · rintro m σ' H1 ⟨zs, st, px, rfl, sH, h1, h2, h3, h4, h5, h6⟩
      walk_at "go"
      refine g_truL (SqL.of h2) ?_
      cases st with
      | nil =>
        refine iteF ?_
        walk_at "go"
        have e : a.txt = zs.flatten := by rw [← h4]; simp
        have hl : a.txt.length ≤ 20 * a.size := Fm.txt_len hk hs
        refine g_join (ys := zs.map S) (by rw [List.map_map]; exact SqL.of h1) ?_ ?_
        · rw [sum_flat, ← e, show (Str.ofString "").length = 0 by decide +kernel]
          omega
        · rw [join_flat, ← e]
          exact q _ sH
      | cons hd r =>
        obtain ⟨u, x⟩ := hd
        obtain ⟨hx, hg⟩ := h3 (u, x) (List.mem_cons_self ..)
        have h3r : ∀ y ∈ r, ItAt H1 y.1 y.2 ∧ y.2.good := fun y hy => h3 y (List.mem_cons_of_mem _ hy)
        have e0 : (!(List.map (fun x => x.fst) ((u, x) :: r)).reverse.isEmpty) = true := by simp
        rw [e0]
        refine iteT ⟨_, fun _ _ n => n, ?_⟩
        walk_at "go"
        refine g_pop (xs := (r.map (·.1)).reverse) (by rw [h2, List.map_cons, List.reverse_cons]) ?_
        walk_at "go"
        have t1 : Tps H1 (L2.upd H1 pl (.lst (r.map (·.1)).reverse)) := Tps.lst h2
        cases x with
        | s z =>
          have hx' : u = .str (S z) := hx
          subst hx'
          refine g_isi (.ty _) (.base (.str _)) (kit_ty (b := "str") (r := true) (by decide +kernel)) ?_
          have hp1 : L2.upd H1 pl (.lst (r.map (·.1)).reverse) pp = some (.lst (zs.map fun z => .str (S z))) := by rw [upd_ne npl]; exact h1
          walk_at "go"
          refine g_app hp1 (by rw [List.length_map, sizeLine_eq]; have := Fm.wt_le a; omega) ?_
          exact FtW.piece (x := .s z) sH hpp hpl0 npl h1 h2 h3r h4 rfl Nat.one_pos h5 h6
        | f b =>
          have hb : FmAt H1 u b := hx
          have hg' : b.kin = true ∧ b.small := hg
          have hp1 : L2.upd H1 pl (.lst (r.map (·.1)).reverse) pp = some (.lst (zs.map fun z => .str (S z))) := by rw [upd_ne npl]; exact h1
          have hzl : zs.length < 1000000 := by have := Fm.wt_le a; omega
          have hrl : r.length < 1000000 := by
            have := Fm.wt_le a
            have := wt_len ((u, It2.f b) :: r)
            rw [List.length_cons] at this
            omega
          cases hb with
          | @atm p k t ep =>
            have ep1 := t1 _ _ ep
            refine g_isi (.ty _) (.base (.tup ep1)) (kit_ty (b := "str") (r := false) (by decide +kernel)) ?_
            walk_at "go"
            refine g_inT (tA _) rfl rfl ?_
            rw [inV_atoms, show atK k = true from hg'.1]
            walk_at "go"
            have ht : t.length ≤ 8 := hg'.2
            refine ⟨p, k, t, rfl, ep1, by omega, ?_⟩
            walk_at "go"
            refine g_app hp1 (by rw [List.length_map, sizeLine_eq]; omega) ?_
            exact FtW.piece (x := .f (.atm k t)) sH hpp hpl0 npl h1 h2 h3r h4 rfl Nat.one_pos h5 h6
          | @un p k v1 b1 ep hb1 =>
            have ep1 := t1 _ _ ep
            refine g_isi (.ty _) (.base (.tup ep1)) (kit_ty (b := "str") (r := false) (by decide +kernel)) ?_
            walk_at "go"
            refine g_inT (tA _) rfl rfl ?_
            have hk1 : unK k = true ∧ b1.kin = true := by
              have z := hg'.1
              simp only [Fm.kin, Bool.and_eq_true] at z
              exact z
            rw [inV_atoms, unK_at hk1.1]
            walk_at "go"
            refine g_app upd_same (by rw [List.length_reverse, List.length_map, sizeLine_eq]; omega) ?_
            rw [upd_upd]
            have ep2 : L2.upd H1 pl (.lst ((r.map (·.1)).reverse ++ [.str (Str.ofString ")")])) p = some (.tup [.str k, v1]) := Tps.lst h2 _ _ ep
            walk_at "go"
            refine iteD (fun h => absurd (V.int.inj h) (by simp)) (fun _ => ?_)
            walk_at "go"
            refine g_catS (by rw [str_len, sizeLine_eq]; have := unK_len hk1.1; rw [len_lp]; omega) ?_
            walk_at "go"
            refine ⟨by show 2 ≤ sizeLine; decide, fun p2 hp2 => ?_⟩
            walk_at "go"
            have n2 : pl ≠ p2 := fun e => by rw [← e, upd_same] at hp2; cases hp2
            have n3 : H1 p2 = none := by rw [upd_ne n2.symm] at hp2; exact hp2
            refine g_ext (by rw [upd_ne n2]; exact upd_same) upd_same (by rw [List.length_append, List.length_reverse, List.length_map, sizeLine_eq]; show r.length + 1 + 2 ≤ _; omega) ?_
            have tt : Tps H1 (L2.upd (L2.upd (L2.upd H1 pl (.lst ((r.map (·.1)).reverse ++ [.str (Str.ofString ")")]))) p2 (.lst [v1, .str (k ++ Str.ofString "(")])) pl (.lst (((r.map (·.1)).reverse ++ [.str (Str.ofString ")")]) ++ [v1, .str (k ++ Str.ofString "(")]))) :=
              ((Tps.lst h2).trans (Tps.new hp2)).trans (Tps.lst (xs := (r.map (·.1)).reverse ++ [.str (Str.ofString ")")]) (by rw [upd_ne n2]; exact upd_same))
            refine FtW.open (x := .f (.un k b1)) (st := (.str (k ++ Str.ofString "("), .s (k.cps.toList ++ [40])) :: (v1, .f b1) :: (.str (Str.ofString ")"), .s [41]) :: r) (r := r) (Same.mut (Same.mut (Same.mut sH hpl0) (Same.free sH n3)) hpl0) tt ?_ ?_ ?_ h3r h4 ?_ ?_ h5 h6
            · rw [upd_ne npl, upd_ne (fun e => by rw [← e, upd_ne npl, h1] at hp2; cases hp2), upd_ne npl]
              exact h1
            · rw [upd_same]; simp
            · intro y hy
              rcases List.mem_cons.mp hy with rfl | hy
              · exact .inr ⟨by show V.str _ = V.str _; rw [paren], trivial⟩
              rcases List.mem_cons.mp hy with rfl | hy
              · exact .inr ⟨hb1.tps tt, hk1.2, hg'.2⟩
              rcases List.mem_cons.mp hy with rfl | hy
              · exact .inr ⟨by show V.str _ = V.str _; rw [show Str.ofString ")" = S [41] by decide +kernel], trivial⟩
              · exact .inl hy
            · simp [It2.txt, Fm.txt]
            · simp only [List.map_cons, List.sum_cons, It2.wt, Fm.wt]
              omega
          | @bi p k v1 v2 b1 b2 ep hb1 hb2 =>
            have ep1 := t1 _ _ ep
            refine g_isi (.ty _) (.base (.tup ep1)) (kit_ty (b := "str") (r := false) (by decide +kernel)) ?_
            walk_at "go"
            refine g_inT (tA _) rfl rfl ?_
            have hk1 : biK k = true ∧ b1.kin = true ∧ b2.kin = true := by
              have z := hg'.1
              simp only [Fm.kin, Bool.and_eq_true] at z
              exact z
            have hsm : b1.small ∧ b2.small := hg'.2
            rw [inV_atoms, biK_at hk1.1]
            walk_at "go"
            refine g_app upd_same (by rw [List.length_reverse, List.length_map, sizeLine_eq]; omega) ?_
            rw [upd_upd]
            have ep2 : L2.upd H1 pl (.lst ((r.map (·.1)).reverse ++ [.str (Str.ofString ")")])) p = some (.tup [.str k, v1, v2]) := Tps.lst h2 _ _ ep
            walk_at "go"
            refine iteD (fun _ => ?_) (fun h => absurd rfl h)
            walk_at "go"
            refine ⟨by show 2 ≤ sizeLine; decide, fun p2 hp2 => ?_⟩
            walk_at "go"
            have n2 : pl ≠ p2 := fun e => by rw [← e, upd_same] at hp2; cases hp2
            have n3 : H1 p2 = none := by rw [upd_ne n2.symm] at hp2; exact hp2
            refine g_ext (by rw [upd_ne n2]; exact upd_same) upd_same (by rw [List.length_append, List.length_reverse, List.length_map, sizeLine_eq]; show r.length + 1 + 2 ≤ _; omega) ?_
            have tt2 : Tps H1 (L2.upd (L2.upd (L2.upd H1 pl (.lst ((r.map (·.1)).reverse ++ [.str (Str.ofString ")")]))) p2 (.lst [v2, .str (Str.ofString ", ")])) pl (.lst (((r.map (·.1)).reverse ++ [.str (Str.ofString ")")]) ++ [v2, .str (Str.ofString ", ")]))) :=
              ((Tps.lst h2).trans (Tps.new hp2)).trans (Tps.lst (xs := (r.map (·.1)).reverse ++ [.str (Str.ofString ")")]) (by rw [upd_ne n2]; exact upd_same))
            have sH2 : Same H (L2.upd (L2.upd (L2.upd H1 pl (.lst ((r.map (·.1)).reverse ++ [.str (Str.ofString ")")]))) p2 (.lst [v2, .str (Str.ofString ", ")])) pl (.lst (((r.map (·.1)).reverse ++ [.str (Str.ofString ")")]) ++ [v2, .str (Str.ofString ", ")]))) :=
              Same.mut (Same.mut (Same.mut sH hpl0) (Same.free sH n3)) hpl0
            have hpp2 : (L2.upd (L2.upd (L2.upd H1 pl (.lst ((r.map (·.1)).reverse ++ [.str (Str.ofString ")")]))) p2 (.lst [v2, .str (Str.ofString ", ")])) pl (.lst (((r.map (·.1)).reverse ++ [.str (Str.ofString ")")]) ++ [v2, .str (Str.ofString ", ")]))) pp = some (.lst (zs.map fun z => .str (S z))) := by
              rw [upd_ne npl, upd_ne (fun e => by rw [← e, upd_ne npl, h1] at hp2; cases hp2), upd_ne npl]
              exact h1
            generalize hG : L2.upd (L2.upd (L2.upd H1 pl (.lst ((r.map (·.1)).reverse ++ [.str (Str.ofString ")")]))) p2 (.lst [v2, .str (Str.ofString ", ")])) pl (.lst (((r.map (·.1)).reverse ++ [.str (Str.ofString ")")]) ++ [v2, .str (Str.ofString ", ")])) = H2 at tt2 sH2 hpp2 ⊢
            have hpl2 : H2 pl = some (.lst (((r.map (·.1)).reverse ++ [.str (Str.ofString ")")]) ++ [v2, .str (Str.ofString ", ")])) := by rw [← hG, upd_same]
            have ep3 := tt2 _ _ ep
            walk_at "go"
            refine g_catS (by rw [str_len, sizeLine_eq]; have := biK_len hk1.1; rw [len_lp]; omega) ?_
            walk_at "go"
            refine ⟨by show 2 ≤ sizeLine; decide, fun p3 hp3 => ?_⟩
            have m2 : pl ≠ p3 := fun e => by rw [← e, hpl2] at hp3; cases hp3
            have hpl3 : (L2.upd H2 p3 (.lst [v1, .str (k ++ Str.ofString "(")])) pl = some (.lst (((r.map (·.1)).reverse ++ [.str (Str.ofString ")")]) ++ [v2, .str (Str.ofString ", ")])) := by rw [upd_ne m2]; exact hpl2
            walk_at "go"
            refine g_ext hpl3 upd_same (by rw [List.length_append, List.length_append, List.length_reverse, List.length_map, sizeLine_eq]; show r.length + 1 + 2 + 2 ≤ _; omega) ?_
            have tt3 : Tps H2 (L2.upd (L2.upd H2 p3 (.lst [v1, .str (k ++ Str.ofString "(")])) pl (.lst ((((r.map (·.1)).reverse ++ [.str (Str.ofString ")")]) ++ [v2, .str (Str.ofString ", ")]) ++ [v1, .str (k ++ Str.ofString "(")]))) :=
              (Tps.new hp3).trans (Tps.lst hpl3)
            refine FtW.open (x := .f (.bi k b1 b2)) (st := (.str (k ++ Str.ofString "("), .s (k.cps.toList ++ [40])) :: (v1, .f b1) :: (.str (Str.ofString ", "), .s [44, 32]) :: (v2, .f b2) :: (.str (Str.ofString ")"), .s [41]) :: r) (r := r) (Same.mut (Same.mut sH2 (Same.free sH2 hp3)) hpl0) (tt2.trans tt3) ?_ ?_ ?_ h3r h4 ?_ ?_ h5 h6
            · rw [upd_ne npl, upd_ne (fun e => by rw [← e, hpp2] at hp3; cases hp3)]
              exact hpp2
            · rw [upd_same]; simp
            · intro y hy
              rcases List.mem_cons.mp hy with rfl | hy
              · exact .inr ⟨by show V.str _ = V.str _; rw [paren], trivial⟩
              rcases List.mem_cons.mp hy with rfl | hy
              · exact .inr ⟨hb1.tps (tt2.trans tt3), hk1.2.1, hsm.1⟩
              rcases List.mem_cons.mp hy with rfl | hy
              · exact .inr ⟨by show V.str _ = V.str _; rw [show Str.ofString ", " = S [44, 32] by decide +kernel], trivial⟩
              rcases List.mem_cons.mp hy with rfl | hy
              · exact .inr ⟨hb2.tps (tt2.trans tt3), hk1.2.2, hsm.2⟩
              rcases List.mem_cons.mp hy with rfl | hy
              · exact .inr ⟨by show V.str _ = V.str _; rw [show Str.ofString ")" = S [41] by decide +kernel], trivial⟩
              · exact .inl hy
            · simp [It2.txt, Fm.txt]
            · simp only [List.map_cons, List.sum_cons, It2.wt, Fm.wt]
              omega
end
end Op

namespace Op
open PySem PySem.Spec PyProof.Rows L2
/-! ## methods, makings, errors with one field -/
section
variable {X : Cx} {k j : Nat} {C : Addr} {x m : Str} {sp : Sp} {p pos apos : Pos} {e o : Expr} {es : List Expr} {ta : TE} {t : TA}
/-- o.m(..), nothing raised -/
def rCm (C : Addr) (m : Str) (sp : Sp) (t : TA) (σ : L2.St) (x : V) (H1 : Hp) (Q : VK) : Prop := ∃ a dx fs, x = .ref a ∧ H1 a = some (.ins C dx fs) ∧ fs.lookup m = none ∧ t σ H1 fun vs H2 => sp (x :: vs) H2 Q E0
def tCm (C : Addr) (m : Str) (sp : Sp) (ta : TE) (t : TA) : TE := fun σ H Q => ta σ H fun x H1 => rCm C m sp t σ x H1 Q
theorem g_cm {σ : L2.St} {H : Hp} {Q : VK} (k : ta σ H fun x H1 => rCm C m sp t σ x H1 Q) : tCm C m sp ta t σ H Q := k
theorem g_rcm {σ : L2.St} {H : Hp} {Q : VK} {a dx : Addr} {fs : List (Str × V)} (h : H a = some (.ins C dx fs)) (hl : fs.lookup m = none) (k : t σ H fun vs H2 => sp (.ref a :: vs) H2 Q E0) : rCm C m sp t σ (.ref a) H Q := ⟨a, dx, fs, rfl, h, hl, k⟩
theorem tCm_eq : tMeth C m sp [] E0 ta t = tCm C m sp ta t := by
  funext σ H Q
  unfold tMeth tCm rCm
  simp only [List.append_nil]
theorem pe_cm {pl : Sem Bool} (c : Cm X.prog X.w X.K X.mg X.base k C m sp) (cl : Cls X.K C) (hr : Room j X.A) (hk : k ≤ j) (he : PE X o ta) (ha : PA X (e :: es) t)
    (hs1 : starEach (e :: es) X.env = (false, eval e X.env) :: starEach es X.env := by rfl) (hp1 : (backTo pos (starEach es X.env)).any (·.1) = false := by rfl)
    (ht : eval (.Call (.Attribute o m apos) (e :: es) [] pos) X.env = (do
      let ov ← eval o X.env
      standAt apos.atName
      let (g, first) ← holding [ov] (getMethod ov m pl)
      callWith pos g first (backTo pos (starEach (e :: es) X.env)) (backToKw pos (keywordEach [] X.env))) := by rfl) :
    PE X (.Call (.Attribute o m apos) (e :: es) [] pos) (tCm C m sp ta t) := by
  obtain ⟨f, fd, ps, F, hm, b⟩ := c.ex
  rw [← tCm_eq]
  exact pe_meth (pl := pl) he cl hm F (hr.mono hk) b .nil passL ha hs1 hp1 ht
theorem pe_cm0 {pl : Sem Bool} (c : Cm X.prog X.w X.K X.mg X.base k C m sp) (cl : Cls X.K C) (hr : Room j X.A) (hk : k ≤ j) (he : PE X o ta)
    (ht : eval (.Call (.Attribute o m apos) [] [] pos) X.env = (do
      let ov ← eval o X.env
      standAt apos.atName
      let (g, first) ← holding [ov] (getMethod ov m pl)
      callWith pos g first (backTo pos (starEach [] X.env)) (backToKw pos (keywordEach [] X.env))) := by rfl) :
    PE X (.Call (.Attribute o m apos) [] [] pos) (tCm C m sp ta tNil) := by
  obtain ⟨f, fd, ps, F, hm, b⟩ := c.ex
  rw [← tCm_eq]
  exact pe_meth0 (pl := pl) he cl hm F (hr.mono hk) b .nil passL ht
/-- a class of the module that may be made -/
structure Ck (P : Program) (w : World) (K : PySem.W.Frag) (mg : Str → Option Value) (base : Heap) (k : Nat) (x : Str) (C : Addr) (sp : Sp) : Prop where
  ex : ∃ (f : Addr) (fd : FuncData) (ps : List Str), Mk K C f ∧ FnOk P w K mg base (L2.CX P w) k f fd ps sp ∧ mg x = some (.ref C) ∧ Binds K fd ps []
/-- C(..), where what it raises is wished for at the slots -/
def tMk (C : Addr) (sp : Sp) (E : L2.St → XK) (t : TA) : TE := fun σ H Q => t σ H fun vs H1 => ∀ x dx, H1 x = none → H1 dx = none → dx ≠ x →
  sp (.ref x :: vs) (upd (upd H1 dx (.own x)) x (.ins C dx [])) (fun v H2 => v = .non ∧ Q (.ref x) H2) (E σ)
theorem g_mk {E : L2.St → XK} {σ : L2.St} {H : Hp} {Q : VK} (k : t σ H fun vs H1 => ∀ x dx, H1 x = none → H1 dx = none → dx ≠ x → sp (.ref x :: vs) (upd (upd H1 dx (.own x)) x (.ins C dx [])) (fun v H2 => v = .non ∧ Q (.ref x) H2) (E σ)) : tMk C sp E t σ H Q := k
theorem run_mk {pins : List (Addr × Obj)} {σ : L2.St} {H : Hp} {s : Shared} {Q : VK} {E : XK} {us : List Value} {vs : List V} (c : Ck X.prog X.w X.K X.mg X.base k x C sp) (hr : Room (k + 1) X.A) (hx : PassesAt (L2.CX X.prog X.w) X σ E)
    (I : Inv X pins σ H s) (r : Vals vs us) (h : ∀ x dx, H x = none → H dx = none → dx ≠ x → sp (.ref x :: vs) (upd (upd H dx (.own x)) x (.ins C dx [])) (fun v H2 => v = .non ∧ Q (.ref x) H2) E) : wpAny (model X.prog X.w) X.A (call (.ref C) us) (EP X pins σ Q) X.xe s := by
  obtain ⟨f, fd, ps, M, F, hm, b⟩ := c.ex
  have q := h _ _ (I.hok.fresh (Nat.le_succ s.heap.objs.size)) (I.hok.fresh (Nat.le_refl s.heap.objs.size)) (Nat.ne_of_lt (Nat.lt_succ_self _))
  have J : Inv X pins σ _ _ := Inv.made (C := C) I
  have rr : Vals (V.ref (s.heap.objs.size + 1) :: vs) (Value.ref (s.heap.objs.size + 1) :: us) := .cons rfl r
  have hl : (Value.ref (s.heap.objs.size + 1) :: us).length = ps.length := rr.length.symm.trans (F.len _ _ _ _ q)
  have hb := b _ (Value.ref (s.heap.objs.size + 1) :: us) J.kIn (by rw [List.append_nil]; exact hl)
  rw [List.append_nil] at hb
  have run := F.run _ X.stack _ _ ⟨Value.ref (s.heap.objs.size + 1) :: us, []⟩ _ _ _ E (hr.make C us []) (J.env0.make C us []) hb rr q
  refine wpAny_call (make_map (f := f) I.kIn M.makes M.init (beq_iff_eq.mp M.fn) (codeAny_mono run fun r s' hq => ?_))
  match r, hq with
  | .error e, hq => exact hx pins _ _ e s' J hq
  | .ok (.ret u), hq =>
    obtain ⟨v, H', J', rv, ev, q3⟩ := J.after hq
    subst ev
    exact ⟨rv, V.ref (s.heap.objs.size + 1), H', J', rfl, q3⟩
  | .ok .next, hq => exact False.elim hq
  | .ok .brk, hq => exact False.elim hq
  | .ok .cont, hq => exact False.elim hq
theorem pe_mk {E : L2.St → XK} (c : Ck X.prog X.w X.K X.mg X.base k x C sp) (hr : Room j X.A) (hk : k + 1 ≤ j) (hx : ∀ σ, PassesAt (L2.CX X.prog X.w) X σ (E σ)) (hg : Gl X x) (ha : PA X (e :: es) t)
    (hdb : (x == ("__debug__" : Str)) = false := by decide) (hs1 : starEach (e :: es) X.env = (false, eval e X.env) :: starEach es X.env := by rfl) (hp1 : (backTo pos (starEach es X.env)).any (·.1) = false := by rfl) :
    PE X (.Call (.Name x p) (e :: es) [] pos) (tMk C sp E t) := by
  obtain ⟨_, _, _, M, _, hm, _⟩ := c.ex
  refine ⟨fun pins s σ H Q I h => wpAny_Call_Name_kw (ld_glob I hg hm ?_ hdb)⟩
  refine PySem.W.callWith_K (h₀ := X.base) I.ok.mod.kin M.kp ?_ hs1 hp1
  refine thn (ha.run pos pins s σ H _ I h) fun us s1 hh => ?_
  obtain ⟨vs, H1, I1, r, q⟩ := hh
  exact ⟨I1.kIn, run_mk c (hr.mono hk) (hx σ) I1 r q⟩
/-- nothing raised -/
theorem passE0 : ∀ σ : L2.St, PassesAt (L2.CX X.prog X.w) X σ ((fun _ => E0) σ) := fun σ pins H s e s' I h => passL pins σ H s e s' I h
/-! ### an own error class whose __init__ stores its one parameter -/
def spErr (K : PySem.W.Frag) (f : Str) : Sp := fun vs H Q _ => ∃ (a C : Addr) (y : V), vs = [.ref a, y] ∧ OexC K C ∧ PySem.W.findIn K (.ref C) f = some none ∧ H a = some (exo a C none) ∧
  ∀ dx, H dx = none → dx ≠ a → Q .non (upd (upd H dx (exd dx [(f, y)])) a (exo a C (some dx)))
/-- what is known of such a class, named x, with the field f -/
structure Er (P : Program) (w : World) (K : PySem.W.Frag) (mg : Str → Option Value) (base : Heap) (k : Nat) (x : Str) (C : Addr) (f : Str) : Prop where
  ex : ∃ (fI : Addr) (fd : FuncData) (ps : List Str), FnOk P w K mg base (L2.CX P w) k fI fd ps (spErr K f) ∧ PySem.W.findIn K (.ref C) "__init__" = some (some (.ref fI)) ∧ PySem.W.typeIn K (.ref fI) = some (.type "function") ∧ Binds K fd ps []
  oex : OexC K C
  no : PySem.W.findIn K (.ref C) f = some none
  gC : mg x = some (.ref C)
  xf : XfC K C
  te : PySem.W.exmOne K (.ref C) (.ref C) = some true
/-- arguments' reading, closed under what follows -/
def monA (t : TA) : TA := fun σ H Q => ∃ Q1, t σ H Q1 ∧ ∀ vs H', Q1 vs H' → Q vs H'
theorem pa_mon (h : PA X es t) : PA X es (monA t) := ⟨fun pos pins s σ H Q I q => by
  obtain ⟨Q1, h1, h2⟩ := q
  exact thn (h.run pos pins s σ H Q1 I h1) fun us s' z => by
    obtain ⟨vs, H', I', r, q⟩ := z
    exact ⟨vs, H', I', r, h2 _ _ q⟩⟩
/-- raise X(e) -/
def tRz (C : Addr) (f : Str) (W : WX) (ta : TA) : TS := fun _ σ H => ta σ H fun vs H1 => ∃ y, vs = [y] ∧ ∀ d, H1 d = none → W (.ref C) (some d) σ (upd H1 d (.xd [(f, y)]))
theorem del_back {H1 : Hp} {a dx : Addr} {o o2 u v : HO} (ha : H1 a = none) (n : dx ≠ a) : upd (del (upd (upd (upd H1 a o) dx u) a o2) a) dx v = upd H1 dx v := by
  funext b
  by_cases hb : b = dx
  · subst hb; rw [upd_same, upd_same]
  · rw [upd_ne hb, upd_ne hb]
    by_cases hc : b = a
    · subst hc; rw [del_same, ha]
    · rw [del_ne hc, upd_ne hc, upd_ne hb, upd_ne hc]
theorem ps_rz {f : Str} {W : WX} {pos2 : Pos} (hc : X.calm = true) (c : Er X.prog X.w X.K X.mg X.base k x C f) (hr : Room j X.A) (hk : k + 1 ≤ j) (tk : Takes X W) (hg : Gl X x) (ha : PA X (e :: es) t)
    (hdb : (x == ("__debug__" : Str)) = false := by decide) (hs1 : starEach (e :: es) X.env = (false, eval e X.env) :: starEach es X.env := by rfl) (hp1 : (backTo pos (starEach es X.env)).any (·.1) = false := by rfl) :
    PS X (.Raise (some (.Call (.Name x p) (e :: es) [] pos)) none pos2) (tRz C f W t) := by
  obtain ⟨fI, fd, ps, F, iC, tI, b⟩ := c.ex
  have h := ps_raise (pos := pos2) hc tk (pmk_oex (p := p) (pos := pos) c.oex iC tI F (hr.mono hk) b .nil passL hg c.gC (pa_mon ha) hdb hs1 hp1)
  refine ⟨fun pins s σ H D I hh => h.run pins s σ H D I ⟨_, hh, fun vs H1 q => ?_⟩⟩
  obtain ⟨y, rfl, q⟩ := q
  refine ⟨by show 1 ≤ 1000; decide, fun a hn => ⟨a, C, y, rfl, c.oex, c.no, upd_same, fun dx hdx ne => ⟨rfl, dx, [(f, y)], upd_same, ?_, ?_, ?_⟩⟩⟩
  · rw [upd_ne ne, upd_same]
  · rw [upd_ne ne] at hdx
    exact hdx
  · show W (.ref C) (some dx) σ _
    rw [del_back hn ne]
    rw [upd_ne ne] at hdx
    exact q dx hdx
end
section
variable {P : Program} {w : World} {K : PySem.W.Frag} {mg : Str → Option Value} {base : Heap}
/-- self.f = f, all that such an __init__ does -/
theorem err_body {f qual : Str} {st : Stmt} {C : Addr} {p1 p2 p3 p4 : Pos} (hb : defBody st = [.Assign [.Attribute (.Name "self" p1) f p2] (.Name f p3) p4]) (S : FnScope ["self", f] ["self", f] (defScope st)) (v0 : Vis (defScope st) "self") (v1 : Vis (defScope st) f)
    (hd : (f == ("__debug__" : Str)) = false) (hcd : (f == ("__classdict__" : Str)) = false) : BodyN P w K mg base ["self", f] qual st 0 (spErr K f) := by
  intro g cdv A outer s H vs Q E hr h
  obtain ⟨a, C, y, rfl, T, no, ha, q⟩ := h
  rw [hb]
  refine ⟨_, pss_one (ps_ost (pe_var (i := 0) rfl v0) (pe_var (i := 1) rfl v1 hd hcd) (by rfl)), ?_⟩
  exact ⟨y, rfl, .ref a, rfl, a, C, rfl, T, no, .inl ⟨ha, q⟩⟩
end
/-! ### for x in range(n) -/
def rFor (g : TG) (tb : TS) (D : Ends) (σ : L2.St) (xs : List V) (H : Hp) : Prop := ∃ n : Int, xs = [.int n] ∧ -(2 ^ 62) ≤ n ∧ n < 2 ^ 62 ∧ ∃ W : Nat → Nat → L2.St → Hp → Prop, (∃ m, W 0 m σ H) ∧ ∀ i m σ H, W i m σ H →
  ((Itr 0 n.toNat).stop i H ∧ D.nx σ H) ∨ ((Itr 0 n.toNat).go i H ∧ ∃ N : L2.St → Hp → Prop, (∀ σ' H', N σ' H' → ∃ m', m' < m ∧ W (i + 1) m' σ' H') ∧ ∀ x H', (Itr 0 n.toNat).yld i H x H' → g x σ H' fun σ2 H2 => tb { D with nx := N, ct := N, bk := D.nx } σ2 H2)
theorem g_for {tl : TA} {g : TG} {tb : TS} {D : Ends} {σ : L2.St} {H : Hp} (k : tl σ H fun xs H1 => rFor g tb D σ xs H1) : tFor (iRng1 tl) g tb D σ H := k
theorem r_for {j : Nat} {tb : TS} {D : Ends} {σ : L2.St} {n : Int} {H : Hp} (Pv : Nat → L2.St → Hp → Prop) (hn : -(2 ^ 62) ≤ n ∧ n < 2 ^ 62) (h0 : Pv 0 σ H)
    (hs : ∀ (i : Nat) σ' H', i < n.toNat → Pv i σ' H' → tb { D with nx := Pv (i + 1), ct := Pv (i + 1), bk := D.nx } (σ'.set j (some (.int (i : Int)))) H') (hd : ∀ σ' H', Pv n.toNat σ' H' → D.nx σ' H') : rFor (gName j) tb D σ [.int n] H :=
  ⟨n, rfl, hn.1, hn.2, for_range (lo := 0) (n := n.toNat) Pv h0 (fun i σ' H' hi p => by
    have r := hs i σ' H' hi p
    rw [← Int.zero_add (i : Int)] at r
    exact r) hd⟩
theorem g_par {i j : Nat} {ta : TA} {D : Ends} {σ : L2.St} {H : Hp} (k : ta σ H fun vs H1 => ∃ v w, vs = [v, w] ∧ D.nx ((σ.set i (some v)).set j (some w)) H1) : tPar i j ta D σ H := k
end Op

namespace Op
open PySem PySem.Spec PyProof.Rows L2 SX
local macro_rules | `(tactic| walk_at "go1") => `(tactic| first
  | ((with_reducible refine' g_var ?h ?_); (case h => rfl)) | with_reducible refine' g_c ?_ | with_reducible refine' g_op ?_ | with_reducible refine' g_un ?_ | with_reducible refine' g_if ?_ | with_reducible refine' g_test ?_ | with_reducible refine' g_B ?_ | with_reducible refine' g_bl ?_
  | with_reducible refine' g_not ?_ | with_reducible refine' g_and ?_ | with_reducible refine' g_or ?_ | with_reducible refine' g_andV ?_ | with_reducible refine' g_orV ?_ | with_reducible refine' g_notV ?_ | with_reducible refine' g_nil ?_ | with_reducible refine' g_cons ?_ | with_reducible refine' g_CB ?_ | with_reducible refine' g_ca ?_
  | with_reducible refine' g_seq ?_ | with_reducible refine' g_next ?_ | with_reducible refine' g_asg ?_ | with_reducible refine' g_name ?_ | with_reducible refine' g_ret ?_ | with_reducible refine' g_retN ?_ | with_reducible refine' g_drop ?_ | with_reducible refine' g_ifS ?_ | with_reducible refine' g_sub ?_
  | with_reducible refine' g_I0 ?_ | with_reducible refine' g_U ?_ | ((with_reducible refine' g_eq ?h ?_); (case h => rfl)) | ((with_reducible refine' g_ne ?h ?_); (case h => rfl))
  | ((with_reducible refine' g_lenL ?h ?_); (case h => first | assumption | exact SqL.of (by assumption) | exact SqL.of upd_same)) | ((with_reducible refine' g_lenT ?h ?_); (case h => first | assumption | exact SqT.of (by assumption) | exact SqT.of upd_same))
  | ((with_reducible refine' g_ixL ?h ?ha ?_); (case h => first | assumption | exact SqL.of (by assumption) | exact SqL.of upd_same); (case ha => rfl)) | ((with_reducible refine' g_ixT ?h ?ha ?_); (case h => first | assumption | exact SqT.of (by assumption) | exact SqT.of upd_same); (case ha => rfl))
  | ((with_reducible refine' g_I ?h ?_); (case h => first | decide | omega | (first | refine' ⟨?_, ?_, ?_⟩ | refine' ⟨?_, ?_⟩ | refine' Or.inl ⟨?_, ?_⟩) <;> omega | (refine' Or.inr ⟨?_, ?_⟩ <;> omega)))
  | ((with_reducible refine' g_setL ?h ?ha ?_); (case h => first | assumption | exact upd_same); (case ha => rfl))
  | with_reducible refine' g_lcR ?_
  | with_reducible refine' g_M1 ?_ | with_reducible refine' g_isS ?_ | with_reducible refine' g_tyS ?_ | ((with_reducible refine' g_tyL ?h ?_); (case h => first | assumption | exact upd_same))
  | ((with_reducible refine' g_cat ?h ?h2 ?hl ?_); (case h => first | assumption | exact upd_same); (case h2 => first | assumption | exact upd_same); (case hl => first | decide | (simp; omega)))
  | with_reducible refine' g_lcS ?_
  | with_reducible refine' g_starts ?_ | with_reducible refine' g_chain ?_
  | ((with_reducible refine' g_lenS ?h ?_); (case h => first | exact len_le (by assumption) | exact len_le (by omega))) | ((with_reducible refine' g_rstrip ?h ?_); (case h => first | exact len_le (by assumption) | exact len_le (by omega))) | ((with_reducible refine' g_slX ?h ?_); (case h => first | exact len_le (by assumption) | exact len_le (by omega)))
  | with_reducible refine' g_sl ?_ | with_reducible refine' g_nopart ?_ | with_reducible refine' g_part ?_ | with_reducible refine' g_isI ?_
  | with_reducible refine' g_tru ?_
  | with_reducible refine' iteT ?_ | with_reducible refine' iteF ?_ | with_reducible refine' iteNT ?_ | with_reducible refine' iteNF ?_
  | with_reducible refine' g_int ?_ | with_reducible refine' g_insg ?_ | with_reducible refine' g_ninsg ?_ | with_reducible refine' g_isN ?_ | with_reducible refine' g_notN ?_ | with_reducible refine' g_lst ?_ | with_reducible refine' g_tup ?_ | with_reducible refine' g_BM ?_ | with_reducible refine' g_BM0 ?_)
local macro_rules | `(tactic| walk_at "go") => `(tactic| repeat' walk_at "go1")
/-! ## letters -/
theorem atTxt_kind {cs t : List Nat} {k : Str} (h : kindOf cs = some (k, t)) : atTxt k t = cs ∧ atK k = true ∧ t.length ≤ cs.length := by
  unfold kindOf at h
  split at h
  · cases h
    exact ⟨by unfold atTxt; rw [if_neg (by decide +kernel)], by decide +kernel, Nat.le_refl _⟩
  · split at h
    · cases h
      exact ⟨by unfold atTxt; rw [if_neg (by decide +kernel)], by decide +kernel, Nat.le_refl _⟩
    · split at h
      · rename_i hh
        cases h
        refine ⟨?_, by decide +kernel, by rw [List.length_tail]; omega⟩
        unfold atTxt
        rw [if_pos rfl]
        cases cs with
        | nil => cases hh.1
        | cons c r => rw [show c = 63 from Option.some.inj hh.1]; rfl
      · cases h
theorem kind_ok {cs t : List Nat} {k : Str} (h : kindOf cs = some (k, t)) : (Fm.atm k t).ok = true := by
  unfold kindOf at h
  simp only [Fm.ok, Bool.or_eq_true, Bool.and_eq_true, beq_iff_eq]
  split at h
  · rename_i hh
    cases h
    exact .inl ⟨rfl, hh⟩
  · split at h
    · rename_i hh
      cases h
      exact .inr (.inl ⟨rfl, hh⟩)
    · split at h
      · rename_i hh
        cases h
        exact .inr (.inr ⟨rfl, hh.2⟩)
      · cases h
/-- what the written part says of the class -/
structure Lt (K : PySem.W.Frag) (mg : Str → Option Value) (C : Addr) : Prop where
  cl : Cls K C
  no : NoAttr K C "shape"
  mgC : mg "Letter" = some (.ref C)
/-- a letter with this form -/
def LetAt (C : Addr) (H : Hp) (v : V) (a : Fm) : Prop := ∃ x dx u, v = .ref x ∧ H x = some (.ins C dx [("shape", u)]) ∧ FmAt H u a
theorem LetAt.same {C : Addr} {H H' : Hp} {v : V} {a : Fm} (h : LetAt C H v a) (s : Same H H') : LetAt C H' v a := by
  obtain ⟨x, dx, u, rfl, e, f⟩ := h
  exact ⟨x, dx, u, rfl, s _ _ e, f.same s⟩
theorem LetAt.but {C st : Addr} {H H' : Hp} {v : V} {a : Fm} {xs : List V} (h : LetAt C H v a) (hs : H st = some (.lst xs)) (s : But st H H') : LetAt C H' v a := by
  obtain ⟨x, dx, u, rfl, e, f⟩ := h
  exact ⟨x, dx, u, rfl, s _ _ (ne_of e hs (by intro z; cases z)) e, f.tps fun b ys q => s _ _ (ne_of q hs (by intro z; cases z)) q⟩
/-- Letter(atom) of a text -/
def spInit (C CE : Addr) : Sp := fun vs H Q E => ∃ (x dx : Addr) (cs : List Nat), vs = [.ref x, .str (S cs)] ∧ H x = some (.ins C dx []) ∧ cs.length < 1000000 ∧
  (∀ k t H1 H' u, kindOf cs = some (k, t) → Same H H1 → FmAt H1 u (.atm k t) → H' = upd H1 x (.ins C dx [("shape", u)]) → Q .non H') ∧
  (kindOf cs = none → ∀ H1 d, Same H H1 → H1 d = none → E (.ref CE) (some d) (upd H1 d (.xd [("text", .str (S cs))])))
/-- .. of the tuple of a form -/
def spInitT (C : Addr) : Sp := fun vs H Q _ => ∃ (x dx p : Addr) (xs : List V), vs = [.ref x, .ref p] ∧ H x = some (.ins C dx []) ∧ H p = some (.tup xs) ∧ Q .non (upd H x (.ins C dx [("shape", .ref p)]))
def spInit2 (C CE : Addr) : Sp := fun vs H Q E => spInit C CE vs H Q E ∨ spInitT C vs H Q E
def spForm (C : Addr) : Sp := fun vs H Q _ => ∃ (x dx : Addr) (u : V), vs = [.ref x] ∧ H x = some (.ins C dx [("shape", u)]) ∧ Q u H
def spWritten (C : Addr) : Sp := fun vs H Q _ => ∃ (v : V) (a : Fm), vs = [v] ∧ LetAt C H v a ∧ a.kin = true ∧ a.small ∧ a.size ≤ 10000 ∧ ∀ H', Same H H' → Q (.str (S a.txt)) H'
section
variable {P : Program} {w : World} {K : PySem.W.Frag} {mg : Str → Option Value} {base : Heap} {CL CE : Addr}
theorem bd_init (T : Bl K mg) (L : Lt K mg CL) (c_atom_form : Ca P w K mg base 3 "atom_form" spAtomForm) (c_BadAtom : Er P w K mg base 1 "BadAtom" CE "text") :
    BodyX P w K mg base N_Letter___init__ "Letter.__init__" s_Letter___init__ 3 (spInit2 CL CE) := by
  intro f cdv A outer s H vs Q E hr h
  refine ⟨_, (pss_cons (ps_set (i := 2) sc_Letter___init__.nd rfl (Or.inl rfl) (pe_ifExp (pt_val (pe_callB call_isi (by rfl) T.b_isinstance (by decide +kernel) (pa_cons (pv 1) (pa_cons (pe_bltn (v := .ty "tuple") (u := .type "tuple") (by rfl) T.b_tuple (by decide +kernel) rfl) pa_nil)))) (pv 1) (pe_ca c_atom_form hr (by decide) (by rfl) (pa_cons (pv 1) pa_nil))))
  (pss_cons (ps_if (pt_cmpR oq_isN (pv 2) pe_non (nomark _))
  (pss_one (ps_rz rfl c_BadAtom hr (by decide) (takes_of rfl rfl rfl rfl) (by rfl) (pa_cons (pv 1) pa_nil)))
  pss_nil)
  (pss_one (ps_fld (pv 0) (pv 2) rfl)))), ?_⟩
  rcases h with h | h
  · obtain ⟨x, dx, cs, rfl, hx, hl, q1, q2⟩ := h
    walk_at "go"
    refine g_isi (.ty _) (.base (.str _)) (kit_ty (b := "tuple") (r := false) (by decide +kernel)) ?_
    walk_at "go"
    refine ⟨cs, rfl, hl, fun H1 v e1 av => ?_⟩
    walk_at "go"
    cases hk : kindOf cs with
    | none =>
      rw [hk] at av
      have ev : v = .non := av
      subst ev
      walk_at "go"
      refine iteD (fun _ => ?_) (fun h => absurd rfl h)
      exact ⟨_, rfl, _, rfl, fun d hd => q2 hk H1 d e1 hd⟩
    | some kt =>
      obtain ⟨k, t⟩ := kt
      rw [hk] at av
      obtain ⟨p, rfl, ep⟩ := av
      walk_at "go"
      refine iteD (fun h => absurd h (by intro z; cases z)) (fun _ => ?_)
      exact ⟨_, rfl, _, rfl, x, CL, dx, [], rfl, e1 _ _ hx, L.cl, L.no, by decide, q1 k t H1 _ _ hk e1 (.atm ep) rfl⟩
  · obtain ⟨x, dx, p, xs, rfl, hx, hp, q⟩ := h
    walk_at "go"
    refine g_isi (.ty _) (.base (.tup hp)) (kit_ty (b := "tuple") (r := true) (by decide +kernel)) ?_
    walk_at "go"
    refine iteD (fun h => absurd h (by intro z; cases z)) (fun _ => ?_)
    exact ⟨_, rfl, _, rfl, x, CL, dx, [], rfl, hx, L.cl, L.no, by decide, q⟩
theorem init_len : ∀ vs H Q E, spInit2 CL CE vs H Q E → vs.length = p_Letter___init__.length := fun vs H Q E h => by
  rcases h with ⟨x, dx, cs, rfl, _⟩ | ⟨x, dx, p, xs, rfl, _⟩ <;> rfl
theorem cm_form (D : Dm K CL "form" "Letter.form" s_Letter_form p_Letter_form) (L : Lt K mg CL) : Cm P w K mg base 1 CL "form" (spForm CL) := by
  refine cm_n D sc_Letter_form (fun vs H Q E h => ?_) (fun f cdv A outer s H vs Q E hr h => ?_)
  · obtain ⟨x, dx, u, rfl, _⟩ := h
    rfl
  · obtain ⟨x, dx, u, rfl, hx, q⟩ := h
    refine ⟨_, (pss_one (ps_ret (pe_fld (pv 0) rfl))), ?_⟩
    exact ⟨_, rfl, x, CL, dx, _, u, rfl, hx, L.cl, L.no, by simp [List.lookup], q⟩
theorem cm_written (T : Bl K mg) (D : Dm K CL "written" "Letter.written" s_Letter_written p_Letter_written) (L : Lt K mg CL) (c_form_text : Ca P w K mg base 2 "form_text" spFormText) : Cm P w K mg base 3 CL "written" (spWritten CL) := by
  refine cm_n D sc_Letter_written (fun vs H Q E h => ?_) (fun f cdv A outer s H vs Q E hr h => ?_)
  · obtain ⟨v, a, rfl, _⟩ := h
    rfl
  · obtain ⟨v, a, rfl, ⟨x, dx, u, rfl, hx, fa⟩, hk, hs, hz, q⟩ := h
    refine ⟨_, (pss_one (ps_ret (pe_ca c_form_text hr (by decide) (by rfl) (pa_cons (pe_fld (pv 0) rfl) pa_nil)))), ?_⟩
    exact ⟨_, rfl, x, CL, dx, _, u, rfl, hx, L.cl, L.no, by simp [List.lookup], u, a, rfl, fa, hk, hs, hz, q⟩
end
end Op

namespace Op
open PySem PySem.Spec PyProof.Rows L2 SX
/-! ## operators of own instances -/
/-- a method of the class as an operator -/
structure Co (K : PySem.W.Frag) (C : Addr) : Prop where
  first : PySem.W.selfFirst K C = true
/-- x op y, both of the class at C; what is raised is wished for at every slots of the def's length -/
def rOwn (C : Addr) (sp : Sp) (E : XK) : R2 := fun x y H Q => (∃ a dx fs, x = .ref a ∧ H a = some (.ins C dx fs)) ∧ (∃ a dx fs, y = .ref a ∧ H a = some (.ins C dx fs)) ∧ sp [x, y] H Q E
def rOwn1 (C : Addr) (sp : Sp) : V → Hp → VK → Prop := fun x H Q => (∃ a dx fs, x = .ref a ∧ H a = some (.ins C dx fs)) ∧ sp [x] H Q E0
/-- a wish at every slots -/
def allW (n : Nat) (W : WX) : XK := fun cls d H => ∀ σ : L2.St, σ.length = n → W cls d σ H
section
variable {X : Cx} {k j : Nat} {C : Addr} {m : Str} {sp : Sp} {E : XK}
theorem passAll {W : WX} (tk : Takes X W) (σ : L2.St) (hl : σ.length = X.N.length) : PassesAt (L2.CX X.prog X.w) X σ (allW X.N.length W) := fun pins H s e s' I h =>
  passAt tk σ pins H s e s' I (by
    obtain ⟨a, B, H', cls, d, h1, h2, h3, h4, h5, h6, h7, h8⟩ := h
    exact ⟨a, B, H', cls, d, h1, h2, h3, h4, h5, h6, h7, h8 σ hl⟩)
theorem back_of {pins : List (Addr × Obj)} {σ : L2.St} {Q : VK} {u : Value} {s : Shared} (h : EP X pins σ Q u s) : PySem.W.CmpBack (EP X pins σ Q) u s := by
  cases u with
  | notImplemented =>
    obtain ⟨v, H', I, r, q⟩ := h
    cases v <;> first | (cases r; done) | (obtain ⟨t, r⟩ := r; cases r) | (have r' : Value.notImplemented = _ := r; cases r')
  | _ => exact h
theorem op_own {op : Operator} (c : Cm X.prog X.w X.K X.mg X.base k C m sp) (hm : m = PySem.dunder op.info.2) (hf : PySem.W.selfFirst X.K C = true) (hr : Room j X.A) (hk : k ≤ j) (hx : ∀ σ : L2.St, σ.length = X.N.length → PassesAt (L2.CX X.prog X.w) X σ E) :
    OpR X (binaryOp op) (rOwn C sp E) := by
  intro pins s σ H x y v u Q I rx ry h
  obtain ⟨⟨a, dx, fs, rfl, ha⟩, ⟨b, dy, gs, rfl, hb⟩, h⟩ := h
  obtain ⟨f, fd, ps, F, M, bd⟩ := c.ex
  obtain ⟨mA, O1, _⟩ := ins_get I.hok ha
  obtain ⟨od, J1, _⟩ := O1.look
  obtain ⟨mB, O2, _⟩ := ins_get I.hok hb
  obtain ⟨oe, J2, _⟩ := O2.look
  obtain ⟨mf, fr⟩ := I.fr
  cases rx
  cases ry
  subst hm
  refine PySem.W.binop_K fr I.ok.mod.kin J1 J2.type hf M.at_ M.fn ?_
  exact wpAny_mono (run_fnS (E := fun _ => E) F (hr.mono hk) bd (hx σ I.len) I (vs := [.ref a, .ref b]) (.cons (rfl : L2.RelV (.ref a) (.ref a)) (.cons (rfl : L2.RelV (.ref b) (.ref b)) .nil)) h) (fun u s' q => back_of q) fun _ _ z => z
theorem op_own0 {op : Operator} (c : Cm X.prog X.w X.K X.mg X.base k C m sp) (hm : m = PySem.dunder op.info.2) (hf : PySem.W.selfFirst X.K C = true) (hr : Room j X.A) (hk : k ≤ j) : OpR X (binaryOp op) (rOwn C sp E0) :=
  op_own c hm hf hr hk fun σ _ => passE0 σ
theorem un_own {op : UnaryOp} (c : Cm X.prog X.w X.K X.mg X.base k C m sp) (hm : (op = .USub ∧ m = "__neg__") ∨ (op = .UAdd ∧ m = "__pos__") ∨ (op = .Invert ∧ m = "__invert__")) (hr : Room j X.A) (hk : k ≤ j) : UnR X (unaryOp op) (rOwn1 C sp) := by
  intro pins s σ H x v Q I rx h
  obtain ⟨⟨a, dx, fs, rfl, ha⟩, h⟩ := h
  obtain ⟨f, fd, ps, F, M, bd⟩ := c.ex
  obtain ⟨mA, O1, _⟩ := ins_get I.hok ha
  obtain ⟨od, J1, _⟩ := O1.look
  obtain ⟨mf, fr⟩ := I.fr
  cases rx
  have run := run_fnS (E := fun _ => E0) F (hr.mono hk) bd (passE0 σ) I (vs := [.ref a]) (.cons (rfl : L2.RelV (.ref a) (.ref a)) .nil) h
  rcases hm with ⟨rfl, rfl⟩ | ⟨rfl, rfl⟩ | ⟨rfl, rfl⟩
  · exact PySem.W.ksp_neg fr I.ok.mod.kin J1 M.at_ M.fn run
  · exact PySem.W.ksp_pos fr I.ok.mod.kin J1 M.at_ M.fn run
  · exact PySem.W.ksp_inv fr I.ok.mod.kin J1 M.at_ M.fn run
end
def rFld (K : PySem.W.Frag) (f : Str) (x : V) (H1 : Hp) (Q : VK) : Prop := ∃ a C dx fs v, x = .ref a ∧ H1 a = some (.ins C dx fs) ∧ Cls K C ∧ NoAttr K C f ∧ fs.lookup f = some v ∧ Q v H1
theorem g_fld {K : PySem.W.Frag} {f : Str} {ta : TE} {σ : L2.St} {H : Hp} {Q : VK} (k : ta σ H fun x H1 => rFld K f x H1 Q) : tFld K ta f σ H Q := k
theorem g_shape {K : PySem.W.Frag} {H : Hp} {Q : VK} {a C dx : Addr} {u : V} (hc : Cls K C) (hn : NoAttr K C "shape") (h : H a = some (.ins C dx [("shape", u)])) (k : Q u H) : rFld K "shape" (.ref a) H Q :=
  ⟨a, C, dx, _, u, rfl, h, hc, hn, by simp [List.lookup], k⟩
/-! comprehensions over a tuple -/
def rLcT (K : PySem.W.Frag) (j : Nat) (te : TE) (vs : List Nat) (σ : L2.St) (v : V) (H : Hp) (Q : VK) : Prop := ∃ a, v = .ref a ∧ (∃ xs, SqT K H a xs) ∧ ∀ D, H D = none → ∃ W : Nat → Nat → Hp → Prop, (∃ m, W 0 m (upd H D (.lst []))) ∧ ∀ i m H, W i m H →
  ((Itt K a).stop i H ∧ Q (.ref D) H) ∨ ((Itt K a).go i H ∧ ∃ Nx : Hp → Prop, (∀ H', Nx H' → ∃ m', m' < m ∧ W (i + 1) m' H') ∧ ∀ x H', (Itt K a).yld i H x H' → gName j x (wipe σ vs) H' fun σ2 H2 => wipe σ2 vs = wipe σ vs ∧ tYes σ2 H2 fun b H3 =>
    if b = true then te σ2 H3 fun y H4 => ∃ acc, H4 D = some (.lst acc) ∧ acc.length < sizeLine ∧ Nx (upd H4 D (.lst (acc ++ [y]))) else Nx H3)
theorem g_lcT0 {K : PySem.W.Frag} {σ : L2.St} {H : Hp} {Q : VK} {tl : TE} {te : TE} {j : Nat} {vs : List Nat} (k : tl σ H fun v H1 => rLcT K j te vs σ v H1 Q) : tLc (iTup K tl) (gName j) tYes te vs σ H Q := k
end Op

namespace Op
open PySem PySem.Spec PyProof.Rows L2 SX
local macro_rules | `(tactic| walk_at "go1") => `(tactic| first
  | ((with_reducible refine' g_var ?h ?_); (case h => rfl)) | with_reducible refine' g_c ?_ | with_reducible refine' g_op ?_ | with_reducible refine' g_un ?_ | with_reducible refine' g_if ?_ | with_reducible refine' g_test ?_ | with_reducible refine' g_B ?_ | with_reducible refine' g_bl ?_
  | with_reducible refine' g_not ?_ | with_reducible refine' g_and ?_ | with_reducible refine' g_or ?_ | with_reducible refine' g_andV ?_ | with_reducible refine' g_orV ?_ | with_reducible refine' g_notV ?_ | with_reducible refine' g_nil ?_ | with_reducible refine' g_cons ?_ | with_reducible refine' g_CB ?_ | with_reducible refine' g_ca ?_
  | with_reducible refine' g_seq ?_ | with_reducible refine' g_next ?_ | with_reducible refine' g_asg ?_ | with_reducible refine' g_name ?_ | with_reducible refine' g_ret ?_ | with_reducible refine' g_retN ?_ | with_reducible refine' g_drop ?_ | with_reducible refine' g_ifS ?_ | with_reducible refine' g_sub ?_
  | with_reducible refine' g_I0 ?_ | with_reducible refine' g_U ?_ | ((with_reducible refine' g_eq ?h ?_); (case h => rfl)) | ((with_reducible refine' g_ne ?h ?_); (case h => rfl))
  | ((with_reducible refine' g_lenL ?h ?_); (case h => first | assumption | exact SqL.of (by assumption) | exact SqL.of upd_same)) | ((with_reducible refine' g_lenT ?h ?_); (case h => first | assumption | exact SqT.of (by assumption) | exact SqT.of upd_same))
  | ((with_reducible refine' g_ixL ?h ?ha ?_); (case h => first | assumption | exact SqL.of (by assumption) | exact SqL.of upd_same); (case ha => rfl)) | ((with_reducible refine' g_ixT ?h ?ha ?_); (case h => first | assumption | exact SqT.of (by assumption) | exact SqT.of upd_same); (case ha => rfl))
  | ((with_reducible refine' g_I ?h ?_); (case h => first | decide | omega | (first | refine' ⟨?_, ?_, ?_⟩ | refine' ⟨?_, ?_⟩ | refine' Or.inl ⟨?_, ?_⟩) <;> omega | (refine' Or.inr ⟨?_, ?_⟩ <;> omega)))
  | ((with_reducible refine' g_setL ?h ?ha ?_); (case h => first | assumption | exact upd_same); (case ha => rfl))
  | with_reducible refine' g_lcR ?_
  | with_reducible refine' g_M1 ?_ | with_reducible refine' g_isS ?_ | with_reducible refine' g_tyS ?_ | ((with_reducible refine' g_tyL ?h ?_); (case h => first | assumption | exact upd_same))
  | ((with_reducible refine' g_cat ?h ?h2 ?hl ?_); (case h => first | assumption | exact upd_same); (case h2 => first | assumption | exact upd_same); (case hl => first | decide | (simp; omega)))
  | with_reducible refine' g_lcS ?_
  | with_reducible refine' g_starts ?_ | with_reducible refine' g_chain ?_
  | ((with_reducible refine' g_lenS ?h ?_); (case h => first | exact len_le (by assumption) | exact len_le (by omega))) | ((with_reducible refine' g_rstrip ?h ?_); (case h => first | exact len_le (by assumption) | exact len_le (by omega))) | ((with_reducible refine' g_slX ?h ?_); (case h => first | exact len_le (by assumption) | exact len_le (by omega)))
  | with_reducible refine' g_sl ?_ | with_reducible refine' g_nopart ?_ | with_reducible refine' g_part ?_ | with_reducible refine' g_isI ?_
  | with_reducible refine' g_tru ?_
  | with_reducible refine' iteT ?_ | with_reducible refine' iteF ?_ | with_reducible refine' iteNT ?_ | with_reducible refine' iteNF ?_
  | with_reducible refine' g_int ?_ | with_reducible refine' g_insg ?_ | with_reducible refine' g_ninsg ?_ | with_reducible refine' g_isN ?_ | with_reducible refine' g_notN ?_ | with_reducible refine' g_lst ?_ | with_reducible refine' g_tup ?_ | with_reducible refine' g_BM ?_ | with_reducible refine' g_BM0 ?_)
local macro_rules | `(tactic| walk_at "go") => `(tactic| repeat' walk_at "go1")
local macro_rules | `(tactic| walk_at "go2") => `(tactic| repeat' (first | walk_at "go1" | with_reducible refine' g_cm ?_ | with_reducible refine' g_mk ?_ | with_reducible refine' g_for ?_ | ((with_reducible refine' g_rcm ?h ?ha ?_); (case h => first | assumption | exact upd_same); (case ha => first | rfl | decide | simp [List.lookup]))))
/- macro2 -/
local macro_rules | `(tactic| walk_at "go3a") => `(tactic| first
  | walk_at "go1" | with_reducible refine' g_cm ?_ | with_reducible refine' g_mk ?_ | with_reducible refine' g_for ?_ | with_reducible refine' g_fld ?_ | with_reducible refine' g_lcT0 ?_
  | ((with_reducible refine' g_rcm ?h ?ha ?_); (case h => first | assumption | exact upd_same); (case ha => first | rfl | decide | simp [List.lookup]))
  | ((with_reducible refine' g_shape ?hc ?hn ?h ?_); (case hc => assumption); (case hn => assumption); (case h => first | assumption | exact upd_same | (rw [upd_ne (by assumption)]; assumption))))
local macro_rules | `(tactic| walk_at "go3") => `(tactic| repeat' walk_at "go3a")
local macro_rules | `(tactic| walk_at "go4") => `(tactic| repeat' (first
  | walk_at "go3a" | ((with_reducible refine' iteDT ?h ?_); (case h => first | rfl | decide +kernel)) | ((with_reducible refine' iteDF ?h ?_); (case h => decide +kernel))))
/-! ## the operators of letters -/
/-- what isinstance and the operators ask of the class -/
structure Lc (K : PySem.W.Frag) (C : Addr) : Prop where
  first : PySem.W.selfFirst K C = true
  ins : C8.InsC K C
theorem Lc.isi {K : PySem.W.Frag} {C : Addr} (c : Lc K C) {H : Hp} {Q : VK} {a dx : Addr} {fs : List (Str × V)} (h : H a = some (.ins C dx fs)) (k : Q (.bl true) H) : rIsi K [.ref a, .ref C] H Q :=
  g_isi (.own C) (.base (.ins h c.ins.cl c.ins.ha c.ins.hn c.ins.htk c.ins.hm)) c.ins.me k
/-- two letters make a letter of the kind k -/
def spBi (CL : Addr) (k : Str) : Sp := fun vs H Q _ => ∃ (u v : V) (a b : Fm), vs = [u, v] ∧ LetAt CL H u a ∧ LetAt CL H v b ∧ ∀ H' x, Same H H' → LetAt CL H' x (.bi k a b) → Q x H'
def spUn (CL : Addr) (k : Str) : Sp := fun vs H Q _ => ∃ (u : V) (a : Fm), vs = [u] ∧ LetAt CL H u a ∧ ∀ H' x, Same H H' → LetAt CL H' x (.un k a) → Q x H'
/-- the lock: a key, or BadKey with the letter that is none -/
def spXor (CL CX : Addr) : Sp := fun vs H Q E => ∃ (u v : V) (a b : Fm), vs = [u, v] ∧ LetAt CL H u a ∧ LetAt CL H v b ∧ b.kin = true ∧ (b.isKey = true → ∀ H' x, Same H H' → LetAt CL H' x (.bi kLock a b) → Q x H') ∧
  (b.isKey = false → ∀ H' d, Same H H' → H' d = none → E (.ref CX) (some d) (upd H' d (.xd [("key", v)])))
section
variable {P : Program} {w : World} {K : PySem.W.Frag} {mg : Str → Option Value} {base : Heap} {CL CE CX : Addr}
/-- Letter(the tuple at p) -/
theorem mk_tup {H : Hp} {Q : VK} {E : XK} {p : Addr} {xs : List V} (hp : H p = some (.tup xs)) (k : ∀ H' x dx, Same H H' → H' x = some (.ins CL dx [("shape", .ref p)]) → Q (.ref x) H') :
    ∀ x dx, H x = none → H dx = none → dx ≠ x → spInit2 CL CE [.ref x, .ref p] (upd (upd H dx (.own x)) x (.ins CL dx [])) (fun v H2 => v = .non ∧ Q (.ref x) H2) E := by
  intro x dx nx ndx nex
  have s0 : Same H (upd (upd H dx (.own x)) x (.ins CL dx [])) := fun b o e => by
    rw [upd_ne (ne_of_none e nx), upd_ne (ne_of_none e ndx)]
    exact e
  exact .inr ⟨x, dx, p, xs, rfl, upd_same, s0 _ _ hp, rfl, k _ x dx (Same.mut s0 nx) upd_same⟩
theorem cm_add (T : Bl K mg) (L : Lt K mg CL) (LC : Lc K CL) (D : Dm K CL "__add__" "Letter.__add__" s_Letter___add__ p_Letter___add__) (c_Letter : Ck P w K mg base 4 "Letter" CL (spInit2 CL CE)) : Cm P w K mg base 6 CL "__add__" (spBi CL kPair) := by
  refine cm_n D sc_Letter___add__ (fun vs H Q E h => ?_) (fun f cdv A outer s H vs Q E hr h => ?_)
  · obtain ⟨u, v, a, b, rfl, _⟩ := h
    rfl
  · obtain ⟨u, v, a, b, rfl, ⟨x, dx, ua, rfl, hx, fa⟩, ⟨y, dy, ub, rfl, hy, fb⟩, q⟩ := h
    have lcl := L.cl
    have lno := L.no
    refine ⟨_, (pss_cons (ps_if (pt_not (pt_val (pe_callB call_isi (by rfl) T.b_isinstance (by decide +kernel) (pa_cons (pv 1) (pa_cons (C8.pe_gc (v := .ref CL) (by rfl) ⟨_, L.mgC, rfl⟩) pa_nil)))))
  (pss_one ps_never)
  pss_nil)
  (pss_one (ps_ret (pe_mk (E := fun _ => E0) c_Letter hr (by decide) passE0 (by rfl) (pa_cons (pe_tup (pa_cons pe_str (pa_cons (pe_fld (pv 0) rfl) (pa_cons (pe_fld (pv 1) rfl) pa_nil)))) pa_nil))))), ?_⟩
    walk_at "go3"
    refine LC.isi hy ?_
    walk_at "go3"
    refine ⟨by show 3 ≤ sizeLine; decide, fun p hp => ?_⟩
    walk_at "go3"
    refine mk_tup upd_same fun H' z dz s1 hz => ?_
    have sp : Same H (upd H p (.tup [.str kPair, ua, ub])) := Same.upd hp
    exact q _ _ (sp.trans s1) ⟨z, dz, .ref p, rfl, hz, .bi (s1 _ _ upd_same) ((fa.same sp).same s1) ((fb.same sp).same s1)⟩
theorem cm_mul (T : Bl K mg) (L : Lt K mg CL) (LC : Lc K CL) (D : Dm K CL "__mul__" "Letter.__mul__" s_Letter___mul__ p_Letter___mul__) (c_Letter : Ck P w K mg base 4 "Letter" CL (spInit2 CL CE)) : Cm P w K mg base 6 CL "__mul__" (spBi CL kSeal) := by
  refine cm_n D sc_Letter___mul__ (fun vs H Q E h => ?_) (fun f cdv A outer s H vs Q E hr h => ?_)
  · obtain ⟨u, v, a, b, rfl, _⟩ := h
    rfl
  · obtain ⟨u, v, a, b, rfl, ⟨x, dx, ua, rfl, hx, fa⟩, ⟨y, dy, ub, rfl, hy, fb⟩, q⟩ := h
    have lcl := L.cl
    have lno := L.no
    refine ⟨_, (pss_cons (ps_if (pt_not (pt_val (pe_callB call_isi (by rfl) T.b_isinstance (by decide +kernel) (pa_cons (pv 1) (pa_cons (C8.pe_gc (v := .ref CL) (by rfl) ⟨_, L.mgC, rfl⟩) pa_nil)))))
  (pss_one ps_never)
  pss_nil)
  (pss_one (ps_ret (pe_mk (E := fun _ => E0) c_Letter hr (by decide) passE0 (by rfl) (pa_cons (pe_tup (pa_cons pe_str (pa_cons (pe_fld (pv 0) rfl) (pa_cons (pe_fld (pv 1) rfl) pa_nil)))) pa_nil))))), ?_⟩
    walk_at "go3"
    refine LC.isi hy ?_
    walk_at "go3"
    refine ⟨by show 3 ≤ sizeLine; decide, fun p hp => ?_⟩
    walk_at "go3"
    refine mk_tup upd_same fun H' z dz s1 hz => ?_
    have sp : Same H (upd H p (.tup [.str kSeal, ua, ub])) := Same.upd hp
    exact q _ _ (sp.trans s1) ⟨z, dz, .ref p, rfl, hz, .bi (s1 _ _ upd_same) ((fa.same sp).same s1) ((fb.same sp).same s1)⟩
theorem cm_invert (T : Bl K mg) (L : Lt K mg CL) (D : Dm K CL "__invert__" "Letter.__invert__" s_Letter___invert__ p_Letter___invert__) (c_Letter : Ck P w K mg base 4 "Letter" CL (spInit2 CL CE)) : Cm P w K mg base 6 CL "__invert__" (spUn CL kMark) := by
  refine cm_n D sc_Letter___invert__ (fun vs H Q E h => ?_) (fun f cdv A outer s H vs Q E hr h => ?_)
  · obtain ⟨u, a, rfl, _⟩ := h
    rfl
  · obtain ⟨u, a, rfl, ⟨x, dx, ua, rfl, hx, fa⟩, q⟩ := h
    have lcl := L.cl
    have lno := L.no
    refine ⟨_, (pss_one (ps_ret (pe_mk (E := fun _ => E0) c_Letter hr (by decide) passE0 (by rfl) (pa_cons (pe_tup (pa_cons pe_str (pa_cons (pe_fld (pv 0) rfl) pa_nil))) pa_nil)))), ?_⟩
    walk_at "go3"
    refine ⟨by show 2 ≤ sizeLine; decide, fun p hp => ?_⟩
    walk_at "go3"
    refine mk_tup upd_same fun H' z dz s1 hz => ?_
    have sp : Same H (upd H p (.tup [.str kMark, ua])) := Same.upd hp
    exact q _ _ (sp.trans s1) ⟨z, dz, .ref p, rfl, hz, .un (s1 _ _ upd_same) ((fa.same sp).same s1)⟩
theorem cm_pos (T : Bl K mg) (L : Lt K mg CL) (D : Dm K CL "__pos__" "Letter.__pos__" s_Letter___pos__ p_Letter___pos__) (c_Letter : Ck P w K mg base 4 "Letter" CL (spInit2 CL CE)) : Cm P w K mg base 6 CL "__pos__" (spUn CL kOpen) := by
  refine cm_n D sc_Letter___pos__ (fun vs H Q E h => ?_) (fun f cdv A outer s H vs Q E hr h => ?_)
  · obtain ⟨u, a, rfl, _⟩ := h
    rfl
  · obtain ⟨u, a, rfl, ⟨x, dx, ua, rfl, hx, fa⟩, q⟩ := h
    have lcl := L.cl
    have lno := L.no
    refine ⟨_, (pss_one (ps_ret (pe_mk (E := fun _ => E0) c_Letter hr (by decide) passE0 (by rfl) (pa_cons (pe_tup (pa_cons pe_str (pa_cons (pe_fld (pv 0) rfl) pa_nil))) pa_nil)))), ?_⟩
    walk_at "go3"
    refine ⟨by show 2 ≤ sizeLine; decide, fun p hp => ?_⟩
    walk_at "go3"
    refine mk_tup upd_same fun H' z dz s1 hz => ?_
    have sp : Same H (upd H p (.tup [.str kOpen, ua])) := Same.upd hp
    exact q _ _ (sp.trans s1) ⟨z, dz, .ref p, rfl, hz, .un (s1 _ _ upd_same) ((fa.same sp).same s1)⟩
theorem cm_neg (T : Bl K mg) (L : Lt K mg CL) (D : Dm K CL "__neg__" "Letter.__neg__" s_Letter___neg__ p_Letter___neg__) (c_Letter : Ck P w K mg base 4 "Letter" CL (spInit2 CL CE)) : Cm P w K mg base 6 CL "__neg__" (spUn CL kOwn) := by
  refine cm_n D sc_Letter___neg__ (fun vs H Q E h => ?_) (fun f cdv A outer s H vs Q E hr h => ?_)
  · obtain ⟨u, a, rfl, _⟩ := h
    rfl
  · obtain ⟨u, a, rfl, ⟨x, dx, ua, rfl, hx, fa⟩, q⟩ := h
    have lcl := L.cl
    have lno := L.no
    refine ⟨_, (pss_one (ps_ret (pe_mk (E := fun _ => E0) c_Letter hr (by decide) passE0 (by rfl) (pa_cons (pe_tup (pa_cons pe_str (pa_cons (pe_fld (pv 0) rfl) pa_nil))) pa_nil)))), ?_⟩
    walk_at "go3"
    refine ⟨by show 2 ≤ sizeLine; decide, fun p hp => ?_⟩
    walk_at "go3"
    refine mk_tup upd_same fun H' z dz s1 hz => ?_
    have sp : Same H (upd H p (.tup [.str kOwn, ua])) := Same.upd hp
    exact q _ _ (sp.trans s1) ⟨z, dz, .ref p, rfl, hz, .un (s1 _ _ upd_same) ((fa.same sp).same s1)⟩
theorem at0 {v : V} {xs : List V} : atI (v :: xs) (0 : Int) = some v := at_of (j := 0) rfl rfl
theorem inV_keys (k : Str) : inV (.str k) [V.str kOpen, V.str kOwn] = (k == kOpen || k == kOwn) := by
  show ((kOpen == k) || ((kOwn == k) || false)) = _
  rw [Bool.or_false, BEq.comm (a := kOpen), BEq.comm (a := kOwn)]
theorem head_at {H : Hp} {v : V} {a : Fm} (h : FmAt H v a) : ∃ p xs, v = .ref p ∧ H p = some (.tup (.str a.head :: xs)) := by
  cases h with
  | atm h => exact ⟨_, _, rfl, h⟩
  | un h _ => exact ⟨_, _, rfl, h⟩
  | bi h _ _ => exact ⟨_, _, rfl, h⟩
theorem key_head : ∀ {a : Fm}, a.kin = true → (a.head == kOpen || a.head == kOwn) = a.isKey
  | .atm k t, h => by
    simp only [Fm.kin, atK, Bool.or_eq_true, beq_iff_eq] at h
    rcases h with (rfl | rfl) | rfl
    · show (kWord == kOpen || kWord == kOwn) = false
      decide +kernel
    · show (kName == kOpen || kName == kOwn) = false
      decide +kernel
    · show (kUnk == kOpen || kUnk == kOwn) = false
      decide +kernel
  | .un k a, _ => rfl
  | .bi k a b, h => by
    simp only [Fm.kin, biK, Bool.and_eq_true, Bool.or_eq_true, beq_iff_eq] at h
    rcases h.1 with (rfl | rfl) | rfl
    · show (kPair == kOpen || kPair == kOwn) = false
      decide +kernel
    · show (kSeal == kOpen || kSeal == kOwn) = false
      decide +kernel
    · show (kLock == kOpen || kLock == kOwn) = false
      decide +kernel
theorem cm_xor (T : Bl K mg) (L : Lt K mg CL) (LC : Lc K CL) (D : Dm K CL "__xor__" "Letter.__xor__" s_Letter___xor__ p_Letter___xor__) (c_Letter : Ck P w K mg base 4 "Letter" CL (spInit2 CL CE)) (c_BadKey : Er P w K mg base 1 "BadKey" CX "key") : Cm P w K mg base 6 CL "__xor__" (spXor CL CX) := by
  obtain ⟨aK, hK, tK⟩ := T.t_KEYS
  have c_KEYS : ∃ u, mg "KEYS" = some u ∧ RelV (.ref aK) u := ⟨_, hK, rfl⟩
  refine cm_x D sc_Letter___xor__ (fun vs H Q E h => ?_) (fun f cdv A outer s H vs Q E hr h => ?_)
  · obtain ⟨u, v, a, b, rfl, _⟩ := h
    rfl
  · obtain ⟨u, v, a, b, rfl, ⟨x, dx, ua, rfl, hx, fa⟩, ⟨y, dy, ub, rfl, hy, fb⟩, hkin, q1, q2⟩ := h
    have lcl := L.cl
    have lno := L.no
    refine ⟨_, (pss_cons (ps_if (pt_not (pt_val (pe_callB call_isi (by rfl) T.b_isinstance (by decide +kernel) (pa_cons (pv 1) (pa_cons (C8.pe_gc (v := .ref CL) (by rfl) ⟨_, L.mgC, rfl⟩) pa_nil)))))
  (pss_one ps_never)
  pss_nil)
  (pss_cons (ps_if (pt_cmpR op_notIn_seq (pe_ix ix_tup (pe_fld (pv 1) rfl) pe_int (fun _ _ => rfl)) (C8.pe_gc (by rfl) c_KEYS) rfl)
  (pss_one (ps_rz rfl c_BadKey hr (by decide) (takes_of rfl rfl rfl rfl) (by rfl) (pa_cons (pv 1) pa_nil)))
  pss_nil)
  (pss_one (ps_ret (pe_mk (E := fun _ => E0) c_Letter hr (by decide) passE0 (by rfl) (pa_cons (pe_tup (pa_cons pe_str (pa_cons (pe_fld (pv 0) rfl) (pa_cons (pe_fld (pv 1) rfl) pa_nil)))) pa_nil)))))), ?_⟩
    walk_at "go3"
    refine LC.isi hy ?_
    walk_at "go3"
    obtain ⟨p, xs, rfl, ep⟩ := head_at fb
    refine g_ixT (v := .str b.head) (SqT.of ep) at0 ?_
    walk_at "go3"
    refine g_ninT (tK _) rfl rfl ?_
    rw [inV_keys, key_head hkin]
    cases hk : b.isKey with
    | false =>
      walk_at "go3"
      exact ⟨_, rfl, _, rfl, fun d hd => q2 hk H d (Same.refl _) hd⟩
    | true =>
      walk_at "go3"
      refine ⟨by show 3 ≤ sizeLine; decide, fun p2 hp => ?_⟩
      walk_at "go3"
      refine mk_tup upd_same fun H' z dz s1 hz => ?_
      have sp : Same H (upd H p2 (.tup [.str kLock, ua, .ref p])) := Same.upd hp
      exact q1 hk _ _ (sp.trans s1) ⟨z, dz, .ref p2, rfl, hz, .bi (s1 _ _ upd_same) ((fa.same sp).same s1) ((fb.same sp).same s1)⟩
end
end Op

namespace Op
open PySem PySem.Spec PyProof.Rows L2 L2H
/-! ## a def that raises nothing, called within an except suite -/
/-- its promise there; p stands for the exception that is handled -/
structure Fc (P : Program) (w : World) (K : PySem.W.Frag) (mg : Str → Option Value) (base : Heap) (k : Nat) (f : Addr) (fd : FuncData) (ps : List Str) (sp : Sp) : Prop where
  len : ∀ vs H Q E, sp vs H Q E → vs.length = ps.length
  run : ∀ (A : Around) (outer : List Env) (s : Shared) (H : Hp) (us : List Value) (vs : List V) (Q : VK) (p : Addr × Obj), RoomH k A → PinOk outer H s p → Env0 P w K mg base A outer s H → BindsTo s fd ⟨us, []⟩ (ps.zip us) → Vals vs us → sp vs H Q E0 →
    codeAny (model P w) A (.call (.ref f) ⟨us, []⟩) (CR (L2.CX P w) outer P w H s Q E0) s
theorem fc_of {P : Program} {w : World} {K : PySem.W.Frag} {mg : Str → Option Value} {base : Heap} {k : Nat} {f : Addr} {fd : FuncData} {N ps : List Str} {x qual : Str} {st : Stmt} {sp : Sp} (F : Fun K x qual st f fd) (S : FnScope N ps (defScope st)) (len : ∀ vs H Q E, sp vs H Q E → vs.length = ps.length)
    (hb : ∀ (cdv : Value) (A : Around) (outer : List Env) (s : Shared) (H : Hp) (vs : List V) (Q : VK) (p : Addr × Obj), RoomH k (A.deeper (envOfC qual (defScope st) s.heap.objs.size f cdv)) → sp vs H Q E0 →
      ∃ t, PSs (cxH (L2.CX P w) P w K mg base N qual (defScope st) f cdv A outer s H E0 p).nox (defBody st) t ∧ t { nx := fun _ H' => Q .non H', rt := Q } (L2.start N vs) H) : Fc P w K mg base (k + 1) f fd ps sp := by
  obtain ⟨oc, od, kV, doc, pm, an, cdv, ct, osl, rfl, lk, hcd⟩ := F.ex
  refine ⟨len, ?_⟩
  intro A outer s H us vs Q p hr hp e0 bd r hsp
  have old : ∀ b o, base.get? b = some o → s.heap.get? b = some o := fun b o e => (e0.bs b o e).1
  have KX : K.In s.heap := e0.mod.kin.keeps old
  have kinds : ∀ y ∈ ps.zip us, (defScope st).names.lookup y.1 = some .local ∨ ((defScope st).names.lookup y.1 = some .cell ∧ ((cellsFrom (s.heap.objs.size + 1) (defScope st).names []).lookup y.1).isSome = true) := by
    rintro ⟨n, v⟩ hy
    exact (S.par n (List.of_mem_zip hy).1).elim .inl fun q => .inr ⟨q, PySem.W.cellsFrom_some _ _ _ (.inl q)⟩
  refine codeAny_call_function hr.depth (KX _ _ lk) rfl S.co S.gen rfl (PySem.W.codeRec_of KX hcd) (bd _ _ _ _ ?_)
  refine wpAny_newFunctionEnv_cells S.kind kinds fun env he s1 ic => ?_
  subst he
  obtain ⟨t, ht, hq⟩ := hb cdv A outer s H vs Q p (hr.deeper _) hsp
  have J := inv_startH (CX := L2.CX P w) (w := w) (mg := mg) (E := E0) (cd := cdv) S hp e0 (len _ _ _ _ hsp) r ic
  have lim : s.heap.NoLimit := e0.mod.nolimit.keeps old
  refine ⟨lim.keeps ic.toInCall.keep, codeAny_func (wpAny_mono (ht.nox.run [] s1 _ H _ J hq) (fun fl s' h => ?_) fun e s' h => h)⟩
  match fl, h with
  | .ret u, ⟨v, σ', H', J', rv, q⟩ => exact ⟨v, H', J'.os, J'.bare, J'.base, J'.hok, rv, q⟩
  | .next, ⟨σ', H', J', q⟩ => exact ⟨V.non, H', J'.os, J'.bare, J'.base, J'.hok, rfl, q⟩
  | .brk, ⟨_, _, _, q⟩ => exact False.elim q
  | .cont, ⟨_, _, _, q⟩ => exact False.elim q
/-- a method that may be called there -/
structure Mc (P : Program) (w : World) (K : PySem.W.Frag) (mg : Str → Option Value) (base : Heap) (k : Nat) (C : Addr) (m : Str) (sp : Sp) : Prop where
  ex : ∃ (f : Addr) (fd : FuncData) (ps : List Str), Fc P w K mg base k f fd ps sp ∧ Meth K C m f ∧ Binds K fd ps []
section
variable {X : Cx} {k j : Nat} {C a : Addr} {m : Str} {sp : Sp} {pos apos : Pos} {o : Expr} {ta : TE} {oe : Obj} {pn : List (Addr × Obj)}
theorem pe_mc0 {pl : Sem Bool} (c : Mc X.prog X.w X.K X.mg X.base k C m sp) (cl : Cls X.K C) (hr : Room j X.A) (hk : k ≤ j) (he : PE (X.suite a ((a, oe) :: pn)) o ta)
    (ht : eval (.Call (.Attribute o m apos) [] [] pos) X.env = (do
      let ov ← eval o X.env
      standAt apos.atName
      let (g, first) ← holding [ov] (getMethod ov m pl)
      callWith pos g first (backTo pos (starEach [] X.env)) (backToKw pos (keywordEach [] X.env))) := by rfl) :
    PE (X.suite a ((a, oe) :: pn)) (.Call (.Attribute o m apos) [] [] pos) (tCm C m sp ta tNil) := by
  obtain ⟨f, fd, ps, F, M, b⟩ := c.ex
  refine ⟨fun pins s σ H Q I h => ?_⟩
  refine PySem.W.methodCall_KW (pl := pl) (thn (he.run pins s σ H _ I h) fun u s1 hh => ?_) ht
  obtain ⟨x, H1, I1, rx, q, dx, fs, ex, ea, l, q1⟩ := hh
  subst ex
  obtain rfl : u = Value.ref q := rx
  refine getmeth_ok I1 ea cl M l ?_
  refine PySem.W.callWith_K0 (first := [.ref q]) I1.kIn M.kp ?_
  have hroom : RoomH k (X.suite a ((a, oe) :: pn)).A := ⟨(hr.mono hk).dp, (hr.mono hk).un⟩
  obtain ⟨g1, g2, g3, g4, g5⟩ := I1.pin (a, oe) (List.mem_append_left _ List.mem_cons_self)
  have hpin : PinOk (X.suite a ((a, oe) :: pn)).stack H1 s1 (a, oe) := ⟨g1, g2, fun z => (List.mem_cons.mp (I1.stkSub a z)).elim g3 g4, g5⟩
  have rv : Vals [V.ref q] [Value.ref q] := .cons (rfl : L2.RelV (.ref q) (.ref q)) .nil
  have hl : [Value.ref q].length = ps.length := rv.length.symm.trans (F.len _ _ _ _ q1)
  have bd := b s1 [Value.ref q] I1.kIn (by rw [List.append_nil]; exact hl)
  rw [List.append_nil] at bd
  refine wpAny_call (codeAny_mono (F.run (X.suite a ((a, oe) :: pn)).A (X.suite a ((a, oe) :: pn)).stack s1 H1 [.ref q] [.ref q] Q (a, oe) hroom hpin I1.env0 bd rv q1) fun r s' hq => ?_)
  match r, hq with
  | .error e, hq => exact passE0 σ pins H1 s1 e s' I1 hq
  | .ok (.ret u), hq => exact I1.after hq
  | .ok .next, hq => exact False.elim hq
  | .ok .brk, hq => exact False.elim hq
  | .ok .cont, hq => exact False.elim hq
end
end Op

namespace Op
open PySem PySem.Spec PyProof.Rows L2 SX
local macro_rules | `(tactic| walk_at "go1") => `(tactic| first
  | ((with_reducible refine' g_var ?h ?_); (case h => rfl)) | with_reducible refine' g_c ?_ | with_reducible refine' g_op ?_ | with_reducible refine' g_un ?_ | with_reducible refine' g_if ?_ | with_reducible refine' g_test ?_ | with_reducible refine' g_B ?_ | with_reducible refine' g_bl ?_
  | with_reducible refine' g_not ?_ | with_reducible refine' g_and ?_ | with_reducible refine' g_or ?_ | with_reducible refine' g_andV ?_ | with_reducible refine' g_orV ?_ | with_reducible refine' g_notV ?_ | with_reducible refine' g_nil ?_ | with_reducible refine' g_cons ?_ | with_reducible refine' g_CB ?_ | with_reducible refine' g_ca ?_
  | with_reducible refine' g_seq ?_ | with_reducible refine' g_next ?_ | with_reducible refine' g_asg ?_ | with_reducible refine' g_name ?_ | with_reducible refine' g_ret ?_ | with_reducible refine' g_retN ?_ | with_reducible refine' g_drop ?_ | with_reducible refine' g_ifS ?_ | with_reducible refine' g_sub ?_
  | with_reducible refine' g_I0 ?_ | with_reducible refine' g_U ?_ | ((with_reducible refine' g_eq ?h ?_); (case h => rfl)) | ((with_reducible refine' g_ne ?h ?_); (case h => rfl))
  | ((with_reducible refine' g_lenL ?h ?_); (case h => first | assumption | exact SqL.of (by assumption) | exact SqL.of upd_same)) | ((with_reducible refine' g_lenT ?h ?_); (case h => first | assumption | exact SqT.of (by assumption) | exact SqT.of upd_same))
  | ((with_reducible refine' g_ixL ?h ?ha ?_); (case h => first | assumption | exact SqL.of (by assumption) | exact SqL.of upd_same); (case ha => rfl)) | ((with_reducible refine' g_ixT ?h ?ha ?_); (case h => first | assumption | exact SqT.of (by assumption) | exact SqT.of upd_same); (case ha => rfl))
  | ((with_reducible refine' g_I ?h ?_); (case h => first | decide | omega | (first | refine' ⟨?_, ?_, ?_⟩ | refine' ⟨?_, ?_⟩ | refine' Or.inl ⟨?_, ?_⟩) <;> omega | (refine' Or.inr ⟨?_, ?_⟩ <;> omega)))
  | ((with_reducible refine' g_setL ?h ?ha ?_); (case h => first | assumption | exact upd_same); (case ha => rfl))
  | with_reducible refine' g_lcR ?_
  | with_reducible refine' g_M1 ?_ | with_reducible refine' g_isS ?_ | with_reducible refine' g_tyS ?_ | ((with_reducible refine' g_tyL ?h ?_); (case h => first | assumption | exact upd_same))
  | ((with_reducible refine' g_cat ?h ?h2 ?hl ?_); (case h => first | assumption | exact upd_same); (case h2 => first | assumption | exact upd_same); (case hl => first | decide | (simp; omega)))
  | with_reducible refine' g_lcS ?_
  | with_reducible refine' g_starts ?_ | with_reducible refine' g_chain ?_
  | ((with_reducible refine' g_lenS ?h ?_); (case h => first | exact len_le (by assumption) | exact len_le (by omega))) | ((with_reducible refine' g_rstrip ?h ?_); (case h => first | exact len_le (by assumption) | exact len_le (by omega))) | ((with_reducible refine' g_slX ?h ?_); (case h => first | exact len_le (by assumption) | exact len_le (by omega)))
  | with_reducible refine' g_sl ?_ | with_reducible refine' g_nopart ?_ | with_reducible refine' g_part ?_ | with_reducible refine' g_isI ?_
  | with_reducible refine' g_tru ?_
  | with_reducible refine' iteT ?_ | with_reducible refine' iteF ?_ | with_reducible refine' iteNT ?_ | with_reducible refine' iteNF ?_
  | with_reducible refine' g_int ?_ | with_reducible refine' g_insg ?_ | with_reducible refine' g_ninsg ?_ | with_reducible refine' g_isN ?_ | with_reducible refine' g_notN ?_ | with_reducible refine' g_lst ?_ | with_reducible refine' g_tup ?_ | with_reducible refine' g_BM ?_ | with_reducible refine' g_BM0 ?_)
local macro_rules | `(tactic| walk_at "go") => `(tactic| repeat' walk_at "go1")
local macro_rules | `(tactic| walk_at "go2") => `(tactic| repeat' (first | walk_at "go1" | with_reducible refine' g_cm ?_ | with_reducible refine' g_mk ?_ | with_reducible refine' g_for ?_ | ((with_reducible refine' g_rcm ?h ?ha ?_); (case h => first | assumption | exact upd_same); (case ha => first | rfl | decide | simp [List.lookup]))))
/- macro2 -/
local macro_rules | `(tactic| walk_at "go3a") => `(tactic| first
  | walk_at "go1" | with_reducible refine' g_cm ?_ | with_reducible refine' g_mk ?_ | with_reducible refine' g_for ?_ | with_reducible refine' g_fld ?_ | with_reducible refine' g_lcT0 ?_
  | ((with_reducible refine' g_rcm ?h ?ha ?_); (case h => first | assumption | exact upd_same); (case ha => first | rfl | decide | simp [List.lookup]))
  | ((with_reducible refine' g_shape ?hc ?hn ?h ?_); (case hc => assumption); (case hn => assumption); (case h => first | assumption | exact upd_same | (rw [upd_ne (by assumption)]; assumption))))
local macro_rules | `(tactic| walk_at "go3") => `(tactic| repeat' walk_at "go3a")
local macro_rules | `(tactic| walk_at "go4") => `(tactic| repeat' (first
  | walk_at "go3a" | ((with_reducible refine' iteDT ?h ?_); (case h => first | rfl | decide +kernel)) | ((with_reducible refine' iteDF ?h ?_); (case h => decide +kernel))))
/-! ## drawn forms -/
theorem cap_mem {c : Nat} (h : 65 ≤ c ∧ c ≤ 90) : c ∈ capL := by
  have : ∀ c : Fin 128, 65 ≤ c.val ∧ c.val ≤ 90 → c.val ∈ capL := by decide +kernel
  exact this ⟨c, by omega⟩ h
theorem small_mem {c : Nat} (h : 97 ≤ c ∧ c ≤ 122) : c ∈ smallL := by
  have : ∀ c : Fin 128, 97 ≤ c.val ∧ c.val ≤ 122 → c.val ∈ smallL := by decide +kernel
  exact this ⟨c, by omega⟩ h
theorem dig_mem {c : Nat} (h : 48 ≤ c ∧ c ≤ 57) : c ∈ digL := by
  have : ∀ c : Fin 128, 48 ≤ c.val ∧ c.val ≤ 57 → c.val ∈ digL := by decide +kernel
  exact this ⟨c, by omega⟩ h
theorem wordB_of {cs : List Nat} (h : isWordL cs) : isWordB cs = true := by
  simp only [isWordB, Bool.and_eq_true, decide_eq_true_eq]
  exact ⟨h.1, h.2.1, allIn_of fun c hc => small_mem (h.2.2 c hc)⟩
theorem nameB_of {cs : List Nat} (h : isNameL cs) : isNameB cs = true := by
  obtain ⟨as, bs, rfl, h1, h2, h3, h4⟩ := h
  have e : noDig (as ++ bs) = as := noDig_of (fun c hc => cap_mem (h3 c hc)) (fun c hc => dig_mem (h4 c hc))
  simp only [isNameB, Bool.and_eq_true, decide_eq_true_eq]
  rw [e]
  exact ⟨h1, h2, allIn_of fun c hc => cap_mem (h3 c hc)⟩
/-- the law's list of unknowns stands at us -/
def UsAt (H : Hp) (us : Addr) (xs : List (List Nat)) : Prop := H us = some (.lst (xs.map fun x => .str (S x))) ∧ (∀ x ∈ xs, isUnkB x = true) ∧ xs.length < 1000
theorem UsAt.but {H H' : Hp} {us st : Addr} {xs : List (List Nat)} (h : UsAt H us xs) (n : us ≠ st) (b : But st H H') : UsAt H' us xs := ⟨b _ _ n h.1, h.2⟩
theorem UsAt.same {H H' : Hp} {us : Addr} {xs : List (List Nat)} (h : UsAt H us xs) (b : Same H H') : UsAt H' us xs := ⟨b _ _ h.1, h.2⟩
theorem StAt.tps {H H' : Hp} {st : Addr} {n : Nat} (h : StAt H st n) (b : But st H H') : Tps H H' := fun x ys e => by
  obtain ⟨a1, a2, a3, e0, _⟩ := h
  exact b _ _ (ne_of e e0 (by intro z; cases z)) e
def spAtom : Sp := fun vs H Q _ => ∃ (st us : Addr) (xs : List (List Nat)) (n : Nat), vs = [.ref st, .ref us] ∧ UsAt H us xs ∧ us ≠ st ∧ StAt H st n ∧ n + 20 ≤ 1000000000000 ∧
  ∀ H' v k t, (Fm.atm k t).ok = true → But st H H' → StAt H' st (n + 20) → FmAt H' v (.atm k t) → Q v H'
theorem ok_word {t : List Nat} (h : isWordB t = true) : (Fm.atm kWord t).ok = true := by simp [Fm.ok, h]
theorem ok_name {t : List Nat} (h : isNameB t = true) : (Fm.atm kName t).ok = true := by simp [Fm.ok, h]
theorem ok_unk {t : List Nat} (h : isUnkB t = true) : (Fm.atm kUnk t).ok = true := by simp [Fm.ok, h]
theorem unk_str (xs : List (List Nat)) (h : ∀ x ∈ xs, isUnkB x = true) : SeqAt.shaped (.list (xs.map fun x => .str (S x))) = true := by
  have h1 : ∀ x : List Nat, isUnkB x = true → PyData.strOk (S x) = true := fun x hx => by
    simp only [isUnkB, Bool.and_eq_true] at hx
    show (S x).cps.all (· < 0x110000) = true
    rw [← Array.all_toList]
    exact List.all_eq_true.mpr fun c hc => decide_eq_true (by
      have := allIn_mem hx.2.2 c hc
      have : ∀ c ∈ smallL, c < 128 := by decide +kernel
      have := this c (by assumption)
      omega)
  have h2 : PyData.canLayAll0 (xs.map fun x => PyData.str (S x)) = true := by
    induction xs with
    | nil => rfl
    | cons x r ih =>
      show (PyData.strOk (S x) && PyData.canLayAll0 (r.map fun x => PyData.str (S x))) = true
      rw [h1 x (h x (List.mem_cons_self ..)), ih fun y hy => h y (List.mem_cons_of_mem _ hy)]
      rfl
  have h3 : PyData.depthAll (xs.map fun x => PyData.str (S x)) = 0 := by
    clear h h1 h2
    induction xs with
    | nil => rfl
    | cons x r ih =>
      show max 0 (PyData.depthAll (r.map fun x => PyData.str (S x))) = 0
      rw [ih]
      rfl
  show (PyData.canLayAll0 (xs.map fun x => PyData.str (S x)) && decide (PyData.depthAll (xs.map fun x => PyData.str (S x)) + 1 ≤ 64)) = true
  rw [h2, h3]
  rfl
theorem eqv_nil (xs : List (List Nat)) : PyData.eqv (.list (xs.map fun x => .str (S x))) (.list []) = xs.isEmpty := by
  cases xs with
  | nil => rfl
  | cons x r => rfl
theorem dp_strs {K : PySem.W.Frag} {H : Hp} : ∀ xs : List (List Nat), DpAll K H (xs.map fun x => V.str (S x)) (xs.map fun x => PyData.str (S x))
  | [] => .nil
  | x :: r => .cons (.str _) (dp_strs r)
section
variable {P : Program} {w : World} {K : PySem.W.Frag} {mg : Str → Option Value} {base : Heap} {CL CE CX : Addr}
theorem ca_atom (T : Bl K mg) (D : Df K mg "_law_atom" s_law_atom p_law_atom) (c_law_draw : Ca P w K mg base 1 "_law_draw" spDraw) (c_law_pick : Ca P w K mg base 2 "_law_pick" (spPick K)) (c_law_word : Ca P w K mg base 2 "_law_word" spWord) (c_law_name : Ca P w K mg base 2 "_law_name" spName) :
    Ca P w K mg base 3 "_law_atom" spAtom := by
  refine ca_n D sc_law_atom (fun vs H Q E h => ?_) (fun f cdv A outer s H vs Q E hr h => ?_)
  · obtain ⟨st, us, xs, n, rfl, _⟩ := h
    rfl
  · obtain ⟨st, us, xs, n, rfl, hus, hne, hst, hn, q⟩ := h
    refine ⟨_, (pss_cons (ps_set (i := 2) sc_law_atom.nd rfl (Or.inl rfl) (pe_ca c_law_draw hr (by decide) (by rfl) (pa_cons (pv 0) (pa_cons pe_int pa_nil))))
  (C8.pss_cut (ps_if (PW.pt (pw_and (pt_cmpR op_lt (pv 2) pe_int (nomark _)) (pw_and1 (pt_cmpR (op_neD hr.units) (pv 1) (pe_lst pa_nil) (nomark _)))))
  (pss_one (ps_ret (pe_tup (pa_cons pe_str (pa_cons (pe_ca c_law_pick hr (by decide) (by rfl) (pa_cons (pv 0) (pa_cons (pv 1) pa_nil))) pa_nil)))))
  pss_nil)
  (pss_cons (ps_if (pt_cmpR op_lt (pv 2) pe_int (nomark _))
  (pss_one (ps_ret (pe_tup (pa_cons pe_str (pa_cons (pe_ca c_law_pick hr (by decide) (by rfl) (pa_cons (pv 0) (pa_cons (pe_lst (pa_cons pe_str (pa_cons pe_str (pa_cons pe_str (pa_cons pe_str (pa_cons (pe_ca c_law_name hr (by decide) (by rfl) (pa_cons (pv 0) pa_nil)) pa_nil)))))) pa_nil))) pa_nil)))))
  pss_nil)
  (pss_one (ps_ret (pe_tup (pa_cons pe_str (pa_cons (pe_ca c_law_pick hr (by decide) (by rfl) (pa_cons (pv 0) (pa_cons (pe_lst (pa_cons pe_str (pa_cons pe_str (pa_cons pe_str (pa_cons pe_str (pa_cons (pe_ca c_law_word hr (by decide) (by rfl) (pa_cons (pv 0) pa_nil)) pa_nil)))))) pa_nil))) pa_nil)))))))), ?_⟩
    walk_at "go3"
    refine g_draw (m := 6) rfl (by decide) (by decide) hst (by omega) fun H1 d hd b1 s1 => ?_
    have u1 := hus.but hne b1
    walk_at "go3"
    refine ⟨fun σ' H' => σ' = [some (.ref st), some (.ref us), some (.int (d : Int))] ∧ Same H1 H', ?_, ?_⟩
    · walk_at "go3"
      refine iteD (fun h1 => ?_) (fun h1 => ?_)
      · walk_at "go3"
        refine ⟨Nat.zero_le _, fun p hp => ?_⟩
        have u2 := u1.same (Same.upd (o := .lst []) hp)
        refine ⟨.list (xs.map fun x => .str (S x)), .list [], .lst (SqL.of u2.1) (dp_strs xs), .lst (SqL.of upd_same) .nil, unk_str xs u1.2.1, rfl, ?_⟩
        rw [eqv_nil]
        walk_at "go3"
        refine iteB (fun h2 => ?_) (fun h2 => ?_)
        · walk_at "go3"
          have hx : xs ≠ [] := fun z => by rw [z] at h2; cases h2
          refine ⟨st, us, xs.map fun x => .str (S x), n + 1, rfl, SqL.of u2.1, hne, by rw [List.length_map]; exact List.length_pos_iff.mpr hx, by rw [List.length_map]; have := u1.2.2; omega, s1.same (Same.upd hp), by omega, fun H2 v hv b2 s2 => ?_⟩
          obtain ⟨x, hx, rfl⟩ := List.mem_map.mp hv
          walk_at "go3"
          refine ⟨by show 2 ≤ sizeLine; decide, fun p2 hp2 => ?_⟩
          refine q _ _ kUnk x (ok_unk (u1.2.1 x hx)) ((b1.trans ((But.of (Same.upd hp)).trans b2)).trans (But.of (Same.upd hp2))) ((s2.same (Same.upd hp2)).mono (by omega)) (.atm upd_same)
        · walk_at "go3"
          exact ⟨rfl, Same.upd hp⟩
      · walk_at "go3"
        exact ⟨rfl, Same.refl _⟩
    · rintro σ' H2 ⟨rfl, s2⟩
      walk_at "go3"
      refine iteD (fun h1 => ?_) (fun h1 => ?_)
      · walk_at "go3"
        refine ⟨st, n + 1, rfl, s1.same s2, by omega, fun H3 cs hcs b3 s3 => ?_⟩
        walk_at "go3"
        refine ⟨by show 5 ≤ sizeLine; decide, fun p hp => ?_⟩
        walk_at "go3"
        refine ⟨st, p, [.str (Str.ofString "K"), .str (Str.ofString "N"), .str (Str.ofString "S"), .str (Str.ofString "AB"), .str (S cs)], _, rfl, SqL.of upd_same, (s3.ne hp).symm, by show 0 < 5; decide, by show 5 < 1000000; decide, s3.same (Same.upd hp), by omega, fun H4 v hv b4 s4 => ?_⟩
        obtain ⟨t, rfl, ht⟩ : ∃ t, v = .str (S t) ∧ isNameB t = true := by
          simp only [List.mem_cons, List.not_mem_nil, or_false] at hv
          rcases hv with rfl | rfl | rfl | rfl | rfl
          · exact ⟨(Str.ofString "K").cps.toList, by rw [S_tl], by decide +kernel⟩
          · exact ⟨(Str.ofString "N").cps.toList, by rw [S_tl], by decide +kernel⟩
          · exact ⟨(Str.ofString "S").cps.toList, by rw [S_tl], by decide +kernel⟩
          · exact ⟨(Str.ofString "AB").cps.toList, by rw [S_tl], by decide +kernel⟩
          · exact ⟨cs, rfl, nameB_of hcs⟩
        walk_at "go3"
        refine ⟨by show 2 ≤ sizeLine; decide, fun p2 hp2 => ?_⟩
        refine q _ _ kName t (ok_name ht) ((b1.trans (But.of s2)).trans ((b3.trans ((But.of (Same.upd hp)).trans b4)).trans (But.of (Same.upd hp2)))) ((s4.same (Same.upd hp2)).mono (by omega)) (.atm upd_same)
      · walk_at "go3"
        refine ⟨st, n + 1, rfl, s1.same s2, by omega, fun H3 cs hcs b3 s3 => ?_⟩
        walk_at "go3"
        refine ⟨by show 5 ≤ sizeLine; decide, fun p hp => ?_⟩
        walk_at "go3"
        refine ⟨st, p, [.str (Str.ofString "a"), .str (Str.ofString "b"), .str (Str.ofString "yes"), .str (Str.ofString "open"), .str (S cs)], _, rfl, SqL.of upd_same, (s3.ne hp).symm, by show 0 < 5; decide, by show 5 < 1000000; decide, s3.same (Same.upd hp), by omega, fun H4 v hv b4 s4 => ?_⟩
        obtain ⟨t, rfl, ht⟩ : ∃ t, v = .str (S t) ∧ isWordB t = true := by
          simp only [List.mem_cons, List.not_mem_nil, or_false] at hv
          rcases hv with rfl | rfl | rfl | rfl | rfl
          · exact ⟨(Str.ofString "a").cps.toList, by rw [S_tl], by decide +kernel⟩
          · exact ⟨(Str.ofString "b").cps.toList, by rw [S_tl], by decide +kernel⟩
          · exact ⟨(Str.ofString "yes").cps.toList, by rw [S_tl], by decide +kernel⟩
          · exact ⟨(Str.ofString "open").cps.toList, by rw [S_tl], by decide +kernel⟩
          · exact ⟨cs, rfl, wordB_of hcs⟩
        walk_at "go3"
        refine ⟨by show 2 ≤ sizeLine; decide, fun p2 hp2 => ?_⟩
        refine q _ _ kWord t (ok_word ht) ((b1.trans (But.of s2)).trans ((b3.trans ((But.of (Same.upd hp)).trans b4)).trans (But.of (Same.upd hp2)))) ((s4.same (Same.upd hp2)).mono (by omega)) (.atm upd_same)
/-! ### drawn forms of a depth -/
def Fm.dep : Fm → Nat
  | .atm _ _ => 0
  | .un _ a => a.dep + 1
  | .bi _ a b => max a.dep b.dep + 1
/-- draws, sizes at most, by the depth asked -/
def dr : Nat → Nat
  | 0 => 25
  | e + 1 => 2 * dr e + 25
theorem dr_ge : ∀ e, 25 ≤ dr e
  | 0 => Nat.le_refl _
  | e + 1 => by have := dr_ge e; show 25 ≤ 2 * dr e + 25; omega
def szB : Nat → Nat
  | 0 => 1
  | e + 1 => 2 * szB e + 2
def spForm1 (d : Nat) : Sp := fun vs H Q _ => ∃ (st us : Addr) (xs : List (List Nat)) (n e : Nat), vs = [.ref st, .ref us, .int (e : Int)] ∧ e < d ∧ UsAt H us xs ∧ us ≠ st ∧ StAt H st n ∧ n + dr e ≤ 1000000000000 ∧
  ∀ H' v a, a.ok = true → a.dep ≤ 2 * e → a.size ≤ szB e → But st H H' → StAt H' st (n + dr e) → FmAt H' v a → Q v H'
theorem ca_form (T : Bl K mg) (D : Df K mg "_law_form" s_law_form p_law_form) (c_law_draw : Ca P w K mg base 1 "_law_draw" spDraw) (c_law_atom : Ca P w K mg base 3 "_law_atom" spAtom) : ∀ d, Ca P w K mg base (4 + d) "_law_form" (spForm1 d)
  | 0 => by
    refine ca_n D sc_law_form (fun vs H Q E h => ?_) (fun f cdv A outer s H vs Q E hr h => ?_)
    · obtain ⟨st, us, xs, n, e, rfl, _⟩ := h
      rfl
    · obtain ⟨st, us, xs, n, e, rfl, he, _⟩ := h
      exact absurd he (Nat.not_lt_zero _)
  | d + 1 => by
    have c_law_form := ca_form T D c_law_draw c_law_atom d
    refine ca_n (k := 4 + d) D sc_law_form (fun vs H Q E h => ?_) (fun f cdv A outer s H vs Q E hr h => ?_)
    · obtain ⟨st, us, xs, n, e, rfl, _⟩ := h
      rfl
    · obtain ⟨st, us, xs, n, e, rfl, he, hus, hne, hst, hn, q⟩ := h
      refine ⟨_, (C8.pss_cut (ps_set (i := 3) sc_law_form.nd rfl (Or.inl rfl) (pe_ifExp (pt_cmpR op_gt (pv 2) pe_int (nomark _)) (pe_ca c_law_draw hr (by omega) (by rfl) (pa_cons (pv 0) (pa_cons pe_int pa_nil))) pe_int))
  (pss_cons (ps_if (pt_cmpR op_lt (pv 3) pe_int (nomark _))
  (pss_one (ps_ret (pe_ca c_law_atom hr (by omega) (by rfl) (pa_cons (pv 0) (pa_cons (pv 1) pa_nil)))))
  pss_nil)
  (pss_cons (ps_set (i := 4) sc_law_form.nd rfl (Or.inl rfl) (pe_ca c_law_form hr (by omega) (by rfl) (pa_cons (pv 0) (pa_cons (pv 1) (pa_cons (pe_op op_sub (pv 2) pe_int) pa_nil)))))
  (pss_cons (ps_if (pt_cmpR op_gt (pv 3) pe_int (nomark _))
  (pss_one (ps_ret (pe_tup (pa_cons (pe_ix ix_list (pe_lst (pa_cons pe_str (pa_cons pe_str (pa_cons pe_str pa_nil)))) (pe_ca c_law_draw hr (by omega) (by rfl) (pa_cons (pv 0) (pa_cons pe_int pa_nil))) (fun _ _ => rfl)) (pa_cons (pv 4) pa_nil)))))
  pss_nil)
  (pss_cons (ps_set (i := 5) sc_law_form.nd rfl (Or.inl rfl) (pe_ca c_law_form hr (by omega) (by rfl) (pa_cons (pv 0) (pa_cons (pv 1) (pa_cons (pe_op op_sub (pv 2) pe_int) pa_nil)))))
  (pss_cons (ps_if (pt_cmpR op_gt (pv 3) pe_int (nomark _))
  (pss_one (ps_ret (pe_tup (pa_cons pe_str (pa_cons (pv 4) (pa_cons (pe_tup (pa_cons (pe_ix ix_list (pe_lst (pa_cons pe_str (pa_cons pe_str pa_nil))) (pe_ca c_law_draw hr (by omega) (by rfl) (pa_cons (pv 0) (pa_cons pe_int pa_nil))) (fun _ _ => rfl)) (pa_cons (pv 5) pa_nil))) pa_nil))))))
  pss_nil)
  (pss_one (ps_ret (pe_tup (pa_cons (pe_ix ix_list (pe_lst (pa_cons pe_str (pa_cons pe_str pa_nil))) (pe_op op_mod (pe_callTy cq_int (by rfl) T.b_int (by decide +kernel) (pa_cons (pv 3) pa_nil)) pe_int) (fun _ _ => rfl)) (pa_cons (pv 4) (pa_cons (pv 5) pa_nil)))))))))))), ?_⟩
      walk_at "go3"
      have hdr := dr_ge e
      refine ⟨fun σ' H' => ∃ w : Nat, σ' = [some (.ref st), some (.ref us), some (.int (e : Int)), some (.int (w : Int)), none, none] ∧ But st H H' ∧ StAt H' st (n + 1) ∧ (e = 0 → w = 0) ∧ w < 11, ?_, ?_⟩
      · walk_at "go3"
        refine iteD (fun h1 => ?_) (fun h1 => ?_)
        · walk_at "go3"
          refine g_draw (m := 11) rfl (by decide) (by decide) hst (by omega) fun H1 w hw b1 s1 => ?_
          walk_at "go3"
          exact ⟨w, rfl, b1, s1, fun z => by omega, hw⟩
        · walk_at "go3"
          exact ⟨0, rfl, But.refl _, hst.mono (by omega), fun _ => rfl, by decide⟩
      · rintro σ' H1 ⟨w, rfl, b1, s1, hw0, hw⟩
        have u1 := hus.but hne b1
        walk_at "go3"
        refine iteD (fun h1 => ?_) (fun h1 => ?_)
        · walk_at "go3"
          refine ⟨st, us, xs, n + 1, rfl, u1, hne, s1, by omega, fun H2 v k t hk b2 s2 fa => ?_⟩
          refine q _ _ _ hk (Nat.zero_le _) ?_ (b1.trans b2) (s2.mono (by omega)) fa
          show 1 ≤ szB e
          cases e with
          | zero => exact Nat.le_refl _
          | succ e => show 1 ≤ 2 * szB e + 2; omega
        cases e with
        | zero => exact absurd (hw0 rfl) (by omega)
        | succ e' =>
        have hdr2 : dr (e' + 1) = 2 * dr e' + 25 := rfl
        have hsz2 : szB (e' + 1) = 2 * szB e' + 2 := rfl
        have hdr3 := dr_ge e'
        walk_at "go3"
        refine ⟨st, us, xs, n + 1, e', by rw [show ((e' + 1 : Nat) : Int) - 1 = (e' : Int) by omega], by omega, u1, hne, s1, by omega, fun H2 v1 a1 ok1 dp1 sz1 b2 s2 f1 => ?_⟩
        have u2 := u1.but hne b2
        walk_at "go3"
        refine iteD (fun h2 => ?_) (fun h2 => ?_)
        · walk_at "go3"
          refine ⟨by show 3 ≤ sizeLine; decide, fun p hp => ?_⟩
          walk_at "go3"
          refine' g_pick ?hz hp s2 ?hn ?h0 ?h1 ?_
          case hz => rfl
          case hn => omega
          case h0 => decide
          case h1 => decide
          intro H3 v hv b3 s3
          obtain ⟨k, rfl, hk⟩ : ∃ k, v = .str k ∧ unK k = true := by
            simp only [List.mem_cons, List.not_mem_nil, or_false] at hv
            rcases hv with rfl | rfl | rfl <;> exact ⟨_, rfl, by decide +kernel⟩
          walk_at "go3"
          refine ⟨by show 2 ≤ sizeLine; decide, fun p2 hp2 => ?_⟩
          refine q _ _ (.un k a1) (by simp only [Fm.ok, hk, ok1, Bool.and_self]) (by show a1.dep + 1 ≤ _; omega) (by show a1.size + 1 ≤ _; omega) ((b1.trans (b2.trans b3)).trans (But.of (Same.upd hp2))) ((s3.same (Same.upd hp2)).mono (by omega)) (.un upd_same (f1.tps ((s2.tps b3).trans (Tps.new hp2))))
        walk_at "go3"
        refine ⟨st, us, xs, _, e', by rw [show ((e' + 1 : Nat) : Int) - 1 = (e' : Int) by omega], by omega, u2, hne, s2, by omega, fun H3 v2 a2 ok2 dp2 sz2 b3 s3 f2 => ?_⟩
        have f1' := f1.tps (s2.tps b3)
        walk_at "go3"
        refine iteD (fun h3 => ?_) (fun h3 => ?_)
        · walk_at "go3"
          refine ⟨by show 2 ≤ sizeLine; decide, fun p hp => ?_⟩
          walk_at "go3"
          refine' g_pick ?hz hp s3 ?hn ?h0 ?h1 ?_
          case hz => rfl
          case hn => omega
          case h0 => decide
          case h1 => decide
          intro H4 v hv b4 s4
          obtain ⟨k, rfl, hk⟩ : ∃ k, v = .str k ∧ (k == kOpen || k == kOwn) = true := by
            simp only [List.mem_cons, List.not_mem_nil, or_false] at hv
            rcases hv with rfl | rfl <;> exact ⟨_, rfl, by decide +kernel⟩
          have hku : unK k = true := by
            simp only [unK, Bool.or_eq_true] at hk ⊢
            rcases hk with hk | hk
            · exact .inl (.inr hk)
            · exact .inr hk
          walk_at "go3"
          refine ⟨by show 2 ≤ sizeLine; decide, fun p2 hp2 => ?_⟩
          walk_at "go3"
          refine ⟨by show 3 ≤ sizeLine; decide, fun p3 hp3 => ?_⟩
          have t4 := ((s3.tps b4).trans (Tps.new (o := .tup [.str k, v2]) hp2)).trans (Tps.new (o := .tup [.str kLock, v1, .ref p2]) hp3)
          have e2 : upd (upd H4 p2 (.tup [.str k, v2])) p3 (.tup [.str kLock, v1, .ref p2]) p2 = some (.tup [.str k, v2]) := Tps.new hp3 _ _ upd_same
          refine q _ _ (.bi kLock a1 (.un k a2)) ?_ (by show max a1.dep (a2.dep + 1) + 1 ≤ _; omega) (by show a1.size + (a2.size + 1) + 1 ≤ _; omega) ((b1.trans (b2.trans (b3.trans b4))).trans ((But.of (Same.upd hp2)).trans (But.of (Same.upd hp3)))) (((s4.same (Same.upd hp2)).same (Same.upd hp3)).mono (by omega)) (.bi upd_same (f1'.tps t4) (.un e2 (f2.tps t4)))
          simp only [Fm.ok, Fm.isKey, hk, hku, ok1, ok2, Bool.or_true, Bool.and_self, Bool.and_true]
          decide +kernel
        · walk_at "go3"
          refine ⟨by show 2 ≤ sizeLine; decide, fun p hp => ?_⟩
          walk_at "go3"
          have hm : (w : Int) % 2 = 0 ∨ (w : Int) % 2 = 1 := by omega
          obtain ⟨k, hk, hat⟩ : ∃ k, (k = kPair ∨ k = kSeal) ∧ atI [V.str kPair, V.str kSeal] ((w : Int) % 2) = some (.str k) := by
            rcases hm with hm | hm
            · exact ⟨kPair, .inl rfl, by rw [hm]; rfl⟩
            · exact ⟨kSeal, .inr rfl, by rw [hm]; rfl⟩
          refine g_ixL (SqL.of upd_same) hat ?_
          walk_at "go3"
          refine ⟨by show 3 ≤ sizeLine; decide, fun p3 hp3 => ?_⟩
          have t4 := (Tps.new (o := .lst [.str kPair, .str kSeal]) hp).trans (Tps.new (o := .tup [.str k, v1, v2]) hp3)
          refine q _ _ (.bi k a1 a2) ?_ (by show max a1.dep a2.dep + 1 ≤ _; omega) (by show a1.size + a2.size + 1 ≤ _; omega) ((b1.trans (b2.trans b3)).trans ((But.of (Same.upd hp)).trans (But.of (Same.upd hp3)))) (((s3.same (Same.upd hp)).same (Same.upd hp3)).mono (by omega)) (.bi upd_same (f1'.tps t4) (f2.tps t4))
          rcases hk with rfl | rfl
          · show (biK kPair && ((!(kPair == kLock) || a2.isKey) && (a1.ok && a2.ok))) = true
            rw [ok1, ok2, show biK kPair = true by decide +kernel, show (kPair == kLock) = false by decide +kernel]
            rfl
          · show (biK kSeal && ((!(kSeal == kLock) || a2.isKey) && (a1.ok && a2.ok))) = true
            rw [ok1, ok2, show biK kSeal = true by decide +kernel, show (kSeal == kLock) = false by decide +kernel]
            rfl
/-! ### letters of forms -/
theorem LetAt.mut {H : Hp} {D : Addr} {o : HO} {xs : List V} {v : V} {a : Fm} (h : LetAt CL H v a) (hD : H D = some (.lst xs)) : LetAt CL (upd H D o) v a := by
  obtain ⟨x, dx, u, rfl, e, f⟩ := h
  exact ⟨x, dx, u, rfl, by rw [upd_ne (ne_of e hD (by intro z; cases z))]; exact e, f.tps (Tps.lst hD)⟩
theorem kind_txt {k : Str} {t : List Nat} (h : (Fm.atm k t).ok = true) : kindOf (atTxt k t) = some (k, t) := by
  simp only [Fm.ok, Bool.or_eq_true, Bool.and_eq_true, beq_iff_eq] at h
  rcases h with ⟨rfl, h⟩ | ⟨rfl, h⟩ | ⟨rfl, h⟩
  · have e : atTxt kWord t = t := by unfold atTxt; rw [if_neg (by decide +kernel)]
    rw [e]
    unfold kindOf
    rw [if_pos h]
  · have hw : ¬ isWordB t = true := fun z => by
      obtain ⟨c, r, e, hc⟩ := name_head h
      simp only [isWordB, Bool.and_eq_true] at z
      have := allIn_mem z.2.2 c (by rw [e]; exact List.mem_cons_self ..)
      exact absurd this ((by decide +kernel : ∀ c ∈ capL, c ∉ smallL) c hc)
    have e : atTxt kName t = t := by unfold atTxt; rw [if_neg (by decide +kernel)]
    rw [e]
    unfold kindOf
    rw [if_neg hw, if_pos h]
  · have hw : ¬ isWordB (63 :: t) = true := fun z => by
      simp only [isWordB, Bool.and_eq_true] at z
      exact absurd (allIn_mem z.2.2 63 (List.mem_cons_self ..)) (by decide +kernel)
    have hn : ¬ isNameB (63 :: t) = true := fun z => by
      obtain ⟨c, r, e, hc⟩ := name_head z
      rw [← (List.cons.inj e).1] at hc
      exact absurd hc (by decide +kernel)
    have e : atTxt kUnk t = 63 :: t := by unfold atTxt; rw [if_pos rfl]
    rw [e]
    unfold kindOf
    rw [if_neg hw, if_neg hn, if_pos ⟨rfl, h⟩]
    rfl
theorem mk_txt {H : Hp} {Q : VK} {E : XK} {k : Str} {t : List Nat} (ok : (Fm.atm k t).ok = true) (q : ∀ H' v, Same H H' → LetAt CL H' v (.atm k t) → Q v H') :
    ∀ x dx, H x = none → H dx = none → dx ≠ x → spInit2 CL CE [.ref x, .str (S (atTxt k t))] (upd (upd H dx (.own x)) x (.ins CL dx [])) (fun v H2 => v = .non ∧ Q (.ref x) H2) E := by
  intro x dx nx ndx nex
  have s0 : Same H (upd (upd H dx (.own x)) x (.ins CL dx [])) := fun b o e => by
    rw [upd_ne (ne_of_none e nx), upd_ne (ne_of_none e ndx)]
    exact e
  have hsm : t.length ≤ 8 := Fm.ok_small ok
  refine .inl ⟨x, dx, atTxt k t, rfl, upd_same, by have := atTxt_len (k := k) (t := t); omega, fun k' t' H1 H' u hk e1 fu eH => ⟨rfl, ?_⟩, fun hk => ?_⟩
  · rw [kind_txt ok] at hk
    cases hk
    subst eH
    refine q _ _ (Same.mut (s0.trans e1) nx) ⟨x, dx, u, rfl, upd_same, fu.tps fun b ys z => ?_⟩
    rw [upd_ne (ne_of z (e1 _ _ upd_same) (by intro q; cases q))]
    exact z
  · rw [kind_txt ok] at hk
    cases hk
theorem r_lcT {σ : L2.St} {H : Hp} {Q : VK} {te : TE} {j : Nat} {a : Addr} {xs : List V} {vs : List Nat} (J : Addr → Nat → List V → Hp → Prop) (hT : SqT K H a xs) (hl : xs.length < 1000000) (hw : ∀ x, wipe ((wipe σ vs).set j (some x)) vs = wipe σ vs)
    (hst : ∀ D i acc H2, J D i acc H2 → SqT K H2 a xs) (h0 : ∀ D, H D = none → J D 0 [] (upd H D (.lst [])))
    (hs : ∀ (D : Addr) (i : Nat) (x : V) (acc : List V) (H2 : Hp), H D = none → xs[i]? = some x → H2 D = some (.lst acc) → acc.length = i → J D i acc H2 → te ((wipe σ vs).set j (some x)) H2 (lcPost J D i))
    (hd : ∀ D acc H2, H D = none → H2 D = some (.lst acc) → acc.length = xs.length → J D xs.length acc H2 → Q (.ref D) H2) : rLcT K j te vs σ (.ref a) H Q := by
  refine ⟨a, rfl, ⟨xs, hT⟩, fun D hD => ?_⟩
  refine lc_tup (xs := xs) (fun i H2 => ∃ acc, H2 D = some (.lst acc) ∧ acc.length = i ∧ J D i acc H2) ⟨[], upd_same, rfl, h0 D hD⟩ (fun i H2 hi p => ?_) (fun i x H2 hi p => ?_) (fun H2 p => ?_)
  · obtain ⟨acc, h1, h2, h3⟩ := p
    exact hst D i acc H2 h3
  · obtain ⟨acc, h1, h2, h3⟩ := p
    exact ⟨hw _, hs D i x acc H2 hD hi h1 h2 h3⟩
  · obtain ⟨acc, h1, h2, h3⟩ := p
    exact hd D acc H2 hD h1 h2 h3
theorem g_slT {H : Hp} {Q : VK} {a : Addr} {xs : List V} {lo hi : Option Int} (h : SqT K H a xs) (hn : ¬ (HT.sIx xs.length 0 lo = 0 ∧ HT.sIx xs.length xs.length hi = xs.length)) (k : ∀ p, H p = none → Q (.ref p) (upd H p (.tup (cutV xs lo hi)))) : rSlT K (.ref a) lo hi H Q := ⟨a, xs, rfl, h, hn, k⟩
/-! ### forms as data -/
def Fm.data : Fm → PyData
  | .atm k t => .tuple [.str k, .str (S t)]
  | .un k a => .tuple [.str k, a.data]
  | .bi k a b => .tuple [.str k, a.data, b.data]
theorem dp_fm {H : Hp} : ∀ {v : V} {a : Fm}, FmAt H v a → Dp K H v a.data := by
  intro v a h
  induction h with
  | atm h => exact .tup (SqT.of h) (.cons (.str _) (.cons (.str _) .nil))
  | un h _ ih => exact .tup (SqT.of h) (.cons (.str _) (.cons ih .nil))
  | bi h _ _ ih1 ih2 => exact .tup (SqT.of h) (.cons (.str _) (.cons ih1 (.cons ih2 .nil)))
theorem asc_ok {cs : List Nat} (h : ∀ c ∈ cs, c < 128) : PyData.strOk (S cs) = true := by
  show (S cs).cps.all (· < 0x110000) = true
  rw [← Array.all_toList]
  exact List.all_eq_true.mpr fun c hc => decide_eq_true (by have := h c hc; omega)
theorem atm_small {k : Str} {t : List Nat} (h : (Fm.atm k t).ok = true) : ∀ c ∈ t, c < 128 := by
  have hs : ∀ c ∈ smallL, c < 128 := by decide +kernel
  have hc : ∀ c ∈ capL, c < 128 := by decide +kernel
  have hd : ∀ c ∈ digL, c < 128 := by decide +kernel
  simp only [Fm.ok, Bool.or_eq_true, Bool.and_eq_true] at h
  rcases h with ⟨_, h⟩ | ⟨_, h⟩ | ⟨_, h⟩
  · simp only [isWordB, Bool.and_eq_true] at h
    exact fun c hc => hs c (allIn_mem h.2.2 c hc)
  · simp only [isNameB, Bool.and_eq_true] at h
    obtain ⟨ds, e, hd2⟩ := noDig_split t
    intro c hm
    rw [e] at hm
    rcases List.mem_append.mp hm with hm | hm
    · exact hc c (allIn_mem h.2.2 c hm)
    · exact hd c (hd2 c hm)
  · simp only [isUnkB, Bool.and_eq_true] at h
    exact fun c hc => hs c (allIn_mem h.2.2 c hc)
theorem Fm.lay : ∀ {a : Fm}, a.ok = true → a.data.canLay0 = true
  | .atm k t, h => by
    have e1 : PyData.strOk k = true := by
      have hk := Fm.ok_kin h
      simp only [Fm.kin, atK, Bool.or_eq_true, beq_iff_eq] at hk
      rcases hk with (rfl | rfl) | rfl <;> decide +kernel
    show (PyData.strOk k && (PyData.strOk (S t) && true)) = true
    rw [e1, asc_ok (atm_small h)]
    rfl
  | .un k a, h => by
    simp only [Fm.ok, Bool.and_eq_true] at h
    have e1 : PyData.strOk k = true := by
      have hk := h.1
      simp only [unK, Bool.or_eq_true, beq_iff_eq] at hk
      rcases hk with (rfl | rfl) | rfl <;> decide +kernel
    show (PyData.strOk k && (a.data.canLay0 && true)) = true
    rw [e1, Fm.lay h.2]
    rfl
  | .bi k a b, h => by
    simp only [Fm.ok, Bool.and_eq_true] at h
    have e1 : PyData.strOk k = true := by
      have hk := h.1
      simp only [biK, Bool.or_eq_true, beq_iff_eq] at hk
      rcases hk with (rfl | rfl) | rfl <;> decide +kernel
    show (PyData.strOk k && (a.data.canLay0 && (b.data.canLay0 && true))) = true
    rw [e1, Fm.lay h.2.2.1, Fm.lay h.2.2.2]
    rfl
theorem Fm.depth_le : ∀ a : Fm, a.data.depth ≤ a.dep + 1
  | .atm k t => Nat.le_refl _
  | .un k a => by
    have := Fm.depth_le a
    show max 0 (max a.data.depth 0) + 1 ≤ a.dep + 1 + 1
    omega
  | .bi k a b => by
    have := Fm.depth_le a
    have := Fm.depth_le b
    show max 0 (max a.data.depth (max b.data.depth 0)) + 1 ≤ max a.dep b.dep + 1 + 1
    omega
theorem Fm.shaped {a : Fm} (h : a.ok = true) (hd : a.dep ≤ 60) : SeqAt.shaped a.data = true := by
  have := Fm.depth_le a
  show (a.data.canLay0 && decide (a.data.depth ≤ 64)) = true
  rw [Fm.lay h, decide_eq_true (by omega)]
  rfl
end
end Op
namespace Op
open PySem PySem.Spec PyProof.Rows L2 SX
theorem un_okk {k : Str} {a : Fm} (h : unK k = true) (o : a.ok = true) : (Fm.un k a).ok = true := by
  simp only [Fm.ok, Bool.and_eq_true]
  exact ⟨h, o⟩
theorem bi_okk {k : Str} {a b : Fm} (h : biK k = true) (n : (k == kLock) = false ∨ b.isKey = true) (o : a.ok = true) (p : b.ok = true) : (Fm.bi k a b).ok = true := by
  simp only [Fm.ok, Bool.and_eq_true, Bool.or_eq_true]
  refine ⟨h, ?_, o, p⟩
  rcases n with n | n
  · exact .inl (by rw [n]; rfl)
  · exact .inr n
end Op
namespace OpC
end OpC

namespace Op
open PySem PySem.Spec PyProof.Rows L2 SX
local macro_rules | `(tactic| walk_at "go1") => `(tactic| first
  | ((with_reducible refine' g_var ?h ?_); (case h => rfl)) | with_reducible refine' g_c ?_ | with_reducible refine' g_op ?_ | with_reducible refine' g_un ?_ | with_reducible refine' g_if ?_ | with_reducible refine' g_test ?_ | with_reducible refine' g_B ?_ | with_reducible refine' g_bl ?_
  | with_reducible refine' g_not ?_ | with_reducible refine' g_and ?_ | with_reducible refine' g_or ?_ | with_reducible refine' g_andV ?_ | with_reducible refine' g_orV ?_ | with_reducible refine' g_notV ?_ | with_reducible refine' g_nil ?_ | with_reducible refine' g_cons ?_ | with_reducible refine' g_CB ?_ | with_reducible refine' g_ca ?_
  | with_reducible refine' g_seq ?_ | with_reducible refine' g_next ?_ | with_reducible refine' g_asg ?_ | with_reducible refine' g_name ?_ | with_reducible refine' g_ret ?_ | with_reducible refine' g_retN ?_ | with_reducible refine' g_drop ?_ | with_reducible refine' g_ifS ?_ | with_reducible refine' g_sub ?_
  | with_reducible refine' g_I0 ?_ | with_reducible refine' g_U ?_ | ((with_reducible refine' g_eq ?h ?_); (case h => rfl)) | ((with_reducible refine' g_ne ?h ?_); (case h => rfl))
  | ((with_reducible refine' g_lenL ?h ?_); (case h => first | assumption | exact SqL.of (by assumption) | exact SqL.of upd_same)) | ((with_reducible refine' g_lenT ?h ?_); (case h => first | assumption | exact SqT.of (by assumption) | exact SqT.of upd_same))
  | ((with_reducible refine' g_ixL ?h ?ha ?_); (case h => first | assumption | exact SqL.of (by assumption) | exact SqL.of upd_same); (case ha => rfl)) | ((with_reducible refine' g_ixT ?h ?ha ?_); (case h => first | assumption | exact SqT.of (by assumption) | exact SqT.of upd_same); (case ha => rfl))
  | ((with_reducible refine' g_I ?h ?_); (case h => first | decide | omega | (first | refine' ⟨?_, ?_, ?_⟩ | refine' ⟨?_, ?_⟩ | refine' Or.inl ⟨?_, ?_⟩) <;> omega | (refine' Or.inr ⟨?_, ?_⟩ <;> omega)))
  | ((with_reducible refine' g_setL ?h ?ha ?_); (case h => first | assumption | exact upd_same); (case ha => rfl))
  | with_reducible refine' g_lcR ?_
  | with_reducible refine' g_M1 ?_ | with_reducible refine' g_isS ?_ | with_reducible refine' g_tyS ?_ | ((with_reducible refine' g_tyL ?h ?_); (case h => first | assumption | exact upd_same))
  | ((with_reducible refine' g_cat ?h ?h2 ?hl ?_); (case h => first | assumption | exact upd_same); (case h2 => first | assumption | exact upd_same); (case hl => first | decide | (simp; omega)))
  | with_reducible refine' g_lcS ?_
  | with_reducible refine' g_starts ?_ | with_reducible refine' g_chain ?_
  | ((with_reducible refine' g_lenS ?h ?_); (case h => first | exact len_le (by assumption) | exact len_le (by omega))) | ((with_reducible refine' g_rstrip ?h ?_); (case h => first | exact len_le (by assumption) | exact len_le (by omega))) | ((with_reducible refine' g_slX ?h ?_); (case h => first | exact len_le (by assumption) | exact len_le (by omega)))
  | with_reducible refine' g_sl ?_ | with_reducible refine' g_nopart ?_ | with_reducible refine' g_part ?_ | with_reducible refine' g_isI ?_
  | with_reducible refine' g_tru ?_
  | with_reducible refine' iteT ?_ | with_reducible refine' iteF ?_ | with_reducible refine' iteNT ?_ | with_reducible refine' iteNF ?_
  | with_reducible refine' g_int ?_ | with_reducible refine' g_insg ?_ | with_reducible refine' g_ninsg ?_ | with_reducible refine' g_isN ?_ | with_reducible refine' g_notN ?_ | with_reducible refine' g_lst ?_ | with_reducible refine' g_tup ?_ | with_reducible refine' g_BM ?_ | with_reducible refine' g_BM0 ?_)
local macro_rules | `(tactic| walk_at "go") => `(tactic| repeat' walk_at "go1")
local macro_rules | `(tactic| walk_at "go2") => `(tactic| repeat' (first | walk_at "go1" | with_reducible refine' g_cm ?_ | with_reducible refine' g_mk ?_ | with_reducible refine' g_for ?_ | ((with_reducible refine' g_rcm ?h ?ha ?_); (case h => first | assumption | exact upd_same); (case ha => first | rfl | decide | simp [List.lookup]))))
/- macro2 -/
local macro_rules | `(tactic| walk_at "go3a") => `(tactic| first
  | walk_at "go1" | with_reducible refine' g_cm ?_ | with_reducible refine' g_mk ?_ | with_reducible refine' g_for ?_ | with_reducible refine' g_fld ?_ | with_reducible refine' g_lcT0 ?_
  | ((with_reducible refine' g_rcm ?h ?ha ?_); (case h => first | assumption | exact upd_same); (case ha => first | rfl | decide | simp [List.lookup]))
  | ((with_reducible refine' g_shape ?hc ?hn ?h ?_); (case hc => assumption); (case hn => assumption); (case h => first | assumption | exact upd_same | (rw [upd_ne (by assumption)]; assumption))))
local macro_rules | `(tactic| walk_at "go3") => `(tactic| repeat' walk_at "go3a")
local macro_rules | `(tactic| walk_at "go4") => `(tactic| repeat' (first
  | walk_at "go3a" | ((with_reducible refine' iteDT ?h ?_); (case h => first | rfl | decide +kernel)) | ((with_reducible refine' iteDF ?h ?_); (case h => decide +kernel))))
section
variable {P : Program} {w : World} {K : PySem.W.Frag} {mg : Str → Option Value} {base : Heap} {CL CE CX : Addr}
def spLet (CL : Addr) (d : Nat) : Sp := fun vs H Q _ => ∃ (v : V) (a : Fm), vs = [v] ∧ FmAt H v a ∧ a.ok = true ∧ a.dep < d ∧ ∀ H' x, Same H H' → LetAt CL H' x a → Q x H'
theorem ca_letter (T : Bl K mg) (L : Lt K mg CL) (LC : Lc K CL) (D : Df K mg "_law_letter" s_law_letter p_law_letter) (c_Letter : Ck P w K mg base 4 "Letter" CL (spInit2 CL CE))
    (m_add : Cm P w K mg base 6 CL "__add__" (spBi CL kPair)) (m_mul : Cm P w K mg base 6 CL "__mul__" (spBi CL kSeal)) (m_xor : Cm P w K mg base 6 CL "__xor__" (spXor CL CX)) (m_invert : Cm P w K mg base 6 CL "__invert__" (spUn CL kMark))
    (m_pos : Cm P w K mg base 6 CL "__pos__" (spUn CL kOpen)) (m_neg : Cm P w K mg base 6 CL "__neg__" (spUn CL kOwn)) : ∀ d, Ca P w K mg base (7 + d) "_law_letter" (spLet CL d)
  | 0 => by
    refine ca_n D sc_law_letter (fun vs H Q E h => ?_) (fun f cdv A outer s H vs Q E hr h => ?_)
    · obtain ⟨v, a, rfl, _⟩ := h
      rfl
    · obtain ⟨v, a, rfl, _, _, he, _⟩ := h
      exact absurd he (Nat.not_lt_zero _)
  | d + 1 => by
    have c_law_letter := ca_letter T L LC D c_Letter m_add m_mul m_xor m_invert m_pos m_neg d
    refine ca_n (k := 7 + d) D sc_law_letter (fun vs H Q E h => ?_) (fun f cdv A outer s H vs Q E hr h => ?_)
    · obtain ⟨v, a, rfl, _⟩ := h
      rfl
    · obtain ⟨v, a, rfl, fa, ok, hd, q⟩ := h
      have lcl := L.cl
      have lno := L.no
      refine ⟨_, (pss_cons (ps_if (pt_cmpR op_eq (pe_ix ix_tup (pv 0) pe_int (fun _ _ => rfl)) pe_str (nomark _))
  (pss_one (ps_ret (pe_mk (E := fun _ => E0) c_Letter hr (by omega) passE0 (by rfl) (pa_cons (pe_op oq_adds pe_str (pe_ix ix_tup (pv 0) pe_int (fun _ _ => rfl))) pa_nil))))
  pss_nil)
  (pss_cons (ps_if (pt_cmpR op_in_seq (pe_ix ix_tup (pv 0) pe_int (fun _ _ => rfl)) (pe_tup (pa_cons pe_str (pa_cons pe_str pa_nil))) rfl)
  (pss_one (ps_ret (pe_mk (E := fun _ => E0) c_Letter hr (by omega) passE0 (by rfl) (pa_cons (pe_ix ix_tup (pv 0) pe_int (fun _ _ => rfl)) pa_nil))))
  pss_nil)
  (pss_cons (ps_setLc (i := 1) (own := [("_law_part", 2)]) (g := gName 2) (tt := tYes) rfl sc_law_letter.nd rfl rfl (sw_true rfl rfl rfl (by decide +kernel)) (pi_tup (pe_slice sl_tup (pv 0) (po_some pe_int) po_none)) (blkOk_by (own := [("_law_part", 2)]) (N := N_law_letter) (sc := defScope s_law_letter) (by decide +kernel)) (fun _ _ _ _ _ => pg_name (i := 2) sc_law_letter.nd rfl (Or.inl rfl)) (fun _ _ _ _ _ => pts_nil) (fun _ _ _ _ _ => (pe_ca c_law_letter hr (by omega) (by rfl) (pa_cons (pv 2) pa_nil))))
  (pss_cons (ps_if (pt_cmpR op_eq (pe_ix ix_tup (pv 0) pe_int (fun _ _ => rfl)) pe_str (nomark _))
  (pss_one (ps_ret (pe_op (op_own0 m_add rfl LC.first hr (by omega)) (pe_ix ix_list (pv 1) pe_int (fun _ _ => rfl)) (pe_ix ix_list (pv 1) pe_int (fun _ _ => rfl)))))
  pss_nil)
  (pss_cons (ps_if (pt_cmpR op_eq (pe_ix ix_tup (pv 0) pe_int (fun _ _ => rfl)) pe_str (nomark _))
  (pss_one (ps_ret (pe_op (op_own0 m_mul rfl LC.first hr (by omega)) (pe_ix ix_list (pv 1) pe_int (fun _ _ => rfl)) (pe_ix ix_list (pv 1) pe_int (fun _ _ => rfl)))))
  pss_nil)
  (pss_cons (ps_if (pt_cmpR op_eq (pe_ix ix_tup (pv 0) pe_int (fun _ _ => rfl)) pe_str (nomark _))
  (pss_one (ps_ret (pe_op (op_own0 m_xor rfl LC.first hr (by omega)) (pe_ix ix_list (pv 1) pe_int (fun _ _ => rfl)) (pe_ix ix_list (pv 1) pe_int (fun _ _ => rfl)))))
  pss_nil)
  (pss_cons (ps_if (pt_cmpR op_eq (pe_ix ix_tup (pv 0) pe_int (fun _ _ => rfl)) pe_str (nomark _))
  (pss_one (ps_ret (pe_un (un_own m_invert (.inr (.inr ⟨rfl, rfl⟩)) hr (by omega)) (pe_ix ix_list (pv 1) pe_int (fun _ _ => rfl)))))
  pss_nil)
  (pss_one (ps_ret (pe_ifExp (pt_cmpR op_eq (pe_ix ix_tup (pv 0) pe_int (fun _ _ => rfl)) pe_str (nomark _)) (pe_un (un_own m_pos (.inr (.inl ⟨rfl, rfl⟩)) hr (by omega)) (pe_ix ix_list (pv 1) pe_int (fun _ _ => rfl))) (pe_un (un_own m_neg (.inl ⟨rfl, rfl⟩) hr (by omega)) (pe_ix ix_list (pv 1) pe_int (fun _ _ => rfl))))))))))))), ?_⟩
      cases fa with
      | @atm p k t ep =>
        have hk := Fm.ok_kin ok
        walk_at "go3"
        refine iteD (fun h => ?_) (fun h => ?_)
        · have e : k = kUnk := V.str.inj h
          subst e
          have hsm : t.length ≤ 8 := Fm.ok_small ok
          walk_at "go3"
          refine g_catS (by have e1 : (Str.ofString "?").length = 1 := by decide +kernel
                            have e2 := S_len t
                            rw [sizeLine_eq]
                            omega) ?_
          have e2 : Str.ofString "?" ++ S t = S (atTxt kUnk t) := by
            unfold atTxt
            rw [if_pos rfl, show Str.ofString "?" = S [63] by decide +kernel, S_cat]
            rfl
          rw [e2]
          walk_at "go3"
          exact mk_txt ok q
        · have hne : k ≠ kUnk := fun z => h (congrArg V.str z)
          walk_at "go3"
          refine ⟨by show 2 ≤ sizeLine; decide, fun p2 hp2 => ?_⟩
          have ep2 : upd H p2 (.tup [.str kWord, .str kName]) p = some (.tup [.str k, .str (S t)]) := Tps.new hp2 _ _ ep
          walk_at "go3"
          refine g_inT (SqT.of upd_same) rfl rfl ?_
          have hin : inV (.str k) [V.str kWord, V.str kName] = true := by
            simp only [Fm.kin, atK, Bool.or_eq_true, beq_iff_eq] at hk
            rcases hk with (rfl | rfl) | rfl
            · decide +kernel
            · decide +kernel
            · exact absurd rfl hne
          rw [hin]
          walk_at "go3"
          have e2 : S t = S (atTxt k t) := by unfold atTxt; rw [if_neg hne]
          rw [e2]
          exact mk_txt ok fun H' x s => q H' x ((Same.upd hp2).trans s)
      | @un p k v1 b ep fb =>
        have hk : unK k = true ∧ b.ok = true := by
          simp only [Fm.ok, Bool.and_eq_true] at ok
          exact ok
        have hdb : b.dep < d := by have : b.dep + 1 < d + 1 := hd; omega
        walk_at "go3"
        refine iteD (fun h => absurd (unK_at hk.1) (by rw [V.str.inj h]; decide +kernel)) (fun _ => ?_)
        walk_at "go3"
        refine ⟨by show 2 ≤ sizeLine; decide, fun p2 hp2 => ?_⟩
        have ep2 : upd H p2 (.tup [.str kWord, .str kName]) p = some (.tup [.str k, v1]) := Tps.new hp2 _ _ ep
        walk_at "go3"
        refine g_inT (SqT.of upd_same) rfl rfl ?_
        have hin : inV (.str k) [V.str kWord, V.str kName] = false := by
          have h1 := hk.1
          simp only [unK, Bool.or_eq_true, beq_iff_eq] at h1
          rcases h1 with (rfl | rfl) | rfl <;> decide +kernel
        rw [hin]
        have sA : Same H (upd H p2 (.tup [.str kWord, .str kName])) := Same.upd hp2
        have fb1 := fb.same sA
        generalize upd H p2 (.tup [.str kWord, .str kName]) = H1 at sA ep2 fb1 ⊢
        walk_at "go3"
        refine g_slT (SqT.of ep2) (by show ¬ (1 = 0 ∧ _); omega) fun p3 hp3 => ?_
        have sB : Same H1 (upd H1 p3 (.tup [v1])) := Same.upd hp3
        refine r_lcT (xs := [v1]) (fun D i acc H2 => Same (upd H1 p3 (.tup [v1])) H2 ∧ ∀ y, acc[0]? = some y → LetAt CL H2 y b) (SqT.of upd_same) (by show 1 < 1000000; decide) (fun _ => rfl) (fun D i acc H2 J => SqT.of (J.1 _ _ upd_same)) (fun D hD => ⟨Same.upd hD, fun y hy => nomatch hy⟩) (fun D i x acc H2 hD hx hacc hlen J => ?_) (fun D acc H2 hD hacc hlen J => ?_)
        · have hi : i = 0 := by
            have := (List.getElem?_eq_some_iff.mp hx).1
            simp at this
            omega
          subst hi
          have ex : v1 = x := Option.some.inj hx
          subst ex
          walk_at "go3"
          refine ⟨v1, b, rfl, (fb1.same sB).same J.1, hk.2, hdb, fun H3 y s3 ly => ?_⟩
          have h0 : acc = [] := List.length_eq_zero_iff.mp hlen
          subst h0
          refine lcPost.of (s3 _ _ hacc) rfl (by decide) ⟨Same.mut (J.1.trans s3) hD, fun z hz => ?_⟩
          have ez : y = z := Option.some.inj hz
          subst ez
          exact ly.mut (s3 _ _ hacc)
        · obtain ⟨sC, hJ⟩ := J
          obtain ⟨y1, rfl⟩ : ∃ y1, acc = [y1] := by
            match acc, hlen with
            | [y1], _ => exact ⟨y1, rfl⟩
          have l1 := hJ y1 rfl
          have ep3 := sC _ _ (sB _ _ ep2)
          have sE := sA.trans (sB.trans sC)
          obtain ⟨x1, dx1, u1, rfl, hx1, fx1⟩ := id l1
          have h1 := hk.1
          simp only [unK, Bool.or_eq_true, beq_iff_eq] at h1
          rcases h1 with (rfl | rfl) | rfl
          all_goals
            walk_at "go4"
            exact ⟨⟨_, _, _, rfl, hx1⟩, _, b, rfl, l1, fun H' x s l => q H' x (sE.trans s) l⟩
      | @bi p k v1 v2 b1 b2 ep fb fc =>
        have hk : biK k = true ∧ (!(k == kLock) || b2.isKey) = true ∧ b1.ok = true ∧ b2.ok = true := by
          have z := ok
          simp only [Fm.ok] at z
          exact ⟨(Bool.and_eq_true_iff.mp z).1, (Bool.and_eq_true_iff.mp (Bool.and_eq_true_iff.mp z).2).1, (Bool.and_eq_true_iff.mp (Bool.and_eq_true_iff.mp (Bool.and_eq_true_iff.mp z).2).2).1, (Bool.and_eq_true_iff.mp (Bool.and_eq_true_iff.mp (Bool.and_eq_true_iff.mp z).2).2).2⟩
        have hdb : b1.dep < d ∧ b2.dep < d := by have : max b1.dep b2.dep + 1 < d + 1 := hd; omega
        walk_at "go3"
        refine iteD (fun h => absurd (biK_at hk.1) (by rw [V.str.inj h]; decide +kernel)) (fun _ => ?_)
        walk_at "go3"
        refine ⟨by show 2 ≤ sizeLine; decide, fun p2 hp2 => ?_⟩
        have ep2 : upd H p2 (.tup [.str kWord, .str kName]) p = some (.tup [.str k, v1, v2]) := Tps.new hp2 _ _ ep
        walk_at "go3"
        refine g_inT (SqT.of upd_same) rfl rfl ?_
        have hin : inV (.str k) [V.str kWord, V.str kName] = false := by
          have h1 := hk.1
          simp only [biK, Bool.or_eq_true, beq_iff_eq] at h1
          rcases h1 with (rfl | rfl) | rfl <;> decide +kernel
        rw [hin]
        have sA : Same H (upd H p2 (.tup [.str kWord, .str kName])) := Same.upd hp2
        have fb1 := fb.same sA
        have fc1 := fc.same sA
        generalize upd H p2 (.tup [.str kWord, .str kName]) = H1 at sA ep2 fb1 fc1 ⊢
        walk_at "go3"
        refine g_slT (SqT.of ep2) (by show ¬ (1 = 0 ∧ _); omega) fun p3 hp3 => ?_
        have sB : Same H1 (upd H1 p3 (.tup [v1, v2])) := Same.upd hp3
        refine r_lcT (xs := [v1, v2]) (fun D i acc H2 => Same (upd H1 p3 (.tup [v1, v2])) H2 ∧ (∀ y, acc[0]? = some y → LetAt CL H2 y b1) ∧ (∀ y, acc[1]? = some y → LetAt CL H2 y b2)) (SqT.of upd_same) (by show 2 < 1000000; decide) (fun _ => rfl) (fun D i acc H2 J => SqT.of (J.1 _ _ upd_same)) (fun D hD => ⟨Same.upd hD, (fun y hy => nomatch hy), (fun y hy => nomatch hy)⟩) (fun D i x acc H2 hD hx hacc hlen J => ?_) (fun D acc H2 hD hacc hlen J => ?_)
        · have hi : i = 0 ∨ i = 1 := by
            have := (List.getElem?_eq_some_iff.mp hx).1
            simp at this
            omega
          rcases hi with rfl | rfl
          · have ex : v1 = x := Option.some.inj hx
            subst ex
            walk_at "go3"
            refine ⟨v1, b1, rfl, (fb1.same sB).same J.1, hk.2.2.1, hdb.1, fun H3 y s3 ly => ?_⟩
            have h0 : acc = [] := List.length_eq_zero_iff.mp hlen
            subst h0
            refine lcPost.of (s3 _ _ hacc) rfl (by decide) ⟨Same.mut (J.1.trans s3) hD, fun z hz => ?_, fun z hz => nomatch hz⟩
            have ez : y = z := Option.some.inj hz
            subst ez
            exact ly.mut (s3 _ _ hacc)
          · have ex : v2 = x := Option.some.inj hx
            subst ex
            walk_at "go3"
            refine ⟨v2, b2, rfl, (fc1.same sB).same J.1, hk.2.2.2, hdb.2, fun H3 y s3 ly => ?_⟩
            obtain ⟨y1, rfl⟩ : ∃ y1, acc = [y1] := by
              match acc, hlen with
              | [y1], _ => exact ⟨y1, rfl⟩
            refine lcPost.of (s3 _ _ hacc) rfl (by decide) ⟨Same.mut (J.1.trans s3) hD, fun z hz => ?_, fun z hz => ?_⟩
            · have ez : y1 = z := Option.some.inj hz
              subst ez
              exact ((J.2.1 y1 rfl).same s3).mut (s3 _ _ hacc)
            · have ez : y = z := Option.some.inj hz
              subst ez
              exact ly.mut (s3 _ _ hacc)
        · obtain ⟨sC, hJ1, hJ2⟩ := J
          obtain ⟨y1, y2, rfl⟩ : ∃ y1 y2, acc = [y1, y2] := by
            match acc, hlen with
            | [y1, y2], _ => exact ⟨y1, y2, rfl⟩
          have l1 := hJ1 y1 rfl
          have l2 := hJ2 y2 rfl
          have ep3 := sC _ _ (sB _ _ ep2)
          have sE := sA.trans (sB.trans sC)
          obtain ⟨x1, dx1, u1, rfl, hx1, fx1⟩ := id l1
          obtain ⟨x2, dx2, u2, rfl, hx2, fx2⟩ := id l2
          have h1 := hk.1
          simp only [biK, Bool.or_eq_true, beq_iff_eq] at h1
          rcases h1 with (rfl | rfl) | rfl
          · walk_at "go4"
            exact ⟨⟨_, _, _, rfl, hx1⟩, ⟨_, _, _, rfl, hx2⟩, _, _, b1, b2, rfl, l1, l2, fun H' x s l => q H' x (sE.trans s) l⟩
          · walk_at "go4"
            exact ⟨⟨_, _, _, rfl, hx1⟩, ⟨_, _, _, rfl, hx2⟩, _, _, b1, b2, rfl, l1, l2, fun H' x s l => q H' x (sE.trans s) l⟩
          · walk_at "go4"
            have hkey : b2.isKey = true := hk.2.1
            exact ⟨⟨_, _, _, rfl, hx1⟩, ⟨_, _, _, rfl, hx2⟩, _, _, b1, b2, rfl, l1, l2, Fm.ok_kin hk.2.2.2, fun _ H' x s l => q H' x (sE.trans s) l, fun z => by rw [hkey] at z; cases z⟩
end
end Op

namespace OpC
open PySem PySem.SeqAt PySem.MeetsSeq3 PySem.MeetsSeq2 PySem.MeetsSeq
/-! ## the order of tuples, place by place, only as far as the first unequal one -/
def szC : CmpOp → Nat → Nat → Bool
  | .Lt, m, n => decide (m < n)
  | .LtE, m, n => decide (m ≤ n)
  | .Gt, m, n => decide (m > n)
  | .GtE, m, n => decide (m ≥ n)
  | _, _, _ => false
def stC : CmpOp → Str → Str → Bool
  | .Lt, x, y => decide (x.cps.toList < y.cps.toList)
  | .LtE, x, y => !decide (y.cps.toList < x.cps.toList)
  | .Gt, x, y => decide (y.cps.toList < x.cps.toList)
  | .GtE, x, y => !decide (x.cps.toList < y.cps.toList)
  | _, _, _ => false
def op4 (op : CmpOp) : Prop := op = .Lt ∨ op = .LtE ∨ op = .Gt ∨ op = .GtE
/-- the first unequal place is c (or there is none up to the shorter one's end); the comparison gives k -/
def Lazy (op : CmpOp) (A : Around) (s : Shared) (us vs : Array Value) (z k : Bool) : Prop :=
  ∃ c, c ≤ min us.size vs.size ∧ (∀ j (p1 : j < us.size) (p2 : j < vs.size), j < c → EqAt A.in1 s us[j] vs[j] true) ∧
    ((c = min us.size vs.size ∧ k = z) ∨ ∃ (p1 : c < us.size) (p2 : c < vs.size), EqAt A.in1 s us[c] vs[c] false ∧ Ob.RcOp op A.in1 s us[c] vs[c] k)
theorem lazy_lt (l m : Addr) (us vs : Array Value) (n1 n2 : Nat) (d1 d2 : Option Addr) (t1 t2 : Array (Option Value)) (k : Bool) :
    Meets (Builtin.«tuple.__lt__» ⟨[.ref l, .ref m], []⟩)
      (fun A R s => s.heap.get? l = some ⟨.type "tuple", d1, .seq us n1, t1⟩ ∧ s.heap.get? m = some ⟨.type "tuple", d2, .seq vs n2, t2⟩ ∧ Lazy .Lt A s us vs (szC .Lt us.size vs.size) k ∧ R (.ok (.ret (.bool k))) s) :=
  .of_wp fun prog w A R s h => by
    obtain ⟨hp, g, dd, tk, os⟩ := s
    obtain ⟨h1, h2, ⟨c, hc, he, hk⟩, hR⟩ := h
    have sub2 := PySem.AutoSeq1.sub_tuple_tuple
    have hlen : (us.toList.zip vs.toList).length = min us.size vs.size := by rw [List.length_zip, Array.length_toList, Array.length_toList]
    wp_walk using PySem.AutoSeq1.wpAny_loadPart' h1, PySem.AutoSeq1.wpAny_loadPart' h2, wpAny_forIn_list _ (fun rest b s' => b.1 = none ∧ s' = ⟨hp, g, dd, tk, os⟩ ∧ ∃ i, i ≤ c ∧ rest = (us.toList.zip vs.toList).drop i) _
    case turn =>
      rintro ⟨y, x⟩ rest b s' ⟨hb', rfl, i, hi, hz⟩
      have q : i < (us.toList.zip vs.toList).length := by
        refine Nat.lt_of_not_le fun z => ?_
        rw [List.drop_of_length_le z] at hz
        cases hz
      have p1 : i < us.size := by omega
      have p2 : i < vs.size := by omega
      rw [List.drop_eq_getElem_cons q] at hz
      injection hz with e1 e2
      obtain rfl : y = us[i] := by simpa using congrArg Prod.fst e1
      obtain rfl : x = vs[i] := by simpa using congrArg Prod.snd e1
      rcases Nat.lt_or_ge i c with hic | hic
      · refine wpAny_bind (he i p1 p2 hic prog w _ _ ?_)
        wp_walk
        exact ⟨rfl, rfl, i + 1, hic, e2⟩
      · obtain rfl : i = c := by omega
        rcases hk with ⟨z, _⟩ | ⟨_, _, ze, zr⟩
        · omega
        · refine wpAny_bind (ze prog w _ _ ?_)
          have zz := zr prog w
          wp_walk using zz
          refine ⟨_, rfl, ?_⟩
          simpa using hR
    case fin =>
      rintro ⟨b1, b2⟩ s' ⟨hb', rfl, i, hi, hz⟩
      obtain rfl : b1 = none := hb'
      have hge : min us.size vs.size ≤ i := by
        refine Nat.le_of_not_lt fun z => ?_
        rw [List.drop_eq_getElem_cons (by omega)] at hz
        cases hz
      rcases hk with ⟨_, zk⟩ | ⟨z1, z2, _⟩
      · wp_walk
        refine ⟨_, rfl, ?_⟩
        rw [zk] at hR
        simpa [Builtin.Tuple.tupleCompareSizes, szC] using hR
      · omega
    case h => exact ⟨rfl, rfl, 0, Nat.zero_le _, rfl⟩
theorem tup_lt {A : Around} {s : Shared} {l m : Addr} {us vs : Array Value} {k : Bool} (hl : s.heap.IsTuple l us) (hm : s.heap.IsTuple m vs) (hu : A.units < cLine) (h : Lazy .Lt A s us vs (szC .Lt us.size vs.size) k) : Ob.RcOp .Lt A s (.ref l) (.ref m) k := fun prog w E Q hq => by
  obtain ⟨⟨c1, d1, x1, t1⟩, o1, q1, n1, r1⟩ := id hl
  obtain ⟨⟨c2, d2, x2, t2⟩, o2, q2, n2, r2⟩ := id hm
  obtain rfl : c1 = _ := q1
  obtain rfl : c2 = _ := q2
  obtain rfl : x1 = _ := r1
  obtain rfl : x2 = _ := r2
  exact richCompare_meets_room (op := .Lt) ⟨_, o1, rfl⟩ ⟨_, o2, rfl⟩ F.slot_tuple_lt F.entry_tuple_lt (F.args_tuple_lt_2 _ _) (lazy_lt l m us vs n1 n2 d1 d2 t1 t2 k) ⟨o1, o2, h, (fun z => nomatch z), hq⟩ hu
theorem lazy_le (l m : Addr) (us vs : Array Value) (n1 n2 : Nat) (d1 d2 : Option Addr) (t1 t2 : Array (Option Value)) (k : Bool) :
    Meets (Builtin.«tuple.__le__» ⟨[.ref l, .ref m], []⟩)
      (fun A R s => s.heap.get? l = some ⟨.type "tuple", d1, .seq us n1, t1⟩ ∧ s.heap.get? m = some ⟨.type "tuple", d2, .seq vs n2, t2⟩ ∧ Lazy .LtE A s us vs (szC .LtE us.size vs.size) k ∧ R (.ok (.ret (.bool k))) s) :=
  .of_wp fun prog w A R s h => by
    obtain ⟨hp, g, dd, tk, os⟩ := s
    obtain ⟨h1, h2, ⟨c, hc, he, hk⟩, hR⟩ := h
    have sub2 := PySem.AutoSeq1.sub_tuple_tuple
    have hlen : (us.toList.zip vs.toList).length = min us.size vs.size := by rw [List.length_zip, Array.length_toList, Array.length_toList]
    wp_walk using PySem.AutoSeq1.wpAny_loadPart' h1, PySem.AutoSeq1.wpAny_loadPart' h2, wpAny_forIn_list _ (fun rest b s' => b.1 = none ∧ s' = ⟨hp, g, dd, tk, os⟩ ∧ ∃ i, i ≤ c ∧ rest = (us.toList.zip vs.toList).drop i) _
    case turn =>
      rintro ⟨y, x⟩ rest b s' ⟨hb', rfl, i, hi, hz⟩
      have q : i < (us.toList.zip vs.toList).length := by
        refine Nat.lt_of_not_le fun z => ?_
        rw [List.drop_of_length_le z] at hz
        cases hz
      have p1 : i < us.size := by omega
      have p2 : i < vs.size := by omega
      rw [List.drop_eq_getElem_cons q] at hz
      injection hz with e1 e2
      obtain rfl : y = us[i] := by simpa using congrArg Prod.fst e1
      obtain rfl : x = vs[i] := by simpa using congrArg Prod.snd e1
      rcases Nat.lt_or_ge i c with hic | hic
      · refine wpAny_bind (he i p1 p2 hic prog w _ _ ?_)
        wp_walk
        exact ⟨rfl, rfl, i + 1, hic, e2⟩
      · obtain rfl : i = c := by omega
        rcases hk with ⟨z, _⟩ | ⟨_, _, ze, zr⟩
        · omega
        · refine wpAny_bind (ze prog w _ _ ?_)
          have zz := zr prog w
          wp_walk using zz
          refine ⟨_, rfl, ?_⟩
          simpa using hR
    case fin =>
      rintro ⟨b1, b2⟩ s' ⟨hb', rfl, i, hi, hz⟩
      obtain rfl : b1 = none := hb'
      have hge : min us.size vs.size ≤ i := by
        refine Nat.le_of_not_lt fun z => ?_
        rw [List.drop_eq_getElem_cons (by omega)] at hz
        cases hz
      rcases hk with ⟨_, zk⟩ | ⟨z1, z2, _⟩
      · wp_walk
        refine ⟨_, rfl, ?_⟩
        rw [zk] at hR
        simpa [Builtin.Tuple.tupleCompareSizes, szC] using hR
      · omega
    case h => exact ⟨rfl, rfl, 0, Nat.zero_le _, rfl⟩
theorem tup_le {A : Around} {s : Shared} {l m : Addr} {us vs : Array Value} {k : Bool} (hl : s.heap.IsTuple l us) (hm : s.heap.IsTuple m vs) (hu : A.units < cLine) (h : Lazy .LtE A s us vs (szC .LtE us.size vs.size) k) : Ob.RcOp .LtE A s (.ref l) (.ref m) k := fun prog w E Q hq => by
  obtain ⟨⟨c1, d1, x1, t1⟩, o1, q1, n1, r1⟩ := id hl
  obtain ⟨⟨c2, d2, x2, t2⟩, o2, q2, n2, r2⟩ := id hm
  obtain rfl : c1 = _ := q1
  obtain rfl : c2 = _ := q2
  obtain rfl : x1 = _ := r1
  obtain rfl : x2 = _ := r2
  exact richCompare_meets_room (op := .LtE) ⟨_, o1, rfl⟩ ⟨_, o2, rfl⟩ F.slot_tuple_le F.entry_tuple_le (F.args_tuple_le_2 _ _) (lazy_le l m us vs n1 n2 d1 d2 t1 t2 k) ⟨o1, o2, h, (fun z => nomatch z), hq⟩ hu
theorem lazy_gt (l m : Addr) (us vs : Array Value) (n1 n2 : Nat) (d1 d2 : Option Addr) (t1 t2 : Array (Option Value)) (k : Bool) :
    Meets (Builtin.«tuple.__gt__» ⟨[.ref l, .ref m], []⟩)
      (fun A R s => s.heap.get? l = some ⟨.type "tuple", d1, .seq us n1, t1⟩ ∧ s.heap.get? m = some ⟨.type "tuple", d2, .seq vs n2, t2⟩ ∧ Lazy .Gt A s us vs (szC .Gt us.size vs.size) k ∧ R (.ok (.ret (.bool k))) s) :=
  .of_wp fun prog w A R s h => by
    obtain ⟨hp, g, dd, tk, os⟩ := s
    obtain ⟨h1, h2, ⟨c, hc, he, hk⟩, hR⟩ := h
    have sub2 := PySem.AutoSeq1.sub_tuple_tuple
    have hlen : (us.toList.zip vs.toList).length = min us.size vs.size := by rw [List.length_zip, Array.length_toList, Array.length_toList]
    wp_walk using PySem.AutoSeq1.wpAny_loadPart' h1, PySem.AutoSeq1.wpAny_loadPart' h2, wpAny_forIn_list _ (fun rest b s' => b.1 = none ∧ s' = ⟨hp, g, dd, tk, os⟩ ∧ ∃ i, i ≤ c ∧ rest = (us.toList.zip vs.toList).drop i) _
    case turn =>
      rintro ⟨y, x⟩ rest b s' ⟨hb', rfl, i, hi, hz⟩
      have q : i < (us.toList.zip vs.toList).length := by
        refine Nat.lt_of_not_le fun z => ?_
        rw [List.drop_of_length_le z] at hz
        cases hz
      have p1 : i < us.size := by omega
      have p2 : i < vs.size := by omega
      rw [List.drop_eq_getElem_cons q] at hz
      injection hz with e1 e2
      obtain rfl : y = us[i] := by simpa using congrArg Prod.fst e1
      obtain rfl : x = vs[i] := by simpa using congrArg Prod.snd e1
      rcases Nat.lt_or_ge i c with hic | hic
      · refine wpAny_bind (he i p1 p2 hic prog w _ _ ?_)
        wp_walk
        exact ⟨rfl, rfl, i + 1, hic, e2⟩
      · obtain rfl : i = c := by omega
        rcases hk with ⟨z, _⟩ | ⟨_, _, ze, zr⟩
        · omega
        · refine wpAny_bind (ze prog w _ _ ?_)
          have zz := zr prog w
          wp_walk using zz
          refine ⟨_, rfl, ?_⟩
          simpa using hR
    case fin =>
      rintro ⟨b1, b2⟩ s' ⟨hb', rfl, i, hi, hz⟩
      obtain rfl : b1 = none := hb'
      have hge : min us.size vs.size ≤ i := by
        refine Nat.le_of_not_lt fun z => ?_
        rw [List.drop_eq_getElem_cons (by omega)] at hz
        cases hz
      rcases hk with ⟨_, zk⟩ | ⟨z1, z2, _⟩
      · wp_walk
        refine ⟨_, rfl, ?_⟩
        rw [zk] at hR
        simpa [Builtin.Tuple.tupleCompareSizes, szC] using hR
      · omega
    case h => exact ⟨rfl, rfl, 0, Nat.zero_le _, rfl⟩
theorem tup_gt {A : Around} {s : Shared} {l m : Addr} {us vs : Array Value} {k : Bool} (hl : s.heap.IsTuple l us) (hm : s.heap.IsTuple m vs) (hu : A.units < cLine) (h : Lazy .Gt A s us vs (szC .Gt us.size vs.size) k) : Ob.RcOp .Gt A s (.ref l) (.ref m) k := fun prog w E Q hq => by
  obtain ⟨⟨c1, d1, x1, t1⟩, o1, q1, n1, r1⟩ := id hl
  obtain ⟨⟨c2, d2, x2, t2⟩, o2, q2, n2, r2⟩ := id hm
  obtain rfl : c1 = _ := q1
  obtain rfl : c2 = _ := q2
  obtain rfl : x1 = _ := r1
  obtain rfl : x2 = _ := r2
  exact richCompare_meets_room (op := .Gt) ⟨_, o1, rfl⟩ ⟨_, o2, rfl⟩ F.slot_tuple_gt F.entry_tuple_gt (F.args_tuple_gt_2 _ _) (lazy_gt l m us vs n1 n2 d1 d2 t1 t2 k) ⟨o1, o2, h, (fun z => nomatch z), hq⟩ hu
theorem lazy_ge (l m : Addr) (us vs : Array Value) (n1 n2 : Nat) (d1 d2 : Option Addr) (t1 t2 : Array (Option Value)) (k : Bool) :
    Meets (Builtin.«tuple.__ge__» ⟨[.ref l, .ref m], []⟩)
      (fun A R s => s.heap.get? l = some ⟨.type "tuple", d1, .seq us n1, t1⟩ ∧ s.heap.get? m = some ⟨.type "tuple", d2, .seq vs n2, t2⟩ ∧ Lazy .GtE A s us vs (szC .GtE us.size vs.size) k ∧ R (.ok (.ret (.bool k))) s) :=
  .of_wp fun prog w A R s h => by
    obtain ⟨hp, g, dd, tk, os⟩ := s
    obtain ⟨h1, h2, ⟨c, hc, he, hk⟩, hR⟩ := h
    have sub2 := PySem.AutoSeq1.sub_tuple_tuple
    have hlen : (us.toList.zip vs.toList).length = min us.size vs.size := by rw [List.length_zip, Array.length_toList, Array.length_toList]
    wp_walk using PySem.AutoSeq1.wpAny_loadPart' h1, PySem.AutoSeq1.wpAny_loadPart' h2, wpAny_forIn_list _ (fun rest b s' => b.1 = none ∧ s' = ⟨hp, g, dd, tk, os⟩ ∧ ∃ i, i ≤ c ∧ rest = (us.toList.zip vs.toList).drop i) _
    case turn =>
      rintro ⟨y, x⟩ rest b s' ⟨hb', rfl, i, hi, hz⟩
      have q : i < (us.toList.zip vs.toList).length := by
        refine Nat.lt_of_not_le fun z => ?_
        rw [List.drop_of_length_le z] at hz
        cases hz
      have p1 : i < us.size := by omega
      have p2 : i < vs.size := by omega
      rw [List.drop_eq_getElem_cons q] at hz
      injection hz with e1 e2
      obtain rfl : y = us[i] := by simpa using congrArg Prod.fst e1
      obtain rfl : x = vs[i] := by simpa using congrArg Prod.snd e1
      rcases Nat.lt_or_ge i c with hic | hic
      · refine wpAny_bind (he i p1 p2 hic prog w _ _ ?_)
        wp_walk
        exact ⟨rfl, rfl, i + 1, hic, e2⟩
      · obtain rfl : i = c := by omega
        rcases hk with ⟨z, _⟩ | ⟨_, _, ze, zr⟩
        · omega
        · refine wpAny_bind (ze prog w _ _ ?_)
          have zz := zr prog w
          wp_walk using zz
          refine ⟨_, rfl, ?_⟩
          simpa using hR
    case fin =>
      rintro ⟨b1, b2⟩ s' ⟨hb', rfl, i, hi, hz⟩
      obtain rfl : b1 = none := hb'
      have hge : min us.size vs.size ≤ i := by
        refine Nat.le_of_not_lt fun z => ?_
        rw [List.drop_eq_getElem_cons (by omega)] at hz
        cases hz
      rcases hk with ⟨_, zk⟩ | ⟨z1, z2, _⟩
      · wp_walk
        refine ⟨_, rfl, ?_⟩
        rw [zk] at hR
        simpa [Builtin.Tuple.tupleCompareSizes, szC] using hR
      · omega
    case h => exact ⟨rfl, rfl, 0, Nat.zero_le _, rfl⟩
theorem tup_ge {A : Around} {s : Shared} {l m : Addr} {us vs : Array Value} {k : Bool} (hl : s.heap.IsTuple l us) (hm : s.heap.IsTuple m vs) (hu : A.units < cLine) (h : Lazy .GtE A s us vs (szC .GtE us.size vs.size) k) : Ob.RcOp .GtE A s (.ref l) (.ref m) k := fun prog w E Q hq => by
  obtain ⟨⟨c1, d1, x1, t1⟩, o1, q1, n1, r1⟩ := id hl
  obtain ⟨⟨c2, d2, x2, t2⟩, o2, q2, n2, r2⟩ := id hm
  obtain rfl : c1 = _ := q1
  obtain rfl : c2 = _ := q2
  obtain rfl : x1 = _ := r1
  obtain rfl : x2 = _ := r2
  exact richCompare_meets_room (op := .GtE) ⟨_, o1, rfl⟩ ⟨_, o2, rfl⟩ F.slot_tuple_ge F.entry_tuple_ge (F.args_tuple_ge_2 _ _) (lazy_ge l m us vs n1 n2 d1 d2 t1 t2 k) ⟨o1, o2, h, (fun z => nomatch z), hq⟩ hu
theorem tup_op {op : CmpOp} (h4 : op4 op) {A : Around} {s : Shared} {l m : Addr} {us vs : Array Value} {k : Bool} (hl : s.heap.IsTuple l us) (hm : s.heap.IsTuple m vs) (hu : A.units < cLine) (h : Lazy op A s us vs (szC op us.size vs.size) k) : Ob.RcOp op A s (.ref l) (.ref m) k := by
  rcases h4 with rfl | rfl | rfl | rfl
  · exact tup_lt hl hm hu h
  · exact tup_le hl hm hu h
  · exact tup_gt hl hm hu h
  · exact tup_ge hl hm hu h
theorem str_op {op : CmpOp} (h4 : op4 op) {A : Around} {s : Shared} {x y : Str} {t u : Tok} : Ob.RcOp op A s (.str x t) (.str y u) (stC op x y) := by
  intro prog w E Q h
  rcases h4 with rfl | rfl | rfl | rfl
  · exact PySem.P.lt_str h
  · exact PySem.P.le_str h
  · exact PySem.P.gt_str h
  · exact PySem.P.ge_str h
theorem lz0 {op : CmpOp} {A : Around} {s : Shared} {x y : Value} {us vs : List Value} {z k : Bool} (e : EqAt A.in1 s x y false) (r : Ob.RcOp op A.in1 s x y k) : Lazy op A s (x :: us).toArray (y :: vs).toArray z k :=
  ⟨0, Nat.zero_le _, fun j _ _ q => absurd q (Nat.not_lt_zero _), .inr ⟨by simp, by simp, by simpa using e, by simpa using r⟩⟩
theorem lz2 {op : CmpOp} {A : Around} {s : Shared} {x0 x1 y0 y1 : Value} {z k : Bool} (e : EqAt A.in1 s x0 y0 true) (r : (EqAt A.in1 s x1 y1 true ∧ k = z) ∨ (EqAt A.in1 s x1 y1 false ∧ Ob.RcOp op A.in1 s x1 y1 k)) : Lazy op A s [x0, x1].toArray [y0, y1].toArray z k := by
  rcases r with ⟨e1, hk⟩ | ⟨e1, r1⟩
  · refine ⟨2, Nat.le_refl _, fun j p1 p2 q => ?_, .inl ⟨rfl, hk⟩⟩
    match j, q with
    | 0, _ => exact e
    | 1, _ => exact e1
  · refine ⟨1, by show 1 ≤ 2; decide, fun j p1 p2 q => ?_, .inr ⟨by show 1 < 2; decide, by show 1 < 2; decide, e1, r1⟩⟩
    match j, q with
    | 0, _ => exact e
theorem lz3 {op : CmpOp} {A : Around} {s : Shared} {x0 x1 x2 y0 y1 y2 : Value} {z k : Bool} (e : EqAt A.in1 s x0 y0 true)
    (r : (EqAt A.in1 s x1 y1 true ∧ ((EqAt A.in1 s x2 y2 true ∧ k = z) ∨ (EqAt A.in1 s x2 y2 false ∧ Ob.RcOp op A.in1 s x2 y2 k))) ∨ (EqAt A.in1 s x1 y1 false ∧ Ob.RcOp op A.in1 s x1 y1 k)) : Lazy op A s [x0, x1, x2].toArray [y0, y1, y2].toArray z k := by
  rcases r with ⟨e1, ⟨e2, hk⟩ | ⟨e2, r2⟩⟩ | ⟨e1, r1⟩
  · refine ⟨3, Nat.le_refl _, fun j p1 p2 q => ?_, .inl ⟨rfl, hk⟩⟩
    match j, q with
    | 0, _ => exact e
    | 1, _ => exact e1
    | 2, _ => exact e2
  · refine ⟨2, by show 2 ≤ 3; decide, fun j p1 p2 q => ?_, .inr ⟨by show 2 < 3; decide, by show 2 < 3; decide, e2, r2⟩⟩
    match j, q with
    | 0, _ => exact e
    | 1, _ => exact e1
  · refine ⟨1, by show 1 ≤ 3; decide, fun j p1 p2 q => ?_, .inr ⟨by show 1 < 3; decide, by show 1 < 3; decide, e1, r1⟩⟩
    match j, q with
    | 0, _ => exact e
end OpC

namespace Op
open PySem PySem.Spec PyProof.Rows L2 SX OpC
/-! ## the order of forms -/
def cmpF (op : CmpOp) : Fm → Fm → Bool
  | .atm k t, .atm k' t' => if k = k' then (if t = t' then szC op 2 2 else stC op (S t) (S t')) else stC op k k'
  | .un k a, .un k' a' => if k = k' then (if PyData.eqv a.data a'.data = true then szC op 2 2 else cmpF op a a') else stC op k k'
  | .bi k a b, .bi k' a' b' => if k = k' then (if PyData.eqv a.data a'.data = true then (if PyData.eqv b.data b'.data = true then szC op 3 3 else cmpF op b b') else cmpF op a a') else stC op k k'
  | a, b => stC op a.head b.head
section
variable {X : Cx} {pins : List (Addr × Obj)} {σ : L2.St} {H : Hp} {s : Shared}
theorem eqAt_fm (I : Inv X pins σ H s) {a b : Fm} {v u : V} {x y : Value} {A : Around} (ha : FmAt H v a) (hb : FmAt H u b) (rx : RelV v x) (ry : RelV u y) (oa : a.ok = true) (ob : b.ok = true) (hu : A.units + a.dep + 2 < cLine) :
    SeqAt.EqAt A s x y (PyData.eqv a.data b.data) := by
  obtain ⟨as, r1⟩ := Dp.reads (H := H) I a.data v x (dp_fm ha) rx
  obtain ⟨bs, r2⟩ := Dp.reads (H := H) I b.data u y (dp_fm hb) ry
  have := Fm.depth_le a
  exact SeqAt.eqAt_reads _ _ _ _ _ _ _ _ r1 r2 (Fm.lay oa) (Fm.lay ob) (by omega)
theorem eqAt_str {x y : Str} {t u : Tok} {A : Around} {b : Bool} (h : decide (x = y) = b) : SeqAt.EqAt A s (.str x t) (.str y u) b := by
  have e := SeqAt.EqAt.str_str (A := A) (s := s) x t y u
  have z : (x == y) = b := by
    by_cases e : x = y
    · rw [decide_eq_true e] at h
      rw [← h]
      exact beq_iff_eq.mpr e
    · rw [decide_eq_false e] at h
      rw [← h]
      exact beq_eq_false_iff_ne.mpr e
  rw [z] at e
  exact e
theorem rel_str {k : Str} {x : Value} (r : RelV (.str k) x) : ∃ t, x = .str k t := r
theorem ne_au {k k' : Str} {t : List Nat} {a : Fm} (h : (Fm.atm k t).ok = true) (h' : (Fm.un k' a).ok = true) : k ≠ k' := fun e => by
  have h1 : atK k = true := Fm.ok_kin h
  simp only [Fm.ok, Bool.and_eq_true] at h'
  rw [e, unK_at h'.1] at h1
  cases h1
theorem ne_ab {k k' : Str} {t : List Nat} {a b : Fm} (h : (Fm.atm k t).ok = true) (h' : (Fm.bi k' a b).ok = true) : k ≠ k' := fun e => by
  have h1 : atK k = true := Fm.ok_kin h
  simp only [Fm.ok, Bool.and_eq_true] at h'
  rw [e, biK_at h'.1] at h1
  cases h1
theorem biK_un {k : Str} (h : biK k = true) : unK k = false := by
  simp only [biK, Bool.or_eq_true, beq_iff_eq] at h
  rcases h with (rfl | rfl) | rfl <;> decide +kernel
theorem ne_ub {k k' : Str} {c a b : Fm} (h : (Fm.un k c).ok = true) (h' : (Fm.bi k' a b).ok = true) : k ≠ k' := fun e => by
  simp only [Fm.ok, Bool.and_eq_true] at h h'
  have h1 := h.1
  rw [e, biK_un h'.1] at h1
  cases h1
theorem at_atm {H : Hp} {v : V} {k : Str} {t : List Nat} (h : FmAt H v (.atm k t)) : ∃ p, v = .ref p ∧ H p = some (.tup [.str k, .str (S t)]) := by
  cases h with
  | atm h => exact ⟨_, rfl, h⟩
theorem at_un {H : Hp} {v : V} {k : Str} {a : Fm} (h : FmAt H v (.un k a)) : ∃ p w, v = .ref p ∧ H p = some (.tup [.str k, w]) ∧ FmAt H w a := by
  cases h with
  | un h f => exact ⟨_, _, rfl, h, f⟩
theorem at_bi {H : Hp} {v : V} {k : Str} {a b : Fm} (h : FmAt H v (.bi k a b)) : ∃ p w z, v = .ref p ∧ H p = some (.tup [.str k, w, z]) ∧ FmAt H w a ∧ FmAt H z b := by
  cases h with
  | bi h f g => exact ⟨_, _, _, rfl, h, f, g⟩
/-- two heads that differ decide -/
theorem rc_heads (I : Inv X pins σ H s) {op : CmpOp} (h4 : op4 op) {p q : Addr} {k k' : Str} {xs ys : List V} {A : Around} (h1 : H p = some (.tup (.str k :: xs))) (h2 : H q = some (.tup (.str k' :: ys))) (n : k ≠ k') (hu : A.units < cLine) : Ob.RcOp op A s (.ref p) (.ref q) (stC op k k') := by
  obtain ⟨its, r1, t1, _⟩ := I.tuple (SqT.of h1)
  obtain ⟨jts, r2, t2, _⟩ := I.tuple (SqT.of h2)
  cases r1 with
  | cons a1 _ =>
    cases r2 with
    | cons b1 _ =>
      obtain ⟨ta, rfl⟩ := rel_str a1
      obtain ⟨tb, rfl⟩ := rel_str b1
      exact tup_op h4 t1 t2 hu (lz0 (eqAt_str (decide_eq_false n)) (str_op h4))
end
end Op

namespace Op
open PySem PySem.Spec PyProof.Rows L2 SX OpC
section
variable {X : Cx} {pins : List (Addr × Obj)} {σ : L2.St} {H : Hp} {s : Shared}
theorem vals2_str {k : Str} {v : V} {its : List Value} (r : Vals [.str k, v] its) : ∃ t x, its = [.str k t, x] ∧ RelV v x := by
  cases r with
  | cons a b =>
    obtain ⟨t, rfl⟩ := rel_str a
    cases b with
    | cons c d =>
      cases d
      exact ⟨t, _, rfl, c⟩
theorem vals3_str {k : Str} {v u : V} {its : List Value} (r : Vals [.str k, v, u] its) : ∃ t x y, its = [.str k t, x, y] ∧ RelV v x ∧ RelV u y := by
  cases r with
  | cons a b =>
    obtain ⟨t, rfl⟩ := rel_str a
    cases b with
    | cons c d =>
      cases d with
      | cons e f =>
        cases f
        exact ⟨t, _, _, rfl, c, e⟩
/-- one place behind equal heads -/
theorem rc_two (I : Inv X pins σ H s) {op : CmpOp} (h4 : op4 op) {p q : Addr} {k : Str} {v u : V} {A : Around} {e r : Bool} (h1 : H p = some (.tup [.str k, v])) (h2 : H q = some (.tup [.str k, u])) (hu : A.units < cLine)
    (he : ∀ x y, RelV v x → RelV u y → SeqAt.EqAt A.in1 s x y e) (hr : ∀ x y, RelV v x → RelV u y → e = false → Ob.RcOp op A.in1 s x y r) : Ob.RcOp op A s (.ref p) (.ref q) (if e = true then szC op 2 2 else r) := by
  obtain ⟨its, r1, t1, _⟩ := I.tuple (SqT.of h1)
  obtain ⟨jts, r2, t2, _⟩ := I.tuple (SqT.of h2)
  obtain ⟨ta, x, rfl, a1⟩ := vals2_str r1
  obtain ⟨tb, y, rfl, b1⟩ := vals2_str r2
  have e1 := he x y a1 b1
  have e2 := hr x y a1 b1
  refine tup_op h4 t1 t2 hu (lz2 (eqAt_str (decide_eq_true rfl)) ?_)
  cases e with
  | true => exact .inl ⟨e1, rfl⟩
  | false => exact .inr ⟨e1, e2 rfl⟩
/-- two places behind equal heads -/
theorem rc_three (I : Inv X pins σ H s) {op : CmpOp} (h4 : op4 op) {p q : Addr} {k : Str} {v u v' u' : V} {A : Around} {e r e' r' : Bool} (h1 : H p = some (.tup [.str k, v, v'])) (h2 : H q = some (.tup [.str k, u, u'])) (hu : A.units < cLine)
    (he : ∀ x y, RelV v x → RelV u y → SeqAt.EqAt A.in1 s x y e) (hr : ∀ x y, RelV v x → RelV u y → e = false → Ob.RcOp op A.in1 s x y r)
    (he' : ∀ x y, RelV v' x → RelV u' y → SeqAt.EqAt A.in1 s x y e') (hr' : ∀ x y, RelV v' x → RelV u' y → e' = false → Ob.RcOp op A.in1 s x y r') : Ob.RcOp op A s (.ref p) (.ref q) (if e = true then (if e' = true then szC op 3 3 else r') else r) := by
  obtain ⟨its, r1, t1, _⟩ := I.tuple (SqT.of h1)
  obtain ⟨jts, r2, t2, _⟩ := I.tuple (SqT.of h2)
  obtain ⟨ta, x, x', rfl, a1, a2⟩ := vals3_str r1
  obtain ⟨tb, y, y', rfl, b1, b2⟩ := vals3_str r2
  have e1 := he x y a1 b1
  have e2 := hr x y a1 b1
  have e3 := he' x' y' a2 b2
  have e4 := hr' x' y' a2 b2
  refine tup_op h4 t1 t2 hu (lz3 (eqAt_str (decide_eq_true rfl)) ?_)
  cases e with
  | true =>
    cases e' with
    | true => exact .inl ⟨e1, .inl ⟨e3, rfl⟩⟩
    | false => exact .inl ⟨e1, .inr ⟨e3, e4 rfl⟩⟩
  | false => exact .inr ⟨e1, e2 rfl⟩
theorem rel_ref {p : Addr} {x : Value} (r : RelV (.ref p) x) : x = .ref p := r
theorem rc_fm (I : Inv X pins σ H s) {op : CmpOp} (h4 : op4 op) (a : Fm) : ∀ (b : Fm) (A : Around) (v u : V) (x y : Value), FmAt H v a → FmAt H u b → RelV v x → RelV u y → a.ok = true → b.ok = true → A.units + a.dep + 3 < cLine → Ob.RcOp op A s x y (cmpF op a b) := by
  induction a with
  | atm k t =>
    intro b A v u x y f1 f2 rx ry oa ob hu
    obtain ⟨p, rfl, h1⟩ := at_atm f1
    obtain rfl := rel_ref rx
    cases b with
    | atm k' t' =>
      obtain ⟨q, rfl, h2⟩ := at_atm f2
      obtain rfl := rel_ref ry
      show Ob.RcOp op A s _ _ (if k = k' then (if t = t' then szC op 2 2 else stC op (S t) (S t')) else stC op k k')
      by_cases n : k = k'
      · subst n
        rw [if_pos rfl]
        have z := rc_two (e := decide (t = t')) (r := stC op (S t) (S t')) (A := A) I h4 h1 h2 (by omega) (fun x y a b => by
          obtain ⟨_, rfl⟩ := rel_str a
          obtain ⟨_, rfl⟩ := rel_str b
          by_cases m : t = t'
          · rw [decide_eq_true m]
            exact eqAt_str (decide_eq_true (congrArg S m))
          · rw [decide_eq_false m]
            exact eqAt_str (decide_eq_false fun z => m (S_inj z))) (fun x y a b _ => by
          obtain ⟨_, rfl⟩ := rel_str a
          obtain ⟨_, rfl⟩ := rel_str b
          exact str_op h4)
        by_cases m : t = t'
        · rw [decide_eq_true m, if_pos rfl] at z
          rw [if_pos m]
          exact z
        · rw [decide_eq_false m, if_neg Bool.false_ne_true] at z
          rw [if_neg m]
          exact z
      · rw [if_neg n]
        exact rc_heads I h4 h1 h2 n (by omega)
    | un k' a' =>
      obtain ⟨_, _, rfl, h2, _⟩ := at_un f2
      obtain rfl := rel_ref ry
      exact rc_heads I h4 h1 h2 (ne_au oa ob) (by omega)
    | bi k' a' b' =>
      obtain ⟨_, _, _, rfl, h2, _⟩ := at_bi f2
      obtain rfl := rel_ref ry
      exact rc_heads I h4 h1 h2 (ne_ab oa ob) (by omega)
  | un k a ih =>
    intro b A v u x y f1 f2 rx ry oa ob hu
    obtain ⟨p, _, rfl, h1, g1⟩ := at_un f1
    obtain rfl := rel_ref rx
    have hd : A.units + (a.dep + 1) + 3 < cLine := hu
    have hA : A.in1.units = A.units + 1 := rfl
    cases b with
    | atm k' t' =>
      obtain ⟨_, rfl, h2⟩ := at_atm f2
      obtain rfl := rel_ref ry
      exact rc_heads I h4 h1 h2 (ne_au ob oa).symm (by omega)
    | un k' a' =>
      obtain ⟨_, _, rfl, h2, g2⟩ := at_un f2
      obtain rfl := rel_ref ry
      have oa2 : a.ok = true := by simp only [Fm.ok, Bool.and_eq_true] at oa; exact oa.2
      have ob2 : a'.ok = true := by simp only [Fm.ok, Bool.and_eq_true] at ob; exact ob.2
      show Ob.RcOp op A s _ _ (if k = k' then (if PyData.eqv a.data a'.data = true then szC op 2 2 else cmpF op a a') else stC op k k')
      by_cases n : k = k'
      · subst n
        rw [if_pos rfl]
        exact rc_two (A := A) I h4 h1 h2 (by omega) (fun x y r1 r2 => eqAt_fm I g1 g2 r1 r2 oa2 ob2 (by omega)) (fun x y r1 r2 _ => ih a' A.in1 _ _ x y g1 g2 r1 r2 oa2 ob2 (by omega))
      · rw [if_neg n]
        exact rc_heads I h4 h1 h2 n (by omega)
    | bi k' a' b' =>
      obtain ⟨_, _, _, rfl, h2, _⟩ := at_bi f2
      obtain rfl := rel_ref ry
      exact rc_heads I h4 h1 h2 (ne_ub oa ob) (by omega)
  | bi k a c ih1 ih2 =>
    intro b A v u x y f1 f2 rx ry oa ob hu
    obtain ⟨p, _, _, rfl, h1, g1, i1⟩ := at_bi f1
    obtain rfl := rel_ref rx
    have hd : A.units + (max a.dep c.dep + 1) + 3 < cLine := hu
    have hA : A.in1.units = A.units + 1 := rfl
    cases b with
    | atm k' t' =>
      obtain ⟨_, rfl, h2⟩ := at_atm f2
      obtain rfl := rel_ref ry
      exact rc_heads I h4 h1 h2 (ne_ab ob oa).symm (by omega)
    | un k' a' =>
      obtain ⟨_, _, rfl, h2, _⟩ := at_un f2
      obtain rfl := rel_ref ry
      exact rc_heads I h4 h1 h2 (ne_ub ob oa).symm (by omega)
    | bi k' a' c' =>
      obtain ⟨_, _, _, rfl, h2, g2, i2⟩ := at_bi f2
      obtain rfl := rel_ref ry
      simp only [Fm.ok, Bool.and_eq_true] at oa ob
      show Ob.RcOp op A s _ _ (if k = k' then (if PyData.eqv a.data a'.data = true then (if PyData.eqv c.data c'.data = true then szC op 3 3 else cmpF op c c') else cmpF op a a') else stC op k k')
      by_cases n : k = k'
      · subst n
        rw [if_pos rfl]
        exact rc_three (A := A) I h4 h1 h2 (by omega) (fun x y r1 r2 => eqAt_fm I g1 g2 r1 r2 oa.2.2.1 ob.2.2.1 (by omega)) (fun x y r1 r2 _ => ih1 a' A.in1 _ _ x y g1 g2 r1 r2 oa.2.2.1 ob.2.2.1 (by omega))
          (fun x y r1 r2 => eqAt_fm I i1 i2 r1 r2 oa.2.2.2 ob.2.2.2 (by omega)) (fun x y r1 r2 _ => ih2 c' A.in1 _ _ x y i1 i2 r1 r2 oa.2.2.2 ob.2.2.2 (by omega))
      · rw [if_neg n]
        exact rc_heads I h4 h1 h2 n (by omega)
end
/-- x op y of two forms -/
def rCmpF (op : CmpOp) : R2 := fun x y H Q => ∃ a b : Fm, FmAt H x a ∧ FmAt H y b ∧ a.ok = true ∧ b.ok = true ∧ a.dep ≤ 60 ∧ Q (.bl (cmpF op a b)) H
theorem op_cmpF {X : Cx} {op : CmpOp} (h4 : op4 op) (hu : X.A.units + 64 < cLine) : OpR X (compareOp op) (rCmpF op) := by
  intro pins s σ H x y v u Q I rx ry h
  obtain ⟨a, b, ha, hb, oa, ob, hd, q⟩ := h
  have z := rc_fm I h4 a b X.A x y v u ha hb rx ry oa ob (by omega) X.prog X.w X.xe (EP X pins σ Q) ⟨.bl _, H, I, rfl, q⟩
  rcases h4 with rfl | rfl | rfl | rfl <;> exact z
end Op

namespace Op
open PySem PySem.Spec PyProof.Rows L2 SX OpC
section
variable {X : Cx} {k j : Nat} {C : Addr} {m : Str} {sp : Sp} {E : XK}
/-- x op y of two own instances, by the class's own def -/
theorem cmp_own {op : CmpOp} (hop : ∀ a b, compareOp op a b = richCompare op a b) (c : Cm X.prog X.w X.K X.mg X.base k C m sp) (hm : m = (cmpInfo op).2.1) (hr : Room j X.A) (hk : k ≤ j) : OpR X (compareOp op) (rOwn C sp E0) := by
  intro pins s σ H x y v u Q I rx ry h
  obtain ⟨⟨a, dx, fs, rfl, ha⟩, ⟨b, dy, gs, rfl, hb⟩, h⟩ := h
  obtain ⟨f, fd, ps, F, M, bd⟩ := c.ex
  obtain ⟨mA, O1, _⟩ := ins_get I.hok ha
  obtain ⟨od, J1, _⟩ := O1.look
  obtain ⟨mB, O2, _⟩ := ins_get I.hok hb
  obtain ⟨oe, J2, _⟩ := O2.look
  obtain ⟨mf, fr⟩ := I.fr
  cases rx
  cases ry
  subst hm
  rw [hop]
  refine PySem.W.cmp_K (op := op) (tb := .ref C) hr.units0 fr I.ok.mod.kin J1 J2.type (by show (Value.ref C == Value.ref C || _) = true; rw [beq_self_eq_true]; rfl) M.at_ M.fn ?_
  exact wpAny_mono (run_fnS (E := fun _ => E0) F (hr.mono hk) bd (passE0 σ) I (vs := [.ref a, .ref b]) (.cons (rfl : L2.RelV (.ref a) (.ref a)) (.cons (rfl : L2.RelV (.ref b) (.ref b)) .nil)) h) (fun u s' q => back_of q) fun _ _ z => z
end
end Op

namespace Op
open PySem PySem.Spec PyProof.Rows L2 SX OpC
section
variable {X : Cx} {k j : Nat} {C : Addr} {m : Str} {sp : Sp} {E : XK}
/-- a def called one step further in -/
theorem run_in1 {f : Addr} {fd : FuncData} {ps : List Str} {pins : List (Addr × Obj)} {σ : L2.St} {H : Hp} {s : Shared} {Q : VK} {us : List Value} {vs : List V} (F : FnOk X.prog X.w X.K X.mg X.base (L2.CX X.prog X.w) k f fd ps sp) (hr : Room k X.A.in1) (hb : Binds X.K fd ps [])
    (I : Inv X pins σ H s) (r : Vals vs us) (h : sp vs H Q E0) : wpAny (model X.prog X.w) X.A.in1 (call (.ref f) us) (EP X pins σ Q) X.xe s := by
  have hlen : us.length = ps.length := r.length.symm.trans (F.len _ _ _ _ h)
  have bd := hb s us I.kIn (by rw [List.append_nil]; exact hlen)
  rw [List.append_nil] at bd
  have e := I.env0
  have e0 : Env0 X.prog X.w X.K X.mg X.base X.A.in1 X.stack s H := ⟨e.frames, e.mod, e.bs, e.bsz, e.funs, e.frf, e.hok, e.bare⟩
  refine wpAny_call (codeAny_mono (F.run X.A.in1 X.stack s H ⟨us, []⟩ us vs Q E0 hr e0 bd r h) fun z s' hq => ?_)
  match z, hq with
  | .error e, hq => exact passE0 σ pins H s e s' I hq
  | .ok (.ret u), hq => exact I.after hq
  | .ok .next, hq => exact False.elim hq
  | .ok .brk, hq => exact False.elim hq
  | .ok .cont, hq => exact False.elim hq
theorem not_bl {pins : List (Addr × Obj)} {σ : L2.St} {s' : Shared} {Q : VK} {u : Value} (h : EP X pins σ (fun v H' => ∃ b, v = .bl b ∧ Q (.bl (!b)) H') u s') : ∃ b, u = .bool b ∧ EP X pins σ Q (.bool (!b)) s' := by
  obtain ⟨v, H', I', r, b, rfl, q⟩ := h
  cases (show u = Value.bool b from r)
  exact ⟨b, rfl, .bl (!b), H', I', rfl, q⟩
/-- x != y where the class has an == of its own and no != -/
def rOwnNe (C : Addr) (sp : Sp) : R2 := fun x y H Q => rOwn C sp E0 x y H fun v H' => ∃ b, v = .bl b ∧ Q (.bl (!b)) H'
theorem ne_own (c : Cm X.prog X.w X.K X.mg X.base k C "__eq__" sp) (hs : PySem.W.findIn X.K (.ref C) "__ne__" = some (some (.builtin "object.__ne__"))) (ho : PySem.W.mroIn X.K C (.type "object") = some true) (hr : Room j X.A) (hk : k + 1 ≤ j) : OpR X (compareOp .NotEq) (rOwnNe C sp) := by
  intro pins s σ H x y v u Q I rx ry h
  obtain ⟨⟨a, dx, fs, rfl, ha⟩, ⟨b, dy, gs, rfl, hb⟩, h⟩ := h
  obtain ⟨f, fd, ps, fo, M, bd⟩ := c.ex
  obtain ⟨mA, O1, _⟩ := ins_get I.hok ha
  obtain ⟨od, J1, _⟩ := O1.look
  obtain ⟨mB, O2, _⟩ := ins_get I.hok hb
  obtain ⟨oe, J2, _⟩ := O2.look
  cases rx
  cases ry
  have hr1 : Room (k + 1) X.A := hr.mono hk
  have run := run_in1 fo hr1.in1 bd I (vs := [.ref a, .ref b]) (us := [.ref a, .ref b]) (.cons (rfl : L2.RelV (.ref a) (.ref a)) (.cons (rfl : L2.RelV (.ref b) (.ref b)) .nil)) h
  have run2 : wpAny (model X.prog X.w) X.A.in1 (call (.ref f) [.ref a, .ref b]) (fun u s' => ∃ z, u = .bool z ∧ EP X pins σ Q (.bool (!z)) s') X.xe s := wpAny_mono run (fun u s' q => not_bl q) fun _ _ z => z
  have hu1 : X.A.in1.units < cLine := hr1.in1.units0
  have entry : wpAny (model X.prog X.w) X.A.in1 (Builtin.«object.__ne__» ⟨[.ref a, .ref b], []⟩) (fun r s' => ∃ z, r = .done (.ret (.bool z)) ∧ EP X pins σ Q (.bool z) s') X.xe s := by
    (unfold Builtin.«object.__ne__»; skip)
    repeat (first
      | with_reducible refine wpAny_cRoomFor hu1 ?_
      | (refine wpAny_bind (m := callSpecialIfBound? (.ref a) (Str.ofString "__eq__") [.ref b]) (PySem.W.ifBound_K I.kIn J1 M.at_ M.fn (wpAny_mono run2 (fun r s' hr => by
          obtain ⟨z, rfl, hq⟩ := hr
          repeat (first | exact ⟨_, rfl, hq⟩ | exact wpAny_pure ⟨_, rfl, hq⟩ | (refine wpAny_bind (m := truthy (.bool _)) (wpAny_truthy_bool ?_)) | wp_step)) fun _ _ e => e)))
      | wp_step)
  have nec : wpAny (model X.prog X.w) X.A (call (.builtin "object.__ne__") [.ref a, .ref b]) (fun u s' => ∃ z, u = .bool z ∧ EP X pins σ Q (.bool z) s') X.xe s := by
    refine wpAny_call (codeAny_call_builtin F.cmp_object.ne.plain F.cmpEntry_ne (PySem.W.check_slot F.cmpKind_ne F.cmpSplit_ne (J1.type.andThen (PySem.W.looks_mroIn I.kIn ho)) (F.cmpArgs_ne _ _) ?_))
    refine wpAny_mono entry (fun r s' q => ?_) fun _ _ z => z
    obtain ⟨z, rfl, hq⟩ := q
    exact ⟨z, rfl, hq⟩
  have one : wpAny (model X.prog X.w) X.A (tryCompare (.ref a) "__ne__" (.ref b)) (fun r s' => ∃ z, r = some (.bool z) ∧ EP X pins σ Q (.bool z) s') X.xe s := by
    unfold tryCompare
    refine wpAny_bind ?_
    simp only [bindSpecialIfBound?, callSpecialIfBound?]
    refine wpAny_holding ?_
    refine wpAny_bind (wpAny_bind (wpAny_bind (J1.type.here ((PySem.W.looks_findIn I.kIn hs).here ?_))))
    refine wpAny_bind (wpAny_askSetting ?_)
    refine wpAny_ite ?_
    have tl : wpAny (model X.prog X.w) X.A (call (.builtin "object.__ne__") ([.ref a] ++ [.ref b]) >>= fun v => pure (some v)) (fun r s' => wpAny (model X.prog X.w) X.A (match r with | some .notImplemented => pure none | none => pure none | some v => pure (some v)) (fun r s' => ∃ z, r = some (.bool z) ∧ EP X pins σ Q (.bool z) s') X.xe s') X.xe s := by
      refine wpAny_bind (wpAny_mono nec (fun u s' q => ?_) fun _ _ z => z)
      obtain ⟨z, rfl, hq⟩ := q
      exact wpAny_pure (wpAny_pure ⟨z, rfl, hq⟩)
    split
    · exact wpAny_bind (wpAny_of_eq (F.cmp_object.ne.bind _) (wpAny_pure (by exact tl)))
    · exact wpAny_tryCatch (wpAny_bind (wpAny_of_eq (F.cmp_object.ne.bind _) (wpAny_pure (by exact tl))))
  show wpAny (model X.prog X.w) X.A (richCompare .NotEq (.ref a) (.ref b)) _ _ s
  unfold richCompare
  simp only [oneThing_ref, cmpInfo_NotEq]
  refine wpAny_holding ?_
  refine wpAny_bind (wpAny_cRoomFor hr1.units0 ?_)
  refine wpAny_bind (J1.type.here ?_)
  refine wpAny_bind (J2.type.here ?_)
  rw [show (Value.ref C != Value.ref C) = false by simp]
  simp only [Bool.false_eq_true, if_false]
  refine wpAny_bind (wpAny_pure ?_)
  simp only [Bool.false_eq_true, if_false]
  refine wpAny_bind (m := tryCompare (.ref a) _ (.ref b)) (wpAny_mono one (fun r s' z => ?_) fun _ _ z => z)
  obtain ⟨z, rfl, hq⟩ := z
  first | exact wpAny_pure hq | exact wpAny_pure (wpAny_pure hq)
end
end Op

namespace Op
open PySem PySem.Spec PyProof.Rows L2 SX OpC
local macro_rules | `(tactic| walk_at "go1") => `(tactic| first
  | ((with_reducible refine' g_var ?h ?_); (case h => rfl)) | with_reducible refine' g_c ?_ | with_reducible refine' g_op ?_ | with_reducible refine' g_un ?_ | with_reducible refine' g_if ?_ | with_reducible refine' g_test ?_ | with_reducible refine' g_B ?_ | with_reducible refine' g_bl ?_
  | with_reducible refine' g_not ?_ | with_reducible refine' g_and ?_ | with_reducible refine' g_or ?_ | with_reducible refine' g_andV ?_ | with_reducible refine' g_orV ?_ | with_reducible refine' g_notV ?_ | with_reducible refine' g_nil ?_ | with_reducible refine' g_cons ?_ | with_reducible refine' g_CB ?_ | with_reducible refine' g_ca ?_
  | with_reducible refine' g_seq ?_ | with_reducible refine' g_next ?_ | with_reducible refine' g_asg ?_ | with_reducible refine' g_name ?_ | with_reducible refine' g_ret ?_ | with_reducible refine' g_retN ?_ | with_reducible refine' g_drop ?_ | with_reducible refine' g_ifS ?_ | with_reducible refine' g_sub ?_
  | with_reducible refine' g_I0 ?_ | with_reducible refine' g_U ?_ | ((with_reducible refine' g_eq ?h ?_); (case h => rfl)) | ((with_reducible refine' g_ne ?h ?_); (case h => rfl))
  | ((with_reducible refine' g_lenL ?h ?_); (case h => first | assumption | exact SqL.of (by assumption) | exact SqL.of upd_same)) | ((with_reducible refine' g_lenT ?h ?_); (case h => first | assumption | exact SqT.of (by assumption) | exact SqT.of upd_same))
  | ((with_reducible refine' g_ixL ?h ?ha ?_); (case h => first | assumption | exact SqL.of (by assumption) | exact SqL.of upd_same); (case ha => rfl)) | ((with_reducible refine' g_ixT ?h ?ha ?_); (case h => first | assumption | exact SqT.of (by assumption) | exact SqT.of upd_same); (case ha => rfl))
  | ((with_reducible refine' g_I ?h ?_); (case h => first | decide | omega | (first | refine' ⟨?_, ?_, ?_⟩ | refine' ⟨?_, ?_⟩ | refine' Or.inl ⟨?_, ?_⟩) <;> omega | (refine' Or.inr ⟨?_, ?_⟩ <;> omega)))
  | ((with_reducible refine' g_setL ?h ?ha ?_); (case h => first | assumption | exact upd_same); (case ha => rfl))
  | with_reducible refine' g_lcR ?_
  | with_reducible refine' g_M1 ?_ | with_reducible refine' g_isS ?_ | with_reducible refine' g_tyS ?_ | ((with_reducible refine' g_tyL ?h ?_); (case h => first | assumption | exact upd_same))
  | ((with_reducible refine' g_cat ?h ?h2 ?hl ?_); (case h => first | assumption | exact upd_same); (case h2 => first | assumption | exact upd_same); (case hl => first | decide | (simp; omega)))
  | with_reducible refine' g_lcS ?_
  | with_reducible refine' g_starts ?_ | with_reducible refine' g_chain ?_
  | ((with_reducible refine' g_lenS ?h ?_); (case h => first | exact len_le (by assumption) | exact len_le (by omega))) | ((with_reducible refine' g_rstrip ?h ?_); (case h => first | exact len_le (by assumption) | exact len_le (by omega))) | ((with_reducible refine' g_slX ?h ?_); (case h => first | exact len_le (by assumption) | exact len_le (by omega)))
  | with_reducible refine' g_sl ?_ | with_reducible refine' g_nopart ?_ | with_reducible refine' g_part ?_ | with_reducible refine' g_isI ?_
  | with_reducible refine' g_tru ?_
  | with_reducible refine' iteT ?_ | with_reducible refine' iteF ?_ | with_reducible refine' iteNT ?_ | with_reducible refine' iteNF ?_
  | with_reducible refine' g_int ?_ | with_reducible refine' g_insg ?_ | with_reducible refine' g_ninsg ?_ | with_reducible refine' g_isN ?_ | with_reducible refine' g_notN ?_ | with_reducible refine' g_lst ?_ | with_reducible refine' g_tup ?_ | with_reducible refine' g_BM ?_ | with_reducible refine' g_BM0 ?_)
local macro_rules | `(tactic| walk_at "go") => `(tactic| repeat' walk_at "go1")
local macro_rules | `(tactic| walk_at "go2") => `(tactic| repeat' (first | walk_at "go1" | with_reducible refine' g_cm ?_ | with_reducible refine' g_mk ?_ | with_reducible refine' g_for ?_ | ((with_reducible refine' g_rcm ?h ?ha ?_); (case h => first | assumption | exact upd_same); (case ha => first | rfl | decide | simp [List.lookup]))))
/- macro2 -/
local macro_rules | `(tactic| walk_at "go3a") => `(tactic| first
  | walk_at "go1" | with_reducible refine' g_cm ?_ | with_reducible refine' g_mk ?_ | with_reducible refine' g_for ?_ | with_reducible refine' g_fld ?_ | with_reducible refine' g_lcT0 ?_
  | ((with_reducible refine' g_rcm ?h ?ha ?_); (case h => first | assumption | exact upd_same); (case ha => first | rfl | decide | simp [List.lookup]))
  | ((with_reducible refine' g_shape ?hc ?hn ?h ?_); (case hc => assumption); (case hn => assumption); (case h => first | assumption | exact upd_same | (rw [upd_ne (by assumption)]; assumption))))
local macro_rules | `(tactic| walk_at "go3") => `(tactic| repeat' walk_at "go3a")
local macro_rules | `(tactic| walk_at "go4") => `(tactic| repeat' (first
  | walk_at "go3a" | ((with_reducible refine' iteDT ?h ?_); (case h => first | rfl | decide +kernel)) | ((with_reducible refine' iteDF ?h ?_); (case h => decide +kernel))))
/-! ## letters compared -/
theorem o4_lt : op4 .Lt := .inl rfl
theorem o4_le : op4 .LtE := .inr (.inl rfl)
theorem o4_gt : op4 .Gt := .inr (.inr (.inl rfl))
theorem o4_ge : op4 .GtE := .inr (.inr (.inr rfl))
def spCmp (CL : Addr) (op : CmpOp) : Sp := fun vs H Q _ => ∃ (u v : V) (a b : Fm), vs = [u, v] ∧ LetAt CL H u a ∧ LetAt CL H v b ∧ a.ok = true ∧ b.ok = true ∧ a.dep ≤ 60 ∧ b.dep ≤ 60 ∧ Q (.bl (cmpF op a b)) H
def spEqL (CL : Addr) : Sp := fun vs H Q _ => ∃ (u v : V) (a b : Fm), vs = [u, v] ∧ LetAt CL H u a ∧ LetAt CL H v b ∧ a.ok = true ∧ b.ok = true ∧ a.dep ≤ 60 ∧ b.dep ≤ 60 ∧ Q (.bl (PyData.eqv a.data b.data)) H
section
variable {P : Program} {w : World} {K : PySem.W.Frag} {mg : Str → Option Value} {base : Heap} {CL CE CX : Addr}
theorem cm_lt (T : Bl K mg) (L : Lt K mg CL) (LC : Lc K CL) (D : Dm K CL "__lt__" "Letter.__lt__" s_Letter___lt__ p_Letter___lt__) : Cm P w K mg base 1 CL "__lt__" (spCmp CL .Lt) := by
  refine cm_n D sc_Letter___lt__ (fun vs H Q E h => ?_) (fun f cdv A outer s H vs Q E hr h => ?_)
  · obtain ⟨u, v, a, b, rfl, _⟩ := h
    rfl
  · obtain ⟨u, v, a, b, rfl, ⟨x, dx, ua, rfl, hx, fa⟩, ⟨y, dy, ub, rfl, hy, fb⟩, oa, ob, da, db, q⟩ := h
    have lcl := L.cl
    have lno := L.no
    refine ⟨_, (pss_cons (ps_if (pt_not (pt_val (pe_callB call_isi (by rfl) T.b_isinstance (by decide +kernel) (pa_cons (pv 1) (pa_cons (C8.pe_gc (v := .ref CL) (by rfl) ⟨_, L.mgC, rfl⟩) pa_nil)))))
  (pss_one ps_never)
  pss_nil)
  (pss_one (ps_ret (pe_cmpR (op_cmpF o4_lt hr.units) (pe_fld (pv 0) rfl) (pe_fld (pv 1) rfl) (nomark _))))), ?_⟩
    walk_at "go3"
    refine LC.isi hy ?_
    walk_at "go3"
    exact ⟨a, b, fa, fb, oa, ob, da, q⟩
theorem cm_le (T : Bl K mg) (L : Lt K mg CL) (LC : Lc K CL) (D : Dm K CL "__le__" "Letter.__le__" s_Letter___le__ p_Letter___le__) : Cm P w K mg base 1 CL "__le__" (spCmp CL .LtE) := by
  refine cm_n D sc_Letter___le__ (fun vs H Q E h => ?_) (fun f cdv A outer s H vs Q E hr h => ?_)
  · obtain ⟨u, v, a, b, rfl, _⟩ := h
    rfl
  · obtain ⟨u, v, a, b, rfl, ⟨x, dx, ua, rfl, hx, fa⟩, ⟨y, dy, ub, rfl, hy, fb⟩, oa, ob, da, db, q⟩ := h
    have lcl := L.cl
    have lno := L.no
    refine ⟨_, (pss_cons (ps_if (pt_not (pt_val (pe_callB call_isi (by rfl) T.b_isinstance (by decide +kernel) (pa_cons (pv 1) (pa_cons (C8.pe_gc (v := .ref CL) (by rfl) ⟨_, L.mgC, rfl⟩) pa_nil)))))
  (pss_one ps_never)
  pss_nil)
  (pss_one (ps_ret (pe_cmpR (op_cmpF o4_le hr.units) (pe_fld (pv 0) rfl) (pe_fld (pv 1) rfl) (nomark _))))), ?_⟩
    walk_at "go3"
    refine LC.isi hy ?_
    walk_at "go3"
    exact ⟨a, b, fa, fb, oa, ob, da, q⟩
theorem cm_gt (T : Bl K mg) (L : Lt K mg CL) (LC : Lc K CL) (D : Dm K CL "__gt__" "Letter.__gt__" s_Letter___gt__ p_Letter___gt__) : Cm P w K mg base 1 CL "__gt__" (spCmp CL .Gt) := by
  refine cm_n D sc_Letter___gt__ (fun vs H Q E h => ?_) (fun f cdv A outer s H vs Q E hr h => ?_)
  · obtain ⟨u, v, a, b, rfl, _⟩ := h
    rfl
  · obtain ⟨u, v, a, b, rfl, ⟨x, dx, ua, rfl, hx, fa⟩, ⟨y, dy, ub, rfl, hy, fb⟩, oa, ob, da, db, q⟩ := h
    have lcl := L.cl
    have lno := L.no
    refine ⟨_, (pss_cons (ps_if (pt_not (pt_val (pe_callB call_isi (by rfl) T.b_isinstance (by decide +kernel) (pa_cons (pv 1) (pa_cons (C8.pe_gc (v := .ref CL) (by rfl) ⟨_, L.mgC, rfl⟩) pa_nil)))))
  (pss_one ps_never)
  pss_nil)
  (pss_one (ps_ret (pe_cmpR (op_cmpF o4_gt hr.units) (pe_fld (pv 0) rfl) (pe_fld (pv 1) rfl) (nomark _))))), ?_⟩
    walk_at "go3"
    refine LC.isi hy ?_
    walk_at "go3"
    exact ⟨a, b, fa, fb, oa, ob, da, q⟩
theorem cm_ge (T : Bl K mg) (L : Lt K mg CL) (LC : Lc K CL) (D : Dm K CL "__ge__" "Letter.__ge__" s_Letter___ge__ p_Letter___ge__) : Cm P w K mg base 1 CL "__ge__" (spCmp CL .GtE) := by
  refine cm_n D sc_Letter___ge__ (fun vs H Q E h => ?_) (fun f cdv A outer s H vs Q E hr h => ?_)
  · obtain ⟨u, v, a, b, rfl, _⟩ := h
    rfl
  · obtain ⟨u, v, a, b, rfl, ⟨x, dx, ua, rfl, hx, fa⟩, ⟨y, dy, ub, rfl, hy, fb⟩, oa, ob, da, db, q⟩ := h
    have lcl := L.cl
    have lno := L.no
    refine ⟨_, (pss_cons (ps_if (pt_not (pt_val (pe_callB call_isi (by rfl) T.b_isinstance (by decide +kernel) (pa_cons (pv 1) (pa_cons (C8.pe_gc (v := .ref CL) (by rfl) ⟨_, L.mgC, rfl⟩) pa_nil)))))
  (pss_one ps_never)
  pss_nil)
  (pss_one (ps_ret (pe_cmpR (op_cmpF o4_ge hr.units) (pe_fld (pv 0) rfl) (pe_fld (pv 1) rfl) (nomark _))))), ?_⟩
    walk_at "go3"
    refine LC.isi hy ?_
    walk_at "go3"
    exact ⟨a, b, fa, fb, oa, ob, da, q⟩
theorem cm_eq (T : Bl K mg) (L : Lt K mg CL) (LC : Lc K CL) (D : Dm K CL "__eq__" "Letter.__eq__" s_Letter___eq__ p_Letter___eq__) : Cm P w K mg base 1 CL "__eq__" (spEqL CL) := by
  refine cm_n D sc_Letter___eq__ (fun vs H Q E h => ?_) (fun f cdv A outer s H vs Q E hr h => ?_)
  · obtain ⟨u, v, a, b, rfl, _⟩ := h
    rfl
  · obtain ⟨u, v, a, b, rfl, ⟨x, dx, ua, rfl, hx, fa⟩, ⟨y, dy, ub, rfl, hy, fb⟩, oa, ob, da, db, q⟩ := h
    have lcl := L.cl
    have lno := L.no
    refine ⟨_, (pss_one (ps_ret (pe_and (pe_callB call_isi (by rfl) T.b_isinstance (by decide +kernel) (pa_cons (pv 1) (pa_cons (C8.pe_gc (v := .ref CL) (by rfl) ⟨_, L.mgC, rfl⟩) pa_nil))) (pe_one (pe_cmpR (op_eqD hr.units) (pe_fld (pv 0) rfl) (pe_fld (pv 1) rfl) (nomark _)))))), ?_⟩
    walk_at "go3"
    refine LC.isi hy ?_
    walk_at "go3"
    exact ⟨_, _, dp_fm fa, dp_fm fb, Fm.shaped oa da, Fm.shaped ob db, q⟩
end
end Op

namespace Op
open PySem PySem.Spec PyProof.Rows L2 SX
local macro_rules | `(tactic| walk_at "go1") => `(tactic| first
  | ((with_reducible refine' g_var ?h ?_); (case h => rfl)) | with_reducible refine' g_c ?_ | with_reducible refine' g_op ?_ | with_reducible refine' g_un ?_ | with_reducible refine' g_if ?_ | with_reducible refine' g_test ?_ | with_reducible refine' g_B ?_ | with_reducible refine' g_bl ?_
  | with_reducible refine' g_not ?_ | with_reducible refine' g_and ?_ | with_reducible refine' g_or ?_ | with_reducible refine' g_andV ?_ | with_reducible refine' g_orV ?_ | with_reducible refine' g_notV ?_ | with_reducible refine' g_nil ?_ | with_reducible refine' g_cons ?_ | with_reducible refine' g_CB ?_ | with_reducible refine' g_ca ?_
  | with_reducible refine' g_seq ?_ | with_reducible refine' g_next ?_ | with_reducible refine' g_asg ?_ | with_reducible refine' g_name ?_ | with_reducible refine' g_ret ?_ | with_reducible refine' g_retN ?_ | with_reducible refine' g_drop ?_ | with_reducible refine' g_ifS ?_ | with_reducible refine' g_sub ?_
  | with_reducible refine' g_I0 ?_ | with_reducible refine' g_U ?_ | ((with_reducible refine' g_eq ?h ?_); (case h => rfl)) | ((with_reducible refine' g_ne ?h ?_); (case h => rfl))
  | ((with_reducible refine' g_lenL ?h ?_); (case h => first | assumption | exact SqL.of (by assumption) | exact SqL.of upd_same)) | ((with_reducible refine' g_lenT ?h ?_); (case h => first | assumption | exact SqT.of (by assumption) | exact SqT.of upd_same))
  | ((with_reducible refine' g_ixL ?h ?ha ?_); (case h => first | assumption | exact SqL.of (by assumption) | exact SqL.of upd_same); (case ha => rfl)) | ((with_reducible refine' g_ixT ?h ?ha ?_); (case h => first | assumption | exact SqT.of (by assumption) | exact SqT.of upd_same); (case ha => rfl))
  | ((with_reducible refine' g_I ?h ?_); (case h => first | decide | omega | (first | refine' ⟨?_, ?_, ?_⟩ | refine' ⟨?_, ?_⟩ | refine' Or.inl ⟨?_, ?_⟩) <;> omega | (refine' Or.inr ⟨?_, ?_⟩ <;> omega)))
  | ((with_reducible refine' g_setL ?h ?ha ?_); (case h => first | assumption | exact upd_same); (case ha => rfl))
  | with_reducible refine' g_lcR ?_
  | with_reducible refine' g_M1 ?_ | with_reducible refine' g_isS ?_ | with_reducible refine' g_tyS ?_ | ((with_reducible refine' g_tyL ?h ?_); (case h => first | assumption | exact upd_same))
  | ((with_reducible refine' g_cat ?h ?h2 ?hl ?_); (case h => first | assumption | exact upd_same); (case h2 => first | assumption | exact upd_same); (case hl => first | decide | (simp; omega)))
  | with_reducible refine' g_lcS ?_
  | with_reducible refine' g_starts ?_ | with_reducible refine' g_chain ?_
  | ((with_reducible refine' g_lenS ?h ?_); (case h => first | exact len_le (by assumption) | exact len_le (by omega))) | ((with_reducible refine' g_rstrip ?h ?_); (case h => first | exact len_le (by assumption) | exact len_le (by omega))) | ((with_reducible refine' g_slX ?h ?_); (case h => first | exact len_le (by assumption) | exact len_le (by omega)))
  | with_reducible refine' g_sl ?_ | with_reducible refine' g_nopart ?_ | with_reducible refine' g_part ?_ | with_reducible refine' g_isI ?_
  | with_reducible refine' g_tru ?_
  | with_reducible refine' iteT ?_ | with_reducible refine' iteF ?_ | with_reducible refine' iteNT ?_ | with_reducible refine' iteNF ?_
  | with_reducible refine' g_int ?_ | with_reducible refine' g_insg ?_ | with_reducible refine' g_ninsg ?_ | with_reducible refine' g_isN ?_ | with_reducible refine' g_notN ?_ | with_reducible refine' g_lst ?_ | with_reducible refine' g_tup ?_ | with_reducible refine' g_BM ?_ | with_reducible refine' g_BM0 ?_)
local macro_rules | `(tactic| walk_at "go") => `(tactic| repeat' walk_at "go1")
local macro_rules | `(tactic| walk_at "go2") => `(tactic| repeat' (first | walk_at "go1" | with_reducible refine' g_cm ?_ | with_reducible refine' g_mk ?_ | with_reducible refine' g_for ?_ | ((with_reducible refine' g_rcm ?h ?ha ?_); (case h => first | assumption | exact upd_same); (case ha => first | rfl | decide | simp [List.lookup]))))
/- macro2 -/
local macro_rules | `(tactic| walk_at "go3a") => `(tactic| first
  | walk_at "go1" | with_reducible refine' g_cm ?_ | with_reducible refine' g_mk ?_ | with_reducible refine' g_for ?_ | with_reducible refine' g_fld ?_ | with_reducible refine' g_lcT0 ?_
  | ((with_reducible refine' g_rcm ?h ?ha ?_); (case h => first | assumption | exact upd_same); (case ha => first | rfl | decide | simp [List.lookup]))
  | ((with_reducible refine' g_shape ?hc ?hn ?h ?_); (case hc => assumption); (case hn => assumption); (case h => first | assumption | exact upd_same | (rw [upd_ne (by assumption)]; assumption))))
local macro_rules | `(tactic| walk_at "go3") => `(tactic| repeat' walk_at "go3a")
local macro_rules | `(tactic| walk_at "go4") => `(tactic| repeat' (first
  | walk_at "go3a" | ((with_reducible refine' iteDT ?h ?_); (case h => first | rfl | decide +kernel)) | ((with_reducible refine' iteDF ?h ?_); (case h => decide +kernel))))
/-! ## the parts of a form, as the law lists them -/
def rForT (K : PySem.W.Frag) (g : TG) (tb : TS) (D : Ends) (σ : L2.St) (x : V) (H : Hp) : Prop := ∃ a, x = .ref a ∧ (∃ xs, SqT K H a xs) ∧ ∃ W : Nat → Nat → L2.St → Hp → Prop, (∃ m, W 0 m σ H) ∧ ∀ i m σ H, W i m σ H →
  ((Itt K a).stop i H ∧ D.nx σ H) ∨ ((Itt K a).go i H ∧ ∃ N : L2.St → Hp → Prop, (∀ σ' H', N σ' H' → ∃ m', m' < m ∧ W (i + 1) m' σ' H') ∧ ∀ x H', (Itt K a).yld i H x H' → g x σ H' fun σ2 H2 => tb { D with nx := N, ct := N, bk := D.nx } σ2 H2)
theorem g_forT {K : PySem.W.Frag} {tl : TE} {g : TG} {tb : TS} {D : Ends} {σ : L2.St} {H : Hp} (k : tl σ H fun x H1 => rForT K g tb D σ x H1) : tFor (iTup K tl) g tb D σ H := k
theorem r_forT {K : PySem.W.Frag} {g : TG} {tb : TS} {D : Ends} {σ : L2.St} {a : Addr} {xs : List V} {H : Hp} (Pv : Nat → L2.St → Hp → Prop) (h : SqT K H a xs) (h0 : Pv 0 σ H) (hl : ∀ i σ H, i ≤ xs.length → Pv i σ H → SqT K H a xs)
    (hs : ∀ i x σ H, xs[i]? = some x → Pv i σ H → g x σ H fun σ2 H2 => tb { D with nx := Pv (i + 1), ct := Pv (i + 1), bk := D.nx } σ2 H2) (hd : ∀ σ H, Pv xs.length σ H → D.nx σ H) : rForT K g tb D σ (.ref a) H :=
  ⟨a, rfl, ⟨xs, h⟩, for_tup Pv h0 hl hs hd⟩
def sumS (ks : List (V × Fm)) : Nat := (ks.map fun y => y.2.size).sum
/-- a form that is no atom: its inner forms -/
theorem kids_of {H : Hp} {v : V} {a : Fm} (h : FmAt H v a) (ok : a.ok = true) : (∃ p k t, v = .ref p ∧ a = .atm k t ∧ H p = some (.tup [.str k, .str (S t)]) ∧ atK k = true) ∨
    ∃ p k ks, v = .ref p ∧ H p = some (.tup (.str k :: ks.map (·.1))) ∧ atK k = false ∧ (∀ y ∈ ks, FmAt H y.1 y.2 ∧ y.2.ok = true ∧ y.2.dep < a.dep) ∧ 1 + sumS ks = a.size := by
  cases h with
  | @atm p k t h => exact .inl ⟨p, k, t, rfl, rfl, h, Fm.ok_kin ok⟩
  | @un p k w b h f =>
    simp only [Fm.ok, Bool.and_eq_true] at ok
    refine .inr ⟨p, k, [(w, b)], rfl, h, unK_at ok.1, fun y hy => ?_, ?_⟩
    · rw [List.mem_singleton.mp hy]
      exact ⟨f, ok.2, Nat.lt_succ_self _⟩
    · show 1 + (b.size + 0) = b.size + 1
      omega
  | @bi p k w z b c h f g =>
    simp only [Fm.ok, Bool.and_eq_true] at ok
    refine .inr ⟨p, k, [(w, b), (z, c)], rfl, h, biK_at ok.1, fun y hy => ?_, ?_⟩
    · simp only [List.mem_cons, List.not_mem_nil, or_false] at hy
      rcases hy with rfl | rfl
      · exact ⟨f, ok.2.2.1, by show b.dep < max b.dep c.dep + 1; omega⟩
      · exact ⟨g, ok.2.2.2, by show c.dep < max b.dep c.dep + 1; omega⟩
    · show 1 + (b.size + (c.size + 0)) = b.size + c.size + 1
      omega
/-- a form stands at v, at most d deep -/
def FkAt (H : Hp) (v : V) (a : Fm) (d : Nat) : Prop := FmAt H v a ∧ a.ok = true ∧ a.dep ≤ d
theorem FkAt.same {H H' : Hp} {v : V} {a : Fm} {d : Nat} (h : FkAt H v a d) (s : Same H H') : FkAt H' v a d := ⟨h.1.same s, h.2⟩
theorem FkAt.tps {H H' : Hp} {v : V} {a : Fm} {d : Nat} (h : FkAt H v a d) (s : Tps H H') : FkAt H' v a d := ⟨h.1.tps s, h.2⟩
theorem cut_tail (x : V) (xs : List V) : cutV (x :: xs) (some 1) none = xs := by
  simp [cutV, HT.sIx]
theorem nowhole (x : V) (xs : List V) : ¬ (HT.sIx (x :: xs).length 0 (some 1) = 0 ∧ HT.sIx (x :: xs).length (x :: xs).length none = (x :: xs).length) := by
  simp [HT.sIx]
theorem sum_take {ks : List (V × Fm)} {i : Nat} {y : V × Fm} (h : ks[i]? = some y) : sumS (ks.take (i + 1)) = sumS (ks.take i) + y.2.size := by
  rw [List.take_succ, h]
  simp [sumS]
theorem sum_take_le (ks : List (V × Fm)) (i : Nat) : sumS (ks.take i) ≤ sumS ks := by
  have e := congrArg List.sum (List.take_append_drop i (ks.map fun y => y.2.size))
  rw [List.sum_append] at e
  unfold sumS
  rw [List.map_take]
  omega
end Op

namespace Op
open PySem PySem.Spec PyProof.Rows L2 SX OpC
local macro_rules | `(tactic| walk_at "go1") => `(tactic| first
  | ((with_reducible refine' g_var ?h ?_); (case h => rfl)) | with_reducible refine' g_c ?_ | with_reducible refine' g_op ?_ | with_reducible refine' g_un ?_ | with_reducible refine' g_if ?_ | with_reducible refine' g_test ?_ | with_reducible refine' g_B ?_ | with_reducible refine' g_bl ?_
  | with_reducible refine' g_not ?_ | with_reducible refine' g_and ?_ | with_reducible refine' g_or ?_ | with_reducible refine' g_andV ?_ | with_reducible refine' g_orV ?_ | with_reducible refine' g_notV ?_ | with_reducible refine' g_nil ?_ | with_reducible refine' g_cons ?_ | with_reducible refine' g_CB ?_ | with_reducible refine' g_ca ?_
  | with_reducible refine' g_seq ?_ | with_reducible refine' g_next ?_ | with_reducible refine' g_asg ?_ | with_reducible refine' g_name ?_ | with_reducible refine' g_ret ?_ | with_reducible refine' g_retN ?_ | with_reducible refine' g_drop ?_ | with_reducible refine' g_ifS ?_ | with_reducible refine' g_sub ?_
  | with_reducible refine' g_I0 ?_ | with_reducible refine' g_U ?_ | ((with_reducible refine' g_eq ?h ?_); (case h => rfl)) | ((with_reducible refine' g_ne ?h ?_); (case h => rfl))
  | ((with_reducible refine' g_lenL ?h ?_); (case h => first | assumption | exact SqL.of (by assumption) | exact SqL.of upd_same)) | ((with_reducible refine' g_lenT ?h ?_); (case h => first | assumption | exact SqT.of (by assumption) | exact SqT.of upd_same))
  | ((with_reducible refine' g_ixL ?h ?ha ?_); (case h => first | assumption | exact SqL.of (by assumption) | exact SqL.of upd_same); (case ha => rfl)) | ((with_reducible refine' g_ixT ?h ?ha ?_); (case h => first | assumption | exact SqT.of (by assumption) | exact SqT.of upd_same); (case ha => rfl))
  | ((with_reducible refine' g_I ?h ?_); (case h => first | decide | omega | (first | refine' ⟨?_, ?_, ?_⟩ | refine' ⟨?_, ?_⟩ | refine' Or.inl ⟨?_, ?_⟩) <;> omega | (refine' Or.inr ⟨?_, ?_⟩ <;> omega)))
  | ((with_reducible refine' g_setL ?h ?ha ?_); (case h => first | assumption | exact upd_same); (case ha => rfl))
  | with_reducible refine' g_lcR ?_
  | with_reducible refine' g_M1 ?_ | with_reducible refine' g_isS ?_ | with_reducible refine' g_tyS ?_ | ((with_reducible refine' g_tyL ?h ?_); (case h => first | assumption | exact upd_same))
  | ((with_reducible refine' g_cat ?h ?h2 ?hl ?_); (case h => first | assumption | exact upd_same); (case h2 => first | assumption | exact upd_same); (case hl => first | decide | (simp; omega)))
  | with_reducible refine' g_lcS ?_
  | with_reducible refine' g_starts ?_ | with_reducible refine' g_chain ?_
  | ((with_reducible refine' g_lenS ?h ?_); (case h => first | exact len_le (by assumption) | exact len_le (by omega))) | ((with_reducible refine' g_rstrip ?h ?_); (case h => first | exact len_le (by assumption) | exact len_le (by omega))) | ((with_reducible refine' g_slX ?h ?_); (case h => first | exact len_le (by assumption) | exact len_le (by omega)))
  | with_reducible refine' g_sl ?_ | with_reducible refine' g_nopart ?_ | with_reducible refine' g_part ?_ | with_reducible refine' g_isI ?_
  | with_reducible refine' g_tru ?_
  | with_reducible refine' iteT ?_ | with_reducible refine' iteF ?_ | with_reducible refine' iteNT ?_ | with_reducible refine' iteNF ?_
  | with_reducible refine' g_int ?_ | with_reducible refine' g_insg ?_ | with_reducible refine' g_ninsg ?_ | with_reducible refine' g_isN ?_ | with_reducible refine' g_notN ?_ | with_reducible refine' g_lst ?_ | with_reducible refine' g_tup ?_ | with_reducible refine' g_BM ?_ | with_reducible refine' g_BM0 ?_)
local macro_rules | `(tactic| walk_at "go") => `(tactic| repeat' walk_at "go1")
local macro_rules | `(tactic| walk_at "go2") => `(tactic| repeat' (first | walk_at "go1" | with_reducible refine' g_cm ?_ | with_reducible refine' g_mk ?_ | with_reducible refine' g_for ?_ | ((with_reducible refine' g_rcm ?h ?ha ?_); (case h => first | assumption | exact upd_same); (case ha => first | rfl | decide | simp [List.lookup]))))
/- macro2 -/
local macro_rules | `(tactic| walk_at "go3a") => `(tactic| first
  | walk_at "go1" | with_reducible refine' g_cm ?_ | with_reducible refine' g_mk ?_ | with_reducible refine' g_for ?_ | with_reducible refine' g_fld ?_ | with_reducible refine' g_lcT0 ?_
  | ((with_reducible refine' g_rcm ?h ?ha ?_); (case h => first | assumption | exact upd_same); (case ha => first | rfl | decide | simp [List.lookup]))
  | ((with_reducible refine' g_shape ?hc ?hn ?h ?_); (case hc => assumption); (case hn => assumption); (case h => first | assumption | exact upd_same | (rw [upd_ne (by assumption)]; assumption))))
local macro_rules | `(tactic| walk_at "go3") => `(tactic| repeat' walk_at "go3a")
local macro_rules | `(tactic| walk_at "go4") => `(tactic| repeat' (first
  | walk_at "go3a" | ((with_reducible refine' iteDT ?h ?_); (case h => first | rfl | decide +kernel)) | ((with_reducible refine' iteDF ?h ?_); (case h => decide +kernel))))
/-! ## of use in many laws -/
theorem us_xy {H : Hp} {p : Addr} (h : H p = some (.lst [.str (Str.ofString "x"), .str (Str.ofString "y")])) : UsAt H p [[120], [121]] := ⟨by
  rw [h, show Str.ofString "x" = S [120] by decide +kernel, show Str.ofString "y" = S [121] by decide +kernel]
  rfl, by decide +kernel, by decide⟩
theorem Same.but {H H1 H2 : Hp} {st : Addr} (s : Same H H1) (n : H st = none) (b : But st H1 H2) : Same H H2 := fun x o e => b x o (fun q => by rw [q, n] at e; cases e) (s x o e)
theorem Same.non {H H1 : Hp} {st : Addr} (s : Same H H1) (n : H1 st = none) : H st = none := by
  cases e : H st with
  | none => rfl
  | some o =>
    rw [s _ _ e] at n
    cases n
theorem StAt.mut {H : Hp} {st p : Addr} {n : Nat} {o : HO} (h : StAt H st n) (ne : st ≠ p) : StAt (upd H p o) st n := by
  obtain ⟨a, b, c, e, r⟩ := h
  exact ⟨a, b, c, by rw [upd_ne ne]; exact e, r⟩
theorem SqL.sm {K : PySem.W.Frag} {H H' : Hp} {a : Addr} {xs : List V} (h : SqL K H a xs) (s : Same H H') : SqL K H' a xs := by
  rcases h with (h | ⟨o, h⟩) | h
  · exact .inl (.inl (s _ _ h))
  · exact .inl (.inr ⟨o, s _ _ h⟩)
  · exact .inr h
theorem at_last {xs : List V} {v : V} : atI (xs ++ [v]) (-1) = some v := by
  have e : ixN (xs ++ [v]).length (-1) = some xs.length := by
    unfold ixN
    rw [List.length_append, List.length_singleton, if_neg (by decide), if_pos (by omega)]
    exact congrArg some (by omega)
  show (ixN (xs ++ [v]).length (-1)).bind _ = _
  rw [e]
  simp
def rForZ (K : PySem.W.Frag) (g : TG) (tb : TS) (D : Ends) (σ : L2.St) (vs : List V) (H : Hp) : Prop := ∃ a b xs ys, vs = [.ref a, .ref b] ∧ SqL K H a xs ∧ SqL K H b ys ∧ ∃ W : Nat → Nat → L2.St → Hp → Prop, (∃ m, W 0 m σ H) ∧ ∀ i m σ H, W i m σ H →
  ((Itz K a b).stop i H ∧ D.nx σ H) ∨ ((Itz K a b).go i H ∧ ∃ N : L2.St → Hp → Prop, (∀ σ' H', N σ' H' → ∃ m', m' < m ∧ W (i + 1) m' σ' H') ∧ ∀ x H', (Itz K a b).yld i H x H' → g x σ H' fun σ2 H2 => tb { D with nx := N, ct := N, bk := D.nx } σ2 H2)
theorem g_forZ {K : PySem.W.Frag} {ta : TA} {g : TG} {tb : TS} {D : Ends} {σ : L2.St} {H : Hp} (k : ta σ H fun vs H1 => rForZ K g tb D σ vs H1) : tFor (iZip K ta) g tb D σ H := k
/-- two lists of one length, side by side -/
theorem r_forZ {K : PySem.W.Frag} {g : TG} {tb : TS} {D : Ends} {σ : L2.St} {a b : Addr} {xs ys : List V} {H : Hp} (Pv : Nat → L2.St → Hp → Prop) (hxy : xs.length = ys.length) (h0 : Pv 0 σ H) (hl : ∀ i σ H, Pv i σ H → SqL K H a xs ∧ SqL K H b ys)
    (hs : ∀ i x y σ H T, xs[i]? = some x → ys[i]? = some y → Pv i σ H → H T = none → g (.ref T) σ (upd H T (.tup [x, y])) fun σ2 H2 => tb { D with nx := Pv (i + 1), ct := Pv (i + 1), bk := D.nx } σ2 H2) (hd : ∀ σ H, Pv xs.length σ H → D.nx σ H) : rForZ K g tb D σ [.ref a, .ref b] H := by
  refine ⟨a, b, xs, ys, rfl, (hl 0 _ _ h0).1, (hl 0 _ _ h0).2, fun i m σ H => m + i = xs.length ∧ Pv i σ H, ⟨xs.length, rfl, h0⟩, ?_⟩
  rintro i m σ H ⟨hm, p⟩
  obtain ⟨qa, qb⟩ := hl i σ H p
  cases m with
  | zero =>
    have e : i = xs.length := by omega
    subst e
    exact .inl ⟨⟨xs, ys, qa, qb, .inl (Nat.le_refl _)⟩, hd σ H p⟩
  | succ m =>
    have h1 : i < xs.length := by omega
    have h2 : i < ys.length := by omega
    refine .inr ⟨⟨xs, ys, _, _, qa, qb, List.getElem?_eq_getElem h1, List.getElem?_eq_getElem h2⟩, Pv (i + 1), fun σ' H' p' => ⟨m, Nat.lt_succ_self _, by omega, p'⟩, ?_⟩
    rintro v H' ⟨T, x, y, rfl, hT, rfl, hx, hy⟩
    exact hs i x y σ H T (hx xs qa) (hy ys qb) p hT
def FkAll (H : Hp) (xs : List V) : Prop := ∀ x ∈ xs, ∃ b, FkAt H x b 6
theorem FkAll.tps {H H' : Hp} {xs : List V} (h : FkAll H xs) (t : Tps H H') : FkAll H' xs := fun x hx => by
  obtain ⟨b, hb⟩ := h x hx
  exact ⟨b, hb.tps t⟩
theorem FkAll.add {H : Hp} {xs : List V} {v : V} {b : Fm} (h : FkAll H xs) (hb : FkAt H v b 6) : FkAll H (xs ++ [v]) := fun x hx => by
  rcases List.mem_append.mp hx with hx | hx
  · exact h x hx
  · rw [List.mem_singleton.mp hx]
    exact ⟨b, hb⟩
def rLcL (K : PySem.W.Frag) (j : Nat) (te : TE) (vs : List Nat) (σ : L2.St) (v : V) (H : Hp) (Q : VK) : Prop := ∃ a, v = .ref a ∧ (∃ xs, SqL K H a xs) ∧ ∀ D, H D = none → ∃ W : Nat → Nat → Hp → Prop, (∃ m, W 0 m (upd H D (.lst []))) ∧ ∀ i m H, W i m H →
  ((Itl K a).stop i H ∧ Q (.ref D) H) ∨ ((Itl K a).go i H ∧ ∃ Nx : Hp → Prop, (∀ H', Nx H' → ∃ m', m' < m ∧ W (i + 1) m' H') ∧ ∀ x H', (Itl K a).yld i H x H' → gName j x (wipe σ vs) H' fun σ2 H2 => wipe σ2 vs = wipe σ vs ∧ tYes σ2 H2 fun b H3 =>
    if b = true then te σ2 H3 fun y H4 => ∃ acc, H4 D = some (.lst acc) ∧ acc.length < sizeLine ∧ Nx (upd H4 D (.lst (acc ++ [y]))) else Nx H3)
theorem g_lcL0 {K : PySem.W.Frag} {σ : L2.St} {H : Hp} {Q : VK} {tl : TE} {te : TE} {j : Nat} {vs : List Nat} (k : tl σ H fun v H1 => rLcL K j te vs σ v H1 Q) : tLc (iList K tl) (gName j) tYes te vs σ H Q := k
theorem r_lcL {K : PySem.W.Frag} {σ : L2.St} {H : Hp} {Q : VK} {te : TE} {j : Nat} {a : Addr} {xs : List V} {vs : List Nat} (J : Addr → Nat → List V → Hp → Prop) (hT : SqL K H a xs) (hl : xs.length < 1000000) (hw : ∀ x, wipe ((wipe σ vs).set j (some x)) vs = wipe σ vs)
    (hst : ∀ D i acc H2, J D i acc H2 → SqL K H2 a xs) (h0 : ∀ D, H D = none → J D 0 [] (upd H D (.lst [])))
    (hs : ∀ (D : Addr) (i : Nat) (x : V) (acc : List V) (H2 : Hp), H D = none → xs[i]? = some x → H2 D = some (.lst acc) → acc.length = i → J D i acc H2 → te ((wipe σ vs).set j (some x)) H2 (lcPost J D i))
    (hd : ∀ D acc H2, H D = none → H2 D = some (.lst acc) → acc.length = xs.length → J D xs.length acc H2 → Q (.ref D) H2) : rLcL K j te vs σ (.ref a) H Q := by
  refine ⟨a, rfl, ⟨xs, hT⟩, fun D hD => ?_⟩
  refine lc_list (xs := xs) (fun i H2 => ∃ acc, H2 D = some (.lst acc) ∧ acc.length = i ∧ J D i acc H2) ⟨[], upd_same, rfl, h0 D hD⟩ (fun i H2 hi p => ?_) (fun i x H2 hi p => ?_) (fun H2 p => ?_)
  · obtain ⟨acc, h1, h2, h3⟩ := p
    exact hst D i acc H2 h3
  · obtain ⟨acc, h1, h2, h3⟩ := p
    exact ⟨hw _, hs D i x acc H2 hD hi h1 h2 h3⟩
  · obtain ⟨acc, h1, h2, h3⟩ := p
    exact hd D acc H2 hD h1 h2 h3
/-- equal data is not unequal -/
theorem g_neSelf {K : PySem.W.Frag} {H : Hp} {x y : V} {d : PyData} {Q : VK} (h1 : Dp K H x d) (h2 : Dp K H y d) (h : SeqAt.shaped d = true) (k : Q (.bl false) H) : rNeD K x y H Q :=
  ⟨d, d, h1, h2, h, h, by rw [SeqAt.eqv_refl _ (SeqAt.canLay_of_shaped h)]; exact k⟩
theorem bb_sh (x y : Bool) : SeqAt.shaped (.tuple [.bool x, .bool y]) = true := rfl
theorem bb_dp {K : PySem.W.Frag} {H : Hp} {p : Addr} {x y : Bool} (h : H p = some (.tup [.bl x, .bl y])) : Dp K H (.ref p) (.tuple [.bool x, .bool y]) := .tup (SqT.of h) (.cons (.bl _) (.cons (.bl _) .nil))
/-- the form at x, its letter at y -/
def Pairs (CL : Addr) (H : Hp) (fs acc : List V) : Prop := ∀ (n : Nat) (x y : V), fs[n]? = some x → acc[n]? = some y → ∃ b, FkAt H x b 6 ∧ LetAt CL H y b
/-- a form at x and its letter at y -/
def PairAt (CL : Addr) (H : Hp) (x y : V) (b : Fm) : Prop := FkAt H x b 6 ∧ LetAt CL H y b
theorem PairAt.same {CL : Addr} {H H' : Hp} {x y : V} {b : Fm} (h : PairAt CL H x y b) (s : Same H H') : PairAt CL H' x y b := ⟨h.1.same s, h.2.same s⟩
end Op

namespace Op
open PySem PySem.Spec PyProof.Rows L2 SX OpC
local macro_rules | `(tactic| walk_at "go1") => `(tactic| first
  | ((with_reducible refine' g_var ?h ?_); (case h => rfl)) | with_reducible refine' g_c ?_ | with_reducible refine' g_op ?_ | with_reducible refine' g_un ?_ | with_reducible refine' g_if ?_ | with_reducible refine' g_test ?_ | with_reducible refine' g_B ?_ | with_reducible refine' g_bl ?_
  | with_reducible refine' g_not ?_ | with_reducible refine' g_and ?_ | with_reducible refine' g_or ?_ | with_reducible refine' g_andV ?_ | with_reducible refine' g_orV ?_ | with_reducible refine' g_notV ?_ | with_reducible refine' g_nil ?_ | with_reducible refine' g_cons ?_ | with_reducible refine' g_CB ?_ | with_reducible refine' g_ca ?_
  | with_reducible refine' g_seq ?_ | with_reducible refine' g_next ?_ | with_reducible refine' g_asg ?_ | with_reducible refine' g_name ?_ | with_reducible refine' g_ret ?_ | with_reducible refine' g_retN ?_ | with_reducible refine' g_drop ?_ | with_reducible refine' g_ifS ?_ | with_reducible refine' g_sub ?_
  | with_reducible refine' g_I0 ?_ | with_reducible refine' g_U ?_ | ((with_reducible refine' g_eq ?h ?_); (case h => rfl)) | ((with_reducible refine' g_ne ?h ?_); (case h => rfl))
  | ((with_reducible refine' g_lenL ?h ?_); (case h => first | assumption | exact SqL.of (by assumption) | exact SqL.of upd_same)) | ((with_reducible refine' g_lenT ?h ?_); (case h => first | assumption | exact SqT.of (by assumption) | exact SqT.of upd_same))
  | ((with_reducible refine' g_ixL ?h ?ha ?_); (case h => first | assumption | exact SqL.of (by assumption) | exact SqL.of upd_same); (case ha => rfl)) | ((with_reducible refine' g_ixT ?h ?ha ?_); (case h => first | assumption | exact SqT.of (by assumption) | exact SqT.of upd_same); (case ha => rfl))
  | ((with_reducible refine' g_I ?h ?_); (case h => first | decide | omega | (first | refine' ⟨?_, ?_, ?_⟩ | refine' ⟨?_, ?_⟩ | refine' Or.inl ⟨?_, ?_⟩) <;> omega | (refine' Or.inr ⟨?_, ?_⟩ <;> omega)))
  | ((with_reducible refine' g_setL ?h ?ha ?_); (case h => first | assumption | exact upd_same); (case ha => rfl))
  | with_reducible refine' g_lcR ?_
  | with_reducible refine' g_M1 ?_ | with_reducible refine' g_isS ?_ | with_reducible refine' g_tyS ?_ | ((with_reducible refine' g_tyL ?h ?_); (case h => first | assumption | exact upd_same))
  | ((with_reducible refine' g_cat ?h ?h2 ?hl ?_); (case h => first | assumption | exact upd_same); (case h2 => first | assumption | exact upd_same); (case hl => first | decide | (simp; omega)))
  | with_reducible refine' g_lcS ?_
  | with_reducible refine' g_starts ?_ | with_reducible refine' g_chain ?_
  | ((with_reducible refine' g_lenS ?h ?_); (case h => first | exact len_le (by assumption) | exact len_le (by omega))) | ((with_reducible refine' g_rstrip ?h ?_); (case h => first | exact len_le (by assumption) | exact len_le (by omega))) | ((with_reducible refine' g_slX ?h ?_); (case h => first | exact len_le (by assumption) | exact len_le (by omega)))
  | with_reducible refine' g_sl ?_ | with_reducible refine' g_nopart ?_ | with_reducible refine' g_part ?_ | with_reducible refine' g_isI ?_
  | with_reducible refine' g_tru ?_
  | with_reducible refine' iteT ?_ | with_reducible refine' iteF ?_ | with_reducible refine' iteNT ?_ | with_reducible refine' iteNF ?_
  | with_reducible refine' g_int ?_ | with_reducible refine' g_insg ?_ | with_reducible refine' g_ninsg ?_ | with_reducible refine' g_isN ?_ | with_reducible refine' g_notN ?_ | with_reducible refine' g_lst ?_ | with_reducible refine' g_tup ?_ | with_reducible refine' g_BM ?_ | with_reducible refine' g_BM0 ?_)
local macro_rules | `(tactic| walk_at "go") => `(tactic| repeat' walk_at "go1")
local macro_rules | `(tactic| walk_at "go2") => `(tactic| repeat' (first | walk_at "go1" | with_reducible refine' g_cm ?_ | with_reducible refine' g_mk ?_ | with_reducible refine' g_for ?_ | ((with_reducible refine' g_rcm ?h ?ha ?_); (case h => first | assumption | exact upd_same); (case ha => first | rfl | decide | simp [List.lookup]))))
/- macro2 -/
local macro_rules | `(tactic| walk_at "go3a") => `(tactic| first
  | walk_at "go1" | with_reducible refine' g_cm ?_ | with_reducible refine' g_mk ?_ | with_reducible refine' g_for ?_ | with_reducible refine' g_fld ?_ | with_reducible refine' g_lcT0 ?_
  | ((with_reducible refine' g_rcm ?h ?ha ?_); (case h => first | assumption | exact upd_same); (case ha => first | rfl | decide | simp [List.lookup]))
  | ((with_reducible refine' g_shape ?hc ?hn ?h ?_); (case hc => assumption); (case hn => assumption); (case h => first | assumption | exact upd_same | (rw [upd_ne (by assumption)]; assumption))))
local macro_rules | `(tactic| walk_at "go3") => `(tactic| repeat' walk_at "go3a")
local macro_rules | `(tactic| walk_at "go4") => `(tactic| repeat' (first
  | walk_at "go3a" | ((with_reducible refine' iteDT ?h ?_); (case h => first | rfl | decide +kernel)) | ((with_reducible refine' iteDF ?h ?_); (case h => decide +kernel))))
/-! ## a good form has no fault -/
def isAtomB (k : Str) (t : List Nat) : Bool := if k = kWord then isWordB t else if k = kName then isNameB t else isUnkB t
theorem atom_okB {k : Str} {t : List Nat} (h : (Fm.atm k t).ok = true) : isAtomB k t = true := by
  simp only [Fm.ok, Bool.or_eq_true, Bool.and_eq_true, beq_iff_eq] at h
  unfold isAtomB
  rcases h with ⟨rfl, h⟩ | ⟨rfl, h⟩ | ⟨rfl, h⟩
  · rw [if_pos rfl]; exact h
  · rw [if_neg (by decide +kernel), if_pos rfl]; exact h
  · rw [if_neg (by decide +kernel), if_neg (by decide +kernel)]; exact h
def spIsAtom : Sp := fun vs H Q _ => ∃ (k : Str) (t : List Nat), vs = [.str k, .str (S t)] ∧ t.length < 1000000 ∧ ∀ H', Same H H' → Q (.bl (isAtomB k t)) H'
/-- the dict of how many items the form of each kind has -/
structure Sz (K : PySem.W.Frag) (w : World) (mg : Str → Option Value) : Prop where
  ex : ∃ (a : Addr) (es : Array DictEntry) (n : Nat), mg "SIZES" = some (.ref a) ∧ KDict K w a es n ∧ (∀ k, atK k = true → ∃ t, PySem.W.nsIn K a k = some (some (.int 2 t))) ∧
    (∀ k, unK k = true → ∃ t, PySem.W.nsIn K a k = some (some (.int 2 t))) ∧ (∀ k, biK k = true → ∃ t, PySem.W.nsIn K a k = some (some (.int 3 t)))
/-- any good form stands alone -/
def spStands : Sp := fun vs H Q _ => ∃ (v : V) (a : Fm), vs = [v] ∧ FmAt H v a ∧ a.ok = true ∧ ∀ H', Same H H' → Q (.bl true) H'
/-- .. and has no fault -/
def spFault : Sp := fun vs H Q _ => ∃ (v : V) (a : Fm), vs = [v] ∧ FmAt H v a ∧ a.ok = true ∧ a.size ≤ 10000 ∧ ∀ H', Same H H' → Q .non H'
section
variable {P : Program} {w : World} {K : PySem.W.Frag} {mg : Str → Option Value} {base : Heap}
theorem ca_is_atom (T : Bl K mg) (D : Df K mg "is_atom" s_is_atom p_is_atom) (c_is_word : Ca P w K mg base 2 "is_word" (spTextB isWordB)) (c_is_name : Ca P w K mg base 2 "is_name" (spTextB isNameB)) (c_is_unknown : Ca P w K mg base 2 "is_unknown" (spTextB isUnkB)) :
    Ca P w K mg base 3 "is_atom" spIsAtom := by
  refine ca_n D sc_is_atom (fun vs H Q E h => ?_) (fun f cdv A outer s H vs Q E hr h => ?_)
  · obtain ⟨k, t, rfl, _⟩ := h
    rfl
  · obtain ⟨k, t, rfl, hl, q⟩ := h
    refine ⟨_, (pss_cons (ps_if (pt_not (pt_val (pe_callB call_isi (by rfl) T.b_isinstance (by decide +kernel) (pa_cons (pv 1) (pa_cons (pe_bltn (v := .ty "str") (u := .type "str") (by rfl) T.b_str (by decide +kernel) rfl) pa_nil)))))
  (pss_one (ps_ret pe_bl))
  pss_nil)
  (pss_cons (ps_if (pt_cmpR op_eq (pv 0) pe_str (nomark _))
  (pss_one (ps_ret (pe_ca c_is_word hr (by decide) (by rfl) (pa_cons (pv 1) pa_nil))))
  pss_nil)
  (pss_cons (ps_if (pt_cmpR op_eq (pv 0) pe_str (nomark _))
  (pss_one (ps_ret (pe_ca c_is_name hr (by decide) (by rfl) (pa_cons (pv 1) pa_nil))))
  pss_nil)
  (pss_one (ps_ret (pe_ca c_is_unknown hr (by decide) (by rfl) (pa_cons (pv 1) pa_nil))))))), ?_⟩
    walk_at "go3"
    refine g_isi (.ty _) (.base (.str _)) (kit_ty (b := "str") (r := true) (by decide +kernel)) ?_
    walk_at "go3"
    refine iteD (fun e => ?_) (fun ne => ?_)
    · have e' : k = kWord := V.str.inj e
      walk_at "go3"
      refine ⟨t, rfl, hl, fun H1 s1 => ?_⟩
      have z : isAtomB k t = isWordB t := if_pos e'
      rw [← z]
      exact q H1 s1
    · have ne' : ¬ k = kWord := fun z => ne (by rw [z])
      walk_at "go3"
      refine iteD (fun e => ?_) (fun ne2 => ?_)
      · have e' : k = kName := V.str.inj e
        walk_at "go3"
        refine ⟨t, rfl, hl, fun H1 s1 => ?_⟩
        have z : isAtomB k t = isNameB t := (if_neg ne').trans (if_pos e')
        rw [← z]
        exact q H1 s1
      · have ne2' : ¬ k = kName := fun z => ne2 (by rw [z])
        walk_at "go3"
        refine ⟨t, rfl, hl, fun H1 s1 => ?_⟩
        have z : isAtomB k t = isUnkB t := (if_neg ne').trans (if_neg ne2')
        rw [← z]
        exact q H1 s1
theorem ca_stands (T : Bl K mg) (SZ : Sz K w mg) (D : Df K mg "stands_alone" s_stands_alone p_stands_alone) (c_is_atom : Ca P w K mg base 3 "is_atom" spIsAtom) : Ca P w K mg base 4 "stands_alone" spStands := by
  obtain ⟨aA, hA, tA⟩ := T.t_ATOMS
  have c_ATOMS : ∃ u, mg "ATOMS" = some u ∧ RelV (.ref aA) u := ⟨_, hA, rfl⟩
  obtain ⟨aS, es, nS, hS, KD, z1, z2, z3⟩ := SZ.ex
  have c_SIZES : ∃ u, mg "SIZES" = some u ∧ RelV (.ref aS) u := ⟨_, hS, rfl⟩
  refine ca_n D sc_stands_alone (fun vs H Q E h => ?_) (fun f cdv A outer s H vs Q E hr h => ?_)
  · obtain ⟨v, a, rfl, _⟩ := h
    rfl
  · obtain ⟨v, a, rfl, fa, ok, q⟩ := h
    refine ⟨_, (pss_cons (ps_if (PW.pt (pw_or (pt_not (pt_val (pe_callB call_isi (by rfl) T.b_isinstance (by decide +kernel) (pa_cons (pv 0) (pa_cons (pe_bltn (v := .ty "tuple") (u := .type "tuple") (by rfl) T.b_tuple (by decide +kernel) rfl) pa_nil))))) (pw_or1 (pt_cmpR op_eq (pe_callB cq_len (by rfl) T.b_len (by decide +kernel) (pa_cons (pv 0) pa_nil)) pe_int (nomark _)))))
  (pss_one (ps_ret pe_bl))
  pss_nil)
  (pss_cons (ps_set (i := 1) sc_stands_alone.nd rfl (Or.inl rfl) (pe_ix ix_tup (pv 0) pe_int (fun _ _ => rfl)))
  (pss_cons (ps_if (PW.pt (pw_or (pt_not (pt_val (pe_callB call_isi (by rfl) T.b_isinstance (by decide +kernel) (pa_cons (pv 1) (pa_cons (pe_bltn (v := .ty "str") (u := .type "str") (by rfl) T.b_str (by decide +kernel) rfl) pa_nil))))) (pw_or (pt_cmpR (op_notIn_kd KD) (pv 1) (C8.pe_gc (by rfl) c_SIZES) rfl) (pw_or1 (pt_cmpR op_ne (pe_callB cq_len (by rfl) T.b_len (by decide +kernel) (pa_cons (pv 0) pa_nil)) (pe_ix ix_kdict (C8.pe_gc (by rfl) c_SIZES) (pv 1) (fun _ _ => rfl)) (nomark _))))))
  (pss_one (ps_ret pe_bl))
  pss_nil)
  (pss_one (ps_ret (pe_or (pe_cmpR op_notIn_seq (pv 1) (C8.pe_gc (by rfl) c_ATOMS) rfl) (pe_one (pe_ca c_is_atom hr (by decide) (by rfl) (pa_cons (pv 1) (pa_cons (pe_ix ix_tup (pv 0) pe_int (fun _ _ => rfl)) pa_nil)))))))))), ?_⟩
    cases fa with
    | @atm p k t ep =>
      have hk : atK k = true := Fm.ok_kin ok
      obtain ⟨tk, ek⟩ := z1 k hk
      walk_at "go3"
      refine g_isi (.ty _) (.base (.tup ep)) (kit_ty (b := "tuple") (r := true) (by decide +kernel)) ?_
      walk_at "go3"
      refine iteD (fun h => absurd (V.int.inj h) (by simp)) (fun _ => ?_)
      walk_at "go3"
      refine g_isi (.ty _) (.base (.str _)) (kit_ty (b := "str") (r := true) (by decide +kernel)) ?_
      walk_at "go3"
      refine ⟨k, _, rfl, rfl, ek, ?_⟩
      refine ⟨_, rfl, ?_⟩
      refine iteF ?_
      walk_at "go3"
      refine ⟨aS, k, .int 2, rfl, rfl, ⟨es, nS, _, KD.at_, KD.lit, ek, ⟨tk, rfl⟩⟩, ?_⟩
      walk_at "go3"
      refine iteND (fun h => absurd rfl h) (fun _ => ?_)
      walk_at "go3"
      refine g_ninT (tA _) rfl rfl ?_
      rw [inV_atoms, hk]
      walk_at "go3"
      have hs : t.length ≤ 8 := Fm.ok_small ok
      refine ⟨k, t, rfl, by omega, fun H1 s1 => ?_⟩
      rw [atom_okB ok]
      exact q H1 s1
    | @un p k v1 b1 ep hb1 =>
      have hk : unK k = true := by
        simp only [Fm.ok, Bool.and_eq_true] at ok
        exact ok.1
      obtain ⟨tk, ek⟩ := z2 k hk
      walk_at "go3"
      refine g_isi (.ty _) (.base (.tup ep)) (kit_ty (b := "tuple") (r := true) (by decide +kernel)) ?_
      walk_at "go3"
      refine iteD (fun h => absurd (V.int.inj h) (by simp)) (fun _ => ?_)
      walk_at "go3"
      refine g_isi (.ty _) (.base (.str _)) (kit_ty (b := "str") (r := true) (by decide +kernel)) ?_
      walk_at "go3"
      refine ⟨k, _, rfl, rfl, ek, ?_⟩
      refine ⟨_, rfl, ?_⟩
      refine iteF ?_
      walk_at "go3"
      refine ⟨aS, k, .int 2, rfl, rfl, ⟨es, nS, _, KD.at_, KD.lit, ek, ⟨tk, rfl⟩⟩, ?_⟩
      walk_at "go3"
      refine iteND (fun h => absurd rfl h) (fun _ => ?_)
      walk_at "go3"
      refine g_ninT (tA _) rfl rfl ?_
      rw [inV_atoms, unK_at hk]
      walk_at "go3"
      exact q H (Same.refl _)
    | @bi p k v1 v2 b1 b2 ep hb1 hb2 =>
      have hk : biK k = true := by
        simp only [Fm.ok, Bool.and_eq_true] at ok
        exact ok.1
      obtain ⟨tk, ek⟩ := z3 k hk
      walk_at "go3"
      refine g_isi (.ty _) (.base (.tup ep)) (kit_ty (b := "tuple") (r := true) (by decide +kernel)) ?_
      walk_at "go3"
      refine iteD (fun h => absurd (V.int.inj h) (by simp)) (fun _ => ?_)
      walk_at "go3"
      refine g_isi (.ty _) (.base (.str _)) (kit_ty (b := "str") (r := true) (by decide +kernel)) ?_
      walk_at "go3"
      refine ⟨k, _, rfl, rfl, ek, ?_⟩
      refine ⟨_, rfl, ?_⟩
      refine iteF ?_
      walk_at "go3"
      refine ⟨aS, k, .int 3, rfl, rfl, ⟨es, nS, _, KD.at_, KD.lit, ek, ⟨tk, rfl⟩⟩, ?_⟩
      walk_at "go3"
      refine iteND (fun h => absurd rfl h) (fun _ => ?_)
      walk_at "go3"
      refine g_ninT (tA _) rfl rfl ?_
      rw [inV_atoms, biK_at hk]
      walk_at "go3"
      exact q H (Same.refl _)
end
/-! what stands on the stack: a part, and whether it is looked at behind its inner ones -/
def EnAt (H : Hp) (d : Nat) (v : V) (y : Fm × Bool) : Prop := ∃ (p q : Addr) (xs : List V) (u : V), v = .ref p ∧ H p = some (.tup [.ref q, u, .bl y.2]) ∧ H q = some (.tup xs) ∧ xs.length + y.1.dep ≤ d ∧ FmAt H u y.1 ∧ y.1.ok = true ∧ (y.2 = true → ∃ a b, y.1 = .bi kLock a b)
theorem EnAt.tps {H H' : Hp} {d : Nat} {v : V} {y : Fm × Bool} (t : Tps H H') (h : EnAt H d v y) : EnAt H' d v y := by
  obtain ⟨p, q, xs, u, rfl, e1, e2, hl, f, ok, hb⟩ := h
  exact ⟨p, q, xs, u, rfl, t _ _ e1, t _ _ e2, hl, f.tps t, ok, hb⟩
def enW (y : Fm × Bool) : Nat := if y.2 = true then 1 else 2 * y.1.size
theorem enW_pos (y : Fm × Bool) : 0 < enW y := by
  unfold enW
  have := Fm.size_pos y.1
  split <;> omega
def enS (st : List (V × (Fm × Bool))) : Nat := (st.map fun x => enW x.2).sum
theorem enS_len : ∀ r : List (V × (Fm × Bool)), r.length ≤ enS r
  | [] => Nat.le_refl _
  | x :: r => by
    have ih := enS_len r
    have h := enW_pos x.2
    show r.length + 1 ≤ enW x.2 + enS r
    omega
def FfW (H0 : Hp) (v : V) (d M : Nat) (pl : Addr) (m : Nat) : L2.St → Hp → Prop := fun σ H => ∃ (st : List (V × (Fm × Bool))) (x2 x3 x4 x5 : Option V), σ = [some v, some (.ref pl), x2, x3, x4, x5] ∧ Same H0 H ∧
  H pl = some (.lst (st.map (·.1)).reverse) ∧ (∀ y ∈ st, EnAt H d y.1 y.2) ∧ m = enS st ∧ m ≤ M
def rFor3 (g : TG) (tb : TS) (D : Ends) (σ : L2.St) (vs : List V) (H : Hp) : Prop := ∃ (i j c : Int) (n : Nat), vs = [.int i, .int j, .int c] ∧ RgC i j c n ∧ ∃ W : Nat → Nat → L2.St → Hp → Prop, (∃ m, W 0 m σ H) ∧ ∀ k m σ H, W k m σ H →
  ((Itc i c n).stop k H ∧ D.nx σ H) ∨ ((Itc i c n).go k H ∧ ∃ N : L2.St → Hp → Prop, (∀ σ' H', N σ' H' → ∃ m', m' < m ∧ W (k + 1) m' σ' H') ∧ ∀ x H', (Itc i c n).yld k H x H' → g x σ H' fun σ2 H2 => tb { D with nx := N, ct := N, bk := D.nx } σ2 H2)
theorem g_for3 {tl : TA} {g : TG} {tb : TS} {D : Ends} {σ : L2.St} {H : Hp} (k : tl σ H fun vs H1 => rFor3 g tb D σ vs H1) : tFor (iRng3 tl) g tb D σ H := k
/-- for j in range(m, 0, -1) -/
theorem r_for3 {j : Nat} {tb : TS} {D : Ends} {σ : L2.St} {m : Nat} {H : Hp} (hm : m < 1000000) (Pv : Nat → L2.St → Hp → Prop) (h0 : Pv 0 σ H)
    (hs : ∀ (i : Nat) σ' H', i < m → Pv i σ' H' → tb { D with nx := Pv (i + 1), ct := Pv (i + 1), bk := D.nx } (σ'.set j (some (.int ((m - i : Nat) : Int)))) H') (hd : ∀ σ' H', Pv m σ' H' → D.nx σ' H') : rFor3 (gName j) tb D σ [.int (m : Int), .int 0, .int (-1)] H :=
  ⟨m, 0, -1, m, rfl, by
    have h := RgC.neg (i := (m : Int)) (j := 0) (by omega) (by omega) (by omega) (by omega)
    rw [show ((m : Int) - 0).toNat = m by omega] at h
    exact h, for_rangeC (lo := (m : Int)) (c := -1) (n := m) Pv h0 (fun i σ' H' hi p => by
    have r := hs i σ' H' hi p
    rw [show ((m : Int) + (i : Nat) * -1) = ((m - i : Nat) : Int) by omega]
    exact r) hd⟩
theorem sumS_len : ∀ ks : List (V × Fm), ks.length ≤ sumS ks
  | [] => Nat.le_refl _
  | y :: r => by
    have ih := sumS_len r
    have := Fm.size_pos y.2
    show r.length + 1 ≤ y.2.size + sumS r
    omega
theorem sum_drop {ks : List (V × Fm)} {i j : Nat} {y : V × Fm} (h : ks[i]? = some y) (e : j = i + 1) : sumS (ks.drop i) = y.2.size + sumS (ks.drop j) := by
  obtain ⟨hl, rfl⟩ := List.getElem?_eq_some_iff.mp h
  rw [e, List.drop_eq_getElem_cons hl]
  rfl
theorem sumS_drop (ks : List (V × Fm)) (i : Nat) : sumS (ks.drop i) ≤ sumS ks := by
  have e := congrArg List.sum (List.take_append_drop i (ks.map fun y => y.2.size))
  rw [List.sum_append] at e
  unfold sumS
  rw [List.map_drop]
  omega
theorem Fm.dep_size : ∀ a : Fm, a.dep ≤ a.size
  | .atm _ _ => Nat.zero_le _
  | .un _ a => by
    have := Fm.dep_size a
    show a.dep + 1 ≤ a.size + 1
    omega
  | .bi _ a b => by
    have := Fm.dep_size a
    have := Fm.dep_size b
    show max a.dep b.dep + 1 ≤ a.size + b.size + 1
    omega
theorem lock_of {H : Hp} {p : Addr} {b : Fm} {ks : List (V × Fm)} (h : H p = some (.tup (.str kLock :: ks.map (·.1)))) (f : FmAt H (.ref p) b) (ok : b.ok = true) : ∃ x y, b = .bi kLock x y := by
  cases f with
  | @atm _ k t e =>
    rw [h] at e
    injection e with e
    injection e with e
    injection e with e1 e2
    have hk : atK k = true := Fm.ok_kin ok
    rw [← V.str.inj e1] at hk
    exact absurd hk (by decide +kernel)
  | @un _ k v1 b1 e g =>
    rw [h] at e
    injection e with e
    injection e with e
    injection e with e1 e2
    simp only [Fm.ok, Bool.and_eq_true] at ok
    have hk := ok.1
    rw [← V.str.inj e1] at hk
    exact absurd hk (by decide +kernel)
  | @bi _ k v1 v2 b1 b2 e g1 g2 =>
    rw [h] at e
    injection e with e
    injection e with e
    injection e with e1 e2
    rw [← V.str.inj e1]
    exact ⟨b1, b2, rfl⟩
theorem g_catA {K : PySem.W.Frag} {H : Hp} {Q : VK} {a b : Addr} {xs ys : List V} (ha : H a = some (.tup xs)) (hb : H b = some (.tup ys)) (hy : ys ≠ []) (hl : xs.length + ys.length ≤ sizeLine) (k : ∀ p zs H', Same H H' → H' p = some (.tup zs) → zs.length = xs.length + ys.length → Q (.ref p) H') : rCatA K (.ref a) (.ref b) H Q :=
  ⟨a, b, xs, ys, rfl, rfl, SqT.of ha, SqT.of hb, hl, fun e => k b ys H (Same.refl _) hb (by rw [e]; simp), fun _ e => absurd e hy, fun _ _ p hp => k p (xs ++ ys) _ (Same.upd hp) upd_same (List.length_append)⟩
theorem ix_kid {k : Str} {ks : List (V × Fm)} {i : Nat} {y : V × Fm} (h : ks[i]? = some y) : atI (V.str k :: ks.map (·.1)) ((i + 1 : Nat) : Int) = some y.1 := by
  refine at_of (j := i + 1) rfl ?_
  rw [List.getElem?_cons_succ, List.getElem?_map, h]
  rfl
section
variable {P : Program} {w : World} {K : PySem.W.Frag} {mg : Str → Option Value} {base : Heap}
theorem ca_fault (T : Bl K mg) (D : Df K mg "first_fault" s_first_fault p_first_fault) (c_stands_alone : Ca P w K mg base 4 "stands_alone" spStands) : Ca P w K mg base 5 "first_fault" spFault := by
  obtain ⟨aA, hA, tA⟩ := T.t_ATOMS
  have c_ATOMS : ∃ u, mg "ATOMS" = some u ∧ RelV (.ref aA) u := ⟨_, hA, rfl⟩
  obtain ⟨aK, hK, tK⟩ := T.t_KEYS
  have c_KEYS : ∃ u, mg "KEYS" = some u ∧ RelV (.ref aK) u := ⟨_, hK, rfl⟩
  refine ca_n D sc_first_fault (fun vs H Q E h => ?_) (fun f cdv A outer s H vs Q E hr h => ?_)
  · obtain ⟨v, a, rfl, _⟩ := h
    rfl
  · obtain ⟨v, a, rfl, fa, ok, hz, q⟩ := h
    refine ⟨_, (pss_cons (ps_set (i := 1) sc_first_fault.nd rfl (Or.inl rfl) (pe_lst (pa_cons (pe_tup (pa_cons (pe_tup pa_nil) (pa_cons (pv 0) (pa_cons pe_bl pa_nil)))) pa_nil)))
  (pss_cons (ps_while PassesOwn.never (pq_truth (pv 1) (by intro _; rfl))
  (pss_cons (ps_asg (pe_bm0 PySem.F.plainAttrs_list PySem.F.slot_list_pop PySem.F.type_list_pop mt_pop (pv 1)) (pg_tup rfl (pgs_cons (pg_name (i := 2) sc_first_fault.nd rfl (Or.inl rfl)) (pgs_cons (pg_name (i := 3) sc_first_fault.nd rfl (Or.inl rfl)) (pgs_cons (pg_name (i := 4) sc_first_fault.nd rfl (Or.inl rfl)) pgs_nil)))))
  (pss_cons (ps_if (pt_val (pv 4))
  (pss_cons (ps_if (pt_cmpR op_notIn_seq (pe_ix ix_tup (pe_ix ix_tup (pv 3) pe_int (fun _ _ => rfl)) pe_int (fun _ _ => rfl)) (C8.pe_gc (by rfl) c_KEYS) rfl)
  (pss_one (ps_ret (pv 2)))
  pss_nil)
  (pss_one ps_continue))
  pss_nil)
  (pss_cons (ps_if (pt_not (pt_val (pe_ca c_stands_alone hr (by decide) (by rfl) (pa_cons (pv 3) pa_nil))))
  (pss_one (ps_ret (pv 2)))
  pss_nil)
  (pss_cons (ps_if (pt_cmpR op_in_seq (pe_ix ix_tup (pv 3) pe_int (fun _ _ => rfl)) (C8.pe_gc (by rfl) c_ATOMS) rfl)
  (pss_one ps_continue)
  pss_nil)
  (C8.pss_cut (ps_if (pt_cmpR op_eq (pe_ix ix_tup (pv 3) pe_int (fun _ _ => rfl)) pe_str (nomark _))
  (pss_one (ps_expr (pe_bm PySem.F.plainAttrs_list PySem.F.slot_list_append PySem.F.type_list_append mt_append (pv 1) (pa_cons (pe_tup (pa_cons (pv 2) (pa_cons (pv 3) (pa_cons pe_bl pa_nil)))) pa_nil))))
  pss_nil)
  (pss_one (ps_for PassesOwn.never rfl (pi_range3 rfl T.b_range (pa_cons (pe_op op_sub (pe_callB cq_len (by rfl) T.b_len (by decide +kernel) (pa_cons (pv 3) pa_nil)) pe_int) (pa_cons pe_int (pa_cons (pe_un un_neg pe_int) pa_nil)))) (pg_name (i := 5) sc_first_fault.nd rfl (Or.inl rfl))
  (pss_one (ps_expr (pe_bm PySem.F.plainAttrs_list PySem.F.slot_list_append PySem.F.type_list_append mt_append (pv 1) (pa_cons (pe_tup (pa_cons (pe_op op_catA (pv 2) (pe_tup (pa_cons (pv 5) pa_nil))) (pa_cons (pe_ix ix_tup (pv 3) (pv 5) (fun _ _ => rfl)) (pa_cons pe_bl pa_nil)))) pa_nil))))))))))))
  (pss_one (ps_ret pe_non)))), ?_⟩
    walk_at "go3"
    refine ⟨by show 0 ≤ sizeLine; decide, fun p0 hp0 => ?_⟩
    walk_at "go3"
    refine ⟨by show 3 ≤ sizeLine; decide, fun p1 hp1 => ?_⟩
    walk_at "go3"
    refine ⟨by show 1 ≤ sizeLine; decide, fun pl hpl => ?_⟩
    have s1 : Same H (upd H p0 (.tup [])) := Same.upd hp0
    have e0 : upd H p0 (.tup []) p0 = some (.tup []) := upd_same
    generalize upd H p0 (.tup []) = H1 at s1 e0 hp1 hpl ⊢
    have s2 : Same H1 (upd H1 p1 (.tup [.ref p0, v, .bl false])) := Same.upd hp1
    have e1 : upd H1 p1 (.tup [.ref p0, v, .bl false]) p1 = some (.tup [.ref p0, v, .bl false]) := upd_same
    generalize upd H1 p1 (.tup [.ref p0, v, .bl false]) = H2 at s2 e1 hpl ⊢
    have hplH : H pl = none := Same.non (s1.trans s2) hpl
    have s3 : Same H2 (upd H2 pl (.lst [.ref p1])) := Same.upd hpl
    walk_at "go3"
    refine g_while (FfW H v a.dep (2 * a.size) pl) (2 * a.size) ⟨[(.ref p1, (a, false))], none, none, none, none, rfl, (s1.trans s2).trans s3, upd_same, fun y hy => ?_, by simp [enS, enW], Nat.le_refl _⟩ ?_
    · rw [List.mem_singleton.mp hy]
      exact ⟨p1, p0, [], v, rfl, s3 _ _ e1, s3 _ _ (s2 _ _ e0), by show 0 + a.dep ≤ a.dep; omega, ((fa.same s1).same s2).same s3, ok, fun z => nomatch z⟩
    clear s3 e1 e0 s2 s1 hpl hp1
    rintro m σ' H3 ⟨st, x2, x3, x4, x5, rfl, sH, ef, hst, hm, hM⟩
    walk_at "go3"
    refine g_truL (SqL.of ef) ?_
    cases st with
    | nil =>
      refine iteF ?_
      walk_at "go3"
      exact q _ sH
    | cons hd r =>
      obtain ⟨u, y⟩ := hd
      obtain ⟨p, q', xs, u1, rfl, e1, e2, hl, f1, ok1, hb1⟩ := hst (u, y) (List.mem_cons_self ..)
      have hr3 : ∀ y ∈ r, EnAt H3 a.dep y.1 y.2 := fun y hy => hst y (List.mem_cons_of_mem _ hy)
      have hmr : enW y + enS r = m := hm.symm
      have hlr := enS_len r
      have eT : (!(List.map (fun x => x.fst) ((V.ref p, y) :: r)).reverse.isEmpty) = true := by simp
      rw [eT]
      refine iteT ⟨_, fun _ _ n => n, ?_⟩
      walk_at "go3"
      refine g_pop (xs := (r.map (·.1)).reverse) (by rw [ef, List.map_cons, List.reverse_cons]) ?_
      have t1 : Tps H3 (upd H3 pl (.lst (r.map (·.1)).reverse)) := Tps.lst ef
      have e1' := t1 _ _ e1
      have e2' := t1 _ _ e2
      have f1' := f1.tps t1
      have hr4 : ∀ y ∈ r, EnAt (upd H3 pl (.lst (r.map (·.1)).reverse)) a.dep y.1 y.2 := fun y hy => (hr3 y hy).tps t1
      have sH4 : Same H (upd H3 pl (.lst (r.map (·.1)).reverse)) := Same.mut sH hplH
      have ef4 : upd H3 pl (.lst (r.map (·.1)).reverse) pl = some (.lst (r.map (·.1)).reverse) := upd_same
      generalize upd H3 pl (.lst (r.map (·.1)).reverse) = H4 at e1' e2' f1' hr4 sH4 ef4 ⊢
      clear t1 hr3 f1 e1 e2 ef sH hst eT hm
      refine ⟨_, _, rfl, SqT.of e1', rfl, _, _, rfl, ?_⟩
      refine g_name ?_
      refine ⟨_, _, rfl, ?_⟩
      refine g_name ?_
      refine ⟨_, _, rfl, ?_⟩
      refine g_name ?_
      refine ⟨rfl, ?_⟩
      obtain ⟨b, fl⟩ := y
      cases fl with
      | true =>
        obtain ⟨b1, b2, hb⟩ := hb1 rfl
        have hb' : b = .bi kLock b1 b2 := hb
        subst hb'
        have f1'' : FmAt H4 u1 (.bi kLock b1 b2) := f1'
        cases f1'' with
        | @bi pp _ v1 v2 _ _ ep fb1 fb2 =>
          have okk : b2.isKey = true ∧ b2.ok = true := by
            have z : (Fm.bi kLock b1 b2).ok = true := ok1
            simp only [Fm.ok, Bool.and_eq_true, Bool.or_eq_true] at z
            refine ⟨?_, z.2.2.2⟩
            rcases z.2.1 with z | z
            · exact absurd z (by decide +kernel)
            · exact z
          obtain ⟨pk, xk, rfl, ek⟩ := head_at fb2
          walk_at "go3"
          refine g_ixT (v := .str b2.head) (SqT.of ek) at0 ?_
          walk_at "go3"
          refine g_ninT (tK _) rfl rfl ?_
          rw [inV_keys, key_head (Fm.ok_kin okk.2), okk.1]
          walk_at "go3"
          exact ⟨enS r, by have : enW (Fm.bi kLock b1 b2, true) = 1 := rfl; omega, r, _, _, _, _, rfl, sH4, ef4, hr4, rfl, by omega⟩
      | false =>
        walk_at "go3"
        refine ⟨u1, b, rfl, f1', ok1, fun H5 s5 => ?_⟩
        have f5 : FmAt H5 u1 b := f1'.same s5
        have ok2 : b.ok = true := ok1
        have hl2 : xs.length + b.dep ≤ a.dep := hl
        clear hl
        have e25 := s5 _ _ e2'
        have ef5 := s5 _ _ ef4
        have hr5 : ∀ y ∈ r, EnAt H5 a.dep y.1 y.2 := fun y hy => (hr4 y hy).tps (Tps.same s5)
        have sH5 := sH4.trans s5
        clear f1' e2' ef4 hr4 sH4 s5
        have hwb : 2 * b.size + enS r = m := hmr
        have hbp := Fm.size_pos b
        rcases kids_of f5 ok2 with ⟨pa, k, t, rfl, rfl, ea, hk⟩ | ⟨pa, k, ks, rfl, ea, hk, hks, hsum⟩
        · walk_at "go3"
          refine g_inT (tA _) rfl rfl ?_
          rw [inV_atoms, hk]
          walk_at "go3"
          exact ⟨enS r, by omega, r, _, _, _, _, rfl, sH5, ef5, hr5, rfl, by omega⟩
        · walk_at "go3"
          refine g_ixT (v := .str k) (SqT.of ea) at0 ?_
          walk_at "go3"
          refine g_inT (tA _) rfl rfl ?_
          rw [inV_atoms, hk]
          walk_at "go3"
          have hkl : ks.length ≤ sumS ks := sumS_len ks
          have hbz := hwb
          refine ⟨fun σ' H' => ∃ (st : List (V × (Fm × Bool))), σ' = [some v, some (.ref pl), some (.ref q'), some (.ref pa), some (.bl false), x5] ∧ Same H H' ∧ Tps H5 H' ∧ H' pl = some (.lst (st.map (·.1)).reverse) ∧ (∀ y ∈ st, EnAt H' a.dep y.1 y.2) ∧ enS st ≤ enS r + 1, ?_, ?_⟩
          · walk_at "go3"
            refine g_ixT (v := .str k) (SqT.of ea) at0 ?_
            walk_at "go3"
            refine iteD (fun e => ?_) (fun _ => ?_)
            · have e' : k = kLock := V.str.inj e
              walk_at "go3"
              refine ⟨by show 3 ≤ sizeLine; decide, fun p3 hp3 => ?_⟩
              have s6 : Same H5 (upd H5 p3 (.tup [.ref q', .ref pa, .bl true])) := Same.upd hp3
              have e6 : upd H5 p3 (.tup [.ref q', .ref pa, .bl true]) p3 = some (.tup [.ref q', .ref pa, .bl true]) := upd_same
              generalize upd H5 p3 (.tup [.ref q', .ref pa, .bl true]) = H6 at s6 e6 ⊢
              have ef6 := s6 _ _ ef5
              walk_at "go3"
              refine g_app ef6 (by rw [List.length_reverse, List.length_map, sizeLine_eq]; omega) ?_
              have t7 : Tps H6 (upd H6 pl (.lst ((r.map (·.1)).reverse ++ [.ref p3]))) := Tps.lst ef6
              refine ⟨(.ref p3, (b, true)) :: r, rfl, Same.mut (sH5.trans s6) hplH, (Tps.same s6).trans t7, by rw [upd_same, List.map_cons, List.reverse_cons], fun y hy => ?_, by show 1 + enS r ≤ _; omega⟩
              rcases List.mem_cons.mp hy with rfl | hy
              · have f7 := (f5.same s6).tps t7
                refine ⟨p3, q', xs, .ref pa, rfl, t7 _ _ e6, t7 _ _ (s6 _ _ e25), hl2, f7, ok2, fun _ => ?_⟩
                rw [e'] at ea
                exact lock_of ea f5 ok2
              · exact ((hr5 y hy).tps (Tps.same s6)).tps t7
            · exact ⟨r, rfl, sH5, fun _ _ z => z, ef5, hr5, Nat.le_succ _⟩
          · rintro σ6 H6 ⟨st6, rfl, sH6, t6, ef6, hr6, hw6⟩
            have ea6 := t6 _ _ ea
            have e26 := t6 _ _ e25
            have hks6 : ∀ y ∈ ks, FmAt H6 y.1 y.2 := fun y hy => (hks y hy).1.tps t6
            clear t6 ef5 hr5 e25 ea
            refine g_for3 ?_
            walk_at "go3"
            rw [show (((V.str k :: ks.map (·.1)).length : Int) - 1) = ((ks.length : Nat) : Int) by rw [List.length_cons, List.length_map]; omega]
            refine r_for3 (by omega) (fun i σ' H' => ∃ (st : List (V × (Fm × Bool))) (w5 : Option V), σ' = [some v, some (.ref pl), some (.ref q'), some (.ref pa), some (.bl false), w5] ∧ Same H H' ∧ Tps H6 H' ∧ H' pl = some (.lst (st.map (·.1)).reverse) ∧ (∀ y ∈ st, EnAt H' a.dep y.1 y.2) ∧ enS st ≤ enS r + 1 + 2 * sumS (ks.drop (ks.length - i)))
              ⟨st6, x5, rfl, sH6, fun _ _ z => z, ef6, hr6, by omega⟩ (fun i σ' H7 hi p7 => ?_) (fun σ' H7 p7 => ?_)
            · obtain ⟨st, w5, rfl, sH7, t7, ef7, hr7, hw7⟩ := p7
              obtain ⟨y, hy⟩ : ∃ y, ks[ks.length - i - 1]? = some y := ⟨_, List.getElem?_eq_getElem (by omega)⟩
              have hm7 : y ∈ ks := List.mem_of_getElem? hy
              have hdr := sum_drop hy (show ks.length - i = (ks.length - i - 1) + 1 by omega)
              have hsd := sumS_drop ks (ks.length - (i + 1))
              have hlr7 := enS_len st
              rw [show ks.length - (i + 1) = ks.length - i - 1 by omega] at hsd
              have ea7 := t7 _ _ ea6
              have e27 := t7 _ _ e26
              have fy := (hks6 y hm7).tps t7
              walk_at "go3"
              refine ⟨by show 1 ≤ sizeLine; decide, fun p8 hp8 => ?_⟩
              have s8 : Same H7 (upd H7 p8 (.tup [.int ((ks.length - i : Nat) : Int)])) := Same.upd hp8
              have e8 : upd H7 p8 (.tup [.int ((ks.length - i : Nat) : Int)]) p8 = some (.tup [.int ((ks.length - i : Nat) : Int)]) := upd_same
              generalize upd H7 p8 (.tup [.int ((ks.length - i : Nat) : Int)]) = H8 at s8 e8 ⊢
              have hdy := (hks y hm7).2.2
              have hda : a.dep < 1000000 := by have := Fm.dep_size a; omega
              refine g_catA (s8 _ _ e27) e8 (by simp) (by show xs.length + 1 ≤ _; rw [sizeLine_eq]; omega) fun p9 zs H9 s9 e9 hzs => ?_
              walk_at "go3"
              have ea9 := s9 _ _ (s8 _ _ ea7)
              rw [show ks.length - i = (ks.length - i - 1) + 1 by omega]
              refine g_ixT (v := y.1) (SqT.of ea9) (ix_kid hy) ?_
              walk_at "go3"
              refine ⟨by show 3 ≤ sizeLine; decide, fun p10 hp10 => ?_⟩
              have s10 : Same H9 (upd H9 p10 (.tup [.ref p9, y.1, .bl false])) := Same.upd hp10
              have e10 : upd H9 p10 (.tup [.ref p9, y.1, .bl false]) p10 = some (.tup [.ref p9, y.1, .bl false]) := upd_same
              generalize upd H9 p10 (.tup [.ref p9, y.1, .bl false]) = H10 at s10 e10 ⊢
              have sT := s8.trans (s9.trans s10)
              have ef10 := sT _ _ ef7
              walk_at "go3"
              refine g_app ef10 (by rw [List.length_reverse, List.length_map, sizeLine_eq]; omega) ?_
              have t11 : Tps H10 (upd H10 pl (.lst ((st.map (·.1)).reverse ++ [.ref p10]))) := Tps.lst ef10
              refine ⟨(.ref p10, (y.2, false)) :: st, _, rfl, Same.mut (sH7.trans sT) hplH, t7.trans ((Tps.same sT).trans t11), by rw [upd_same, List.map_cons, List.reverse_cons], fun z hz => ?_, ?_⟩
              · rcases List.mem_cons.mp hz with rfl | hz
                · exact ⟨p10, p9, zs, y.1, rfl, t11 _ _ e10, t11 _ _ (s10 _ _ e9), by rw [hzs]; show xs.length + 1 + y.2.dep ≤ _; omega, (fy.same sT).tps t11, (hks y hm7).2.1, fun z => nomatch z⟩
                · exact ((hr7 z hz).tps (Tps.same sT)).tps t11
              · show 2 * y.2.size + enS st ≤ _
                rw [show ks.length - (i + 1) = ks.length - i - 1 by omega]
                omega
            · obtain ⟨st, w5, rfl, sH7, t7, ef7, hr7, hw7⟩ := p7
              have hs7 : sumS (ks.drop (ks.length - ks.length)) = sumS ks := by rw [Nat.sub_self]; rfl
              exact ⟨enS st, by omega, st, _, _, _, _, rfl, sH7, ef7, hr7, rfl, by omega⟩
end
end Op

namespace Op
open PySem PySem.Spec PyProof.Rows L2 SX OpC
/-! ## a staticmethod called on its class -/
/-- m, a staticmethod of the class at C: its record at p, its def at f -/
structure Sm (P : Program) (w : World) (K : PySem.W.Frag) (mg : Str → Option Value) (base : Heap) (k : Nat) (C : Addr) (m : Str) (sp : Sp) : Prop where
  ex : ∃ (f p : Addr) (fd : FuncData) (ps : List Str) (rest : List Value), FnOk P w K mg base (L2.CX P w) k f fd ps sp ∧ ClX.CRead K C (.type "type") ∧ PySem.W.findCls K (.ref C) (.type "type") m = some (.get (.builtin "staticmethod.__get__") (.ref p) .none (.ref C)) ∧
    PySem.W.recIn K p "staticmethod" = some (.ref f :: rest) ∧ PySem.W.keepIn K (.ref f) = true ∧ Binds K fd ps []
def rSm (C : Addr) (sp : Sp) (E : XK) (t : TA) (σ : L2.St) (x : V) (H1 : Hp) (Q : VK) : Prop := x = .ref C ∧ t σ H1 fun vs H2 => sp vs H2 Q E
def tSm (C : Addr) (sp : Sp) (E : XK) (ta : TE) (t : TA) : TE := fun σ H Q => ta σ H fun x H1 => rSm C sp E t σ x H1 Q
section
variable {X : Cx} {k j : Nat} {C : Addr} {m : Str} {sp : Sp} {E : XK} {pos apos : Pos} {e o : Expr} {es : List Expr} {ta : TE} {t : TA}
theorem pe_sm {pl : Sem Bool} (c : Sm X.prog X.w X.K X.mg X.base k C m sp) (hr : Room j X.A) (hk : k ≤ j) (hx : ∀ σ : L2.St, σ.length = X.N.length → PassesAt (L2.CX X.prog X.w) X σ E) (he : PE X o ta) (ha : PA X (e :: es) t)
    (hs1 : starEach (e :: es) X.env = (false, eval e X.env) :: starEach es X.env := by rfl) (hp1 : (backTo pos (starEach es X.env)).any (·.1) = false := by rfl)
    (ht : eval (.Call (.Attribute o m apos) (e :: es) [] pos) X.env = (do
      let ov ← eval o X.env
      standAt apos.atName
      let (g, first) ← holding [ov] (getMethod ov m pl)
      callWith pos g first (backTo pos (starEach (e :: es) X.env)) (backToKw pos (keywordEach [] X.env))) := by rfl) :
    PE X (.Call (.Attribute o m apos) (e :: es) [] pos) (tSm C sp E ta t) := by
  obtain ⟨f, p, fd, ps, rest, F, r, at_, rc, kp, bd⟩ := c.ex
  refine ⟨fun pins s σ H Q I h => ?_⟩
  refine PySem.W.methodCall_KW (pl := pl) (thn (he.run pins s σ H _ I h) fun u s1 ⟨x, H1, I1, rx, ex, q⟩ => ?_) ht
  subst ex
  obtain rfl : u = Value.ref C := rx
  refine PySem.W.method_cls I1.kIn r.ga ?_
  refine PySem.W.cls_bind I1.kIn r.rd at_ ?_
  refine wpAny_call (PySem.W.sm_get (s := { s1 with toks := s1.toks + 1 }) I1.kIn rc (PySem.W.handed_on rfl ?_))
  have I2 : Inv X pins σ H1 { s1 with toks := s1.toks + 1 } := I1.tok _
  refine PySem.W.callWith_K (h₀ := X.base) I.ok.mod.kin kp ?_ hs1 hp1
  refine thn (ha.run pos pins _ σ H1 _ I2 q) fun us s3 ⟨vs, H2, I3, rv, q2⟩ => ⟨I3.kIn, ?_⟩
  exact run_fnS (E := fun _ => E) F (hr.mono hk) bd (hx σ I3.len) I3 rv q2
end
theorem g_sm {C : Addr} {sp : Sp} {E : XK} {ta : TE} {t : TA} {σ : L2.St} {H : Hp} {Q : VK} (k : ta σ H fun x H1 => rSm C sp E t σ x H1 Q) : tSm C sp E ta t σ H Q := k
theorem g_rsm {C : Addr} {sp : Sp} {E : XK} {t : TA} {σ : L2.St} {H : Hp} {Q : VK} (k : t σ H fun vs H2 => sp vs H2 Q E) : rSm C sp E t σ (.ref C) H Q := ⟨rfl, k⟩
/-! ## an own == against what is of no own class -/
/-- what is no letter: its type, of which the class knows nothing -/
def NoLet (K : PySem.W.Frag) (C : Addr) (H : Hp) (y : V) : Prop := ∃ T, TyB K H y T ∧ TyX K H y (.type T) ∧ PySem.W.subIn K (.type T) (.ref C) = some false ∧ PySem.W.kitOne K (.type T) (.ref C) = some false
theorem kit_other {K : PySem.W.Frag} {C : Addr} {T : String} (h1 : PySem.W.isClsIn K C = true) (h2 : PySem.W.typeIn K (.ref C) = some (.type "type")) (h3 : PySem.W.subIn K (.type T) (.ref C) = some false) : PySem.W.kitOne K (.type T) (.ref C) = some false := by
  unfold PySem.W.kitOne
  rw [if_neg (by simp)]
  show (if ((PySem.W.clsIn K C).isSome && PySem.W.typeIn K (.ref C) == some (.type "type")) = true then PySem.W.subIn K (.type T) (.ref C) else none) = _
  rw [show (PySem.W.clsIn K C).isSome = true from h1, h2, if_pos (by simp)]
  exact h3
/-- .. by the types -/
structure Nl (K : PySem.W.Frag) (C : Addr) : Prop where
  non : PySem.W.subIn K (.type "NoneType") (.ref C) = some false ∧ PySem.W.kitOne K (.type "NoneType") (.ref C) = some false
  int : PySem.W.subIn K (.type "int") (.ref C) = some false ∧ PySem.W.kitOne K (.type "int") (.ref C) = some false
  str : PySem.W.subIn K (.type "str") (.ref C) = some false ∧ PySem.W.kitOne K (.type "str") (.ref C) = some false
  tup : PySem.W.subIn K (.type "tuple") (.ref C) = some false ∧ PySem.W.kitOne K (.type "tuple") (.ref C) = some false
  lst : PySem.W.subIn K (.type "list") (.ref C) = some false ∧ PySem.W.kitOne K (.type "list") (.ref C) = some false
section
variable {K : PySem.W.Frag} {C : Addr} {H : Hp}
theorem Nl.ofNon (n : Nl K C) : NoLet K C H .non := ⟨_, .non, .base .non, n.non⟩
theorem Nl.ofInt (n : Nl K C) (i : Int) : NoLet K C H (.int i) := ⟨_, .int i, .base (.int i), n.int⟩
theorem Nl.ofStr (n : Nl K C) (x : Str) : NoLet K C H (.str x) := ⟨_, .str x, .base (.str x), n.str⟩
theorem Nl.ofTup (n : Nl K C) {p : Addr} {xs : List V} (h : H p = some (.tup xs)) : NoLet K C H (.ref p) := ⟨_, .tup (SqT.of h), .base (.tup h), n.tup⟩
theorem Nl.ofLst (n : Nl K C) {p : Addr} {xs : List V} (h : H p = some (.lst xs)) : NoLet K C H (.ref p) := ⟨_, .lst (SqL.of h), .base (.lst h), n.lst⟩
end
theorem looks_ty {M : Model} {s : Shared} {u : Value} {T : String} (h : s.TypeIs u T) : PySem.W.Looks M s.heap (typeOf u) (.type T) := by
  cases u with
  | ref a =>
    obtain ⟨o, h1, h2⟩ := h
    exact h2 ▸ (PySem.W.Looks.ld h1).andThen .now
  | _ => exact PySem.W.Looks.of_pure h
def rOwnA (K : PySem.W.Frag) (C : Addr) (sp : Sp) : R2 := fun x y H Q => (∃ a dx fs, x = .ref a ∧ H a = some (.ins C dx fs)) ∧ NoLet K C H y ∧ sp [x, y] H Q E0
section
variable {X : Cx} {k j : Nat} {C : Addr} {m : Str} {sp : Sp} {E : XK}
theorem cmp_ownA {K : PySem.W.Frag} {op : CmpOp} (hK : X.K = K) (hop : ∀ a b, compareOp op a b = richCompare op a b) (c : Cm X.prog X.w X.K X.mg X.base k C m sp) (hm : m = (cmpInfo op).2.1) (hr : Room j X.A) (hk : k ≤ j) : OpR X (compareOp op) (rOwnA K C sp) := by
  subst hK
  intro pins s σ H x y v u Q I rx ry h
  obtain ⟨⟨a, dx, fs, rfl, ha⟩, ⟨T, tb, _, e, _⟩, h⟩ := h
  obtain ⟨f, fd, ps, F, M, bd⟩ := c.ex
  obtain ⟨mA, O1, _⟩ := ins_get I.hok ha
  obtain ⟨od, J1, _⟩ := O1.look
  obtain ⟨mf, fr⟩ := I.fr
  have ht := TyB.is I ry tb
  cases rx
  subst hm
  rw [hop]
  refine PySem.W.cmp_K (op := op) (tb := .type T) hr.units0 fr I.ok.mod.kin J1 (looks_ty ht) (by unfold PySem.W.notFirst; rw [e]; simp) M.at_ M.fn ?_
  exact wpAny_mono (run_fnS (E := fun _ => E0) F (hr.mono hk) bd (passE0 σ) I (vs := [.ref a, y]) (.cons (rfl : L2.RelV (.ref a) (.ref a)) (.cons ry .nil)) h) (fun u s' q => back_of q) fun _ _ z => z
end
end Op

namespace Op
open PySem PySem.Spec PyProof.Rows L2 SX OpC
/-! ### lists of forms, of letters -/
inductive FsAt (H : Hp) : List V → List Fm → Prop where
  | nil : FsAt H [] []
  | cons {v : V} {vs : List V} {a : Fm} {as : List Fm} : FmAt H v a → FsAt H vs as → FsAt H (v :: vs) (a :: as)
inductive LsAt (CL : Addr) (H : Hp) : List V → List Fm → Prop where
  | nil : LsAt CL H [] []
  | cons {v : V} {vs : List V} {a : Fm} {as : List Fm} : LetAt CL H v a → LsAt CL H vs as → LsAt CL H (v :: vs) (a :: as)
theorem FsAt.tps {H H' : Hp} (t : Tps H H') : ∀ {vs : List V} {as : List Fm}, FsAt H vs as → FsAt H' vs as
  | _, _, .nil => .nil
  | _, _, .cons h r => .cons (h.tps t) (r.tps t)
theorem FsAt.same {H H' : Hp} {vs : List V} {as : List Fm} (h : FsAt H vs as) (s : Same H H') : FsAt H' vs as := h.tps (Tps.same s)
theorem LsAt.same {CL : Addr} {H H' : Hp} (s : Same H H') : ∀ {vs : List V} {as : List Fm}, LsAt CL H vs as → LsAt CL H' vs as
  | _, _, .nil => .nil
  | _, _, .cons h r => .cons (h.same s) (r.same s)
theorem FsAt.len {H : Hp} : ∀ {vs : List V} {as : List Fm}, FsAt H vs as → vs.length = as.length
  | _, _, .nil => rfl
  | _, _, .cons _ r => congrArg (· + 1) r.len
theorem LsAt.len {CL : Addr} {H : Hp} : ∀ {vs : List V} {as : List Fm}, LsAt CL H vs as → vs.length = as.length
  | _, _, .nil => rfl
  | _, _, .cons _ r => congrArg (· + 1) r.len
theorem FsAt.get {H : Hp} : ∀ {vs : List V} {as : List Fm}, FsAt H vs as → ∀ {i : Nat} {v : V}, vs[i]? = some v → ∃ a, as[i]? = some a ∧ FmAt H v a
  | _, _, .cons h r, 0, v, e => ⟨_, rfl, by rw [← Option.some.inj e]; exact h⟩
  | _, _, .cons h r, i + 1, v, e => r.get (i := i) e
theorem LsAt.get {CL : Addr} {H : Hp} : ∀ {vs : List V} {as : List Fm}, LsAt CL H vs as → ∀ {i : Nat} {v : V}, vs[i]? = some v → ∃ a, as[i]? = some a ∧ LetAt CL H v a
  | _, _, .cons h r, 0, v, e => ⟨_, rfl, by rw [← Option.some.inj e]; exact h⟩
  | _, _, .cons h r, i + 1, v, e => r.get (i := i) e
theorem FsAt.app {H : Hp} {v : V} {a : Fm} (h : FmAt H v a) : ∀ {vs : List V} {as : List Fm}, FsAt H vs as → FsAt H (vs ++ [v]) (as ++ [a])
  | _, _, .nil => .cons h .nil
  | _, _, .cons g r => .cons g (r.app h)
theorem FsAt.append {H : Hp} {ws : List V} {bs : List Fm} (h : FsAt H ws bs) : ∀ {vs : List V} {as : List Fm}, FsAt H vs as → FsAt H (vs ++ ws) (as ++ bs)
  | _, _, .nil => h
  | _, _, .cons g r => .cons g (FsAt.append h r)
theorem FsAt.dp {K : PySem.W.Frag} {H : Hp} : ∀ {vs : List V} {as : List Fm}, FsAt H vs as → DpAll K H vs (as.map Fm.data)
  | _, _, .nil => .nil
  | _, _, .cons h r => .cons (dp_fm h) r.dp
theorem fm_lay : ∀ {as : List Fm}, (∀ a ∈ as, a.ok = true ∧ a.dep ≤ 60) → (PyData.list (as.map Fm.data)).canLay0 = true ∧ (PyData.list (as.map Fm.data)).depth ≤ 62
  | [], _ => ⟨rfl, by show 0 + 1 ≤ 62; decide⟩
  | a :: as, h => by
    obtain ⟨h1, h2⟩ := fm_lay fun b hb => h b (List.mem_cons_of_mem _ hb)
    obtain ⟨o, d⟩ := h a (List.mem_cons_self ..)
    have e1 := Fm.lay o
    have e2 := Fm.depth_le a
    refine ⟨?_, ?_⟩
    · show (a.data.canLay0 && (PyData.list (as.map Fm.data)).canLay0) = true
      rw [e1, h1]
      rfl
    · have h3 : (PyData.list (as.map Fm.data)).depth ≤ 62 := h2
      have e : (PyData.list ((a :: as).map Fm.data)).depth + 0 = max a.data.depth ((PyData.list (as.map Fm.data)).depth - 1) + 1 := rfl
      omega
theorem shapedL {as : List Fm} (h : ∀ a ∈ as, a.ok = true ∧ a.dep ≤ 60) : SeqAt.shaped (.list (as.map Fm.data)) = true := by
  obtain ⟨h1, h2⟩ := fm_lay h
  show ((PyData.list (as.map Fm.data)).canLay0 && decide ((PyData.list (as.map Fm.data)).depth ≤ 64)) = true
  rw [h1, decide_eq_true (by omega)]
  rfl
end Op

namespace Op
open PySem PySem.Spec PyProof.Rows L2 SX OpC
/-! ## part[:0:-1] of a tuple -/
section
variable {prog : Program} {w : World} {A : Around} {E : Value → Shared → Prop} {s : Shared}
theorem adj_back (n : Nat) : Builtin.Slice.sliceAdjust none (some 0) (-1) ((n + 1 : Nat) : Int) = ((n : Int), 0) := by
  unfold Builtin.Slice.sliceAdjust
  simp
  omega
theorem plc_back (n : Nat) : Builtin.Slice.slicePlaces (n : Int) 0 (-1) = n := by
  unfold Builtin.Slice.slicePlaces
  simp
  omega
theorem applied_back {sl : Addr} {u v : Tok} {n : Nat} {Q : Int × Int × Nat → Shared → Prop} (hs : s.heap.IsSliceOf sl .none (.int 0 u) (.int (-1) v)) (h : Q ((n : Int), -1, n) s) :
    wpAny (model prog w) A (Builtin.Slice.sliceApplied (.ref sl) (pure ((n + 1 : Nat) : Int))) Q E s := by
  have ⟨ob, hob, _, hd⟩ := id hs
  unfold Builtin.Slice.sliceApplied Builtin.Slice.sliceFields
  apply wpAny_bind; apply wpAny_bind
  apply wpAny_field hob hd (x := .none) rfl
  apply wpAny_bind; apply wpAny_field hob hd (x := .int 0 u) rfl
  apply wpAny_bind; apply wpAny_field hob hd (x := .int (-1) v) rfl
  apply wpAny_pure
  apply wpAny_bind; apply slicePart_int
  show wpAny _ _ (if ((-1 : Int) == 0) = true then _ else _) _ _ s
  rw [if_neg (by decide)]
  apply wpAny_bind; apply slicePart_none
  apply wpAny_bind; apply slicePart_int
  apply wpAny_bind; apply wpAny_pure
  show wpAny _ _ (match Builtin.Slice.sliceAdjust none (some 0) (-1) ((n + 1 : Nat) : Int) with | (lo, hi) => pure (lo, (-1 : Int), Builtin.Slice.slicePlaces lo hi (-1))) _ _ s
  rw [adj_back]
  show wpAny _ _ (pure ((n : Int), (-1 : Int), Builtin.Slice.slicePlaces (n : Int) 0 (-1))) _ _ s
  rw [plc_back]
  exact wpAny_pure h
theorem pick_fill {f : Nat → Option Value} {ys : List Value} : ∀ n, n ≤ ys.length → (∀ m, m < n → f m = ys[m]?) → (List.range n).filterMap f = ys.take n
  | 0, _, _ => by simp
  | n + 1, hn, h => by
    have ih := pick_fill n (by omega) fun m hm => h m (by omega)
    rw [List.range_succ, List.filterMap_append, ih, List.take_succ]
    have e := h n (Nat.lt_succ_self n)
    cases hy : ys[n]? with
    | none => rw [List.getElem?_eq_getElem (by omega)] at hy; cases hy
    | some y => rw [hy] at e; simp [e]
theorem pick_back (x : Value) (xs : List Value) : ((List.range xs.length).filterMap fun (m : Nat) => (x :: xs).toArray[((xs.length : Int) + (m : Int) * (-1)).toNat]?) = xs.reverse := by
  have h := pick_fill (f := fun (m : Nat) => (x :: xs).toArray[((xs.length : Int) + (m : Int) * (-1)).toNat]?) (ys := xs.reverse) xs.length (by rw [List.length_reverse]; exact Nat.le_refl _) fun m hl => by
    have e1 : ((xs.length : Int) + (m : Int) * (-1)).toNat = (xs.length - 1 - m) + 1 := by omega
    show (x :: xs).toArray[((xs.length : Int) + (m : Int) * (-1)).toNat]? = _
    rw [e1, List.getElem?_toArray, List.getElem?_cons_succ, List.getElem?_reverse hl]
  rw [h, List.take_of_length_le (by rw [List.length_reverse]; exact Nat.le_refl _)]
theorem back_tuple {t sl : Addr} {x : Value} {xs : List Value} {u v : Tok} {Q : Value → Shared → Prop} (ht : IsTup s.heap t (x :: xs).toArray) (hs : s.heap.IsSliceOf sl .none (.int 0 u) (.int (-1) v)) (hz : xs.length + 1 ≤ sizeLine)
    (h : Q (.ref s.heap.objs.size) { s with heap := s.heap.push { cls := .type "tuple", data := .seq xs.reverse.toArray } }) : wpAny (model prog w) A (getItem (.ref t) (.ref sl)) Q E s := by
  have ok : sizeOk (.seq xs.reverse.toArray) := by
    show xs.reverse.toArray.size ≤ sizeLine
    rw [List.size_toArray, List.length_reverse]
    omega
  have ⟨ob, hob, hcl, _⟩ := id hs
  have ty : s.TypeIs (.ref sl) "slice" := ⟨ob, hob, hcl⟩
  unfold getItem
  apply wpAny_holding
  apply wpAny_bind
  apply wpAny_sequenceKey ht.typeIs (by decide)
  apply wpAny_bind
  refine wpAny_callSpecial?_slot (name := Str.ofString "__getitem__") ht.typeIs PyProof.Rows.slot_tuple_getitem ?_
  refine wpAny_call_entry PyProof.Rows.slot_tuple_getitem ht.typeIs PyProof.Rows.entry_tuple_getitem ?_ (PyProof.Rows.args_tuple_getitem _ _)
  show wpAny _ _ (Builtin.Tuple.tupleItemsOf (.ref t) >>= _) _ _ s
  apply wpAny_bind; apply tupleItemsOf_ ht
  apply wpAny_bind; apply wpAny_typeOf ty
  rw [if_pos (by decide)]
  have hn : (x :: xs).toArray.size = xs.length + 1 := by simp
  apply wpAny_bind
  rw [hn]
  apply applied_back hs
  dsimp only
  rw [if_neg (by simp), pick_back]
  exact wpAny_bind (m := Builtin.Tuple.tupleExact _) (wpAny_newObj_type (wpAny_pure ⟨_, rfl, wpAny_pure h⟩) ok)
end
/-- its reading: the upper end 0, the step -1, a tuple that is not empty -/
def tBack (K : PySem.W.Frag) (te : TE) (th ts : TO) : TE := fun σ H Q => te σ H fun x H1 => th σ H1 fun u H2 => ts σ H2 fun k H3 => u = some 0 ∧ k = some (-1) ∧ ∃ a y ys, x = V.ref a ∧ SqT K H3 a (y :: ys) ∧ ∀ p, H3 p = none → Q (.ref p) (upd H3 p (.tup ys.reverse))
theorem pe_back {X : Cx} {e : Expr} {hi : Option Expr} {st : Expr} {te : TE} {th ts : TO} {p2 pos : Pos} (he : PE X e te) (hu : PO X hi th) (hk : PO X (some st) ts) : PE X (.Subscript e (.Slice none hi (some st) p2) pos) (tBack X.K te th ts) := by
  refine ⟨fun pins s σ H Q I h => ?_⟩
  refine Subscript_ (thn (he.run pins s σ H _ I h) fun v s1 ⟨x, H1, I1, r1, q1⟩ => ?_)
  refine wpAny_Slice ?_
  rw [evalPart_none]
  apply wpAny_pure
  refine thn (hu.run pins s1 σ H1 _ I1 q1) fun vu s2 ⟨u, H2, I2, pu, q2⟩ => ?_
  refine thn (hk.run pins s2 σ H2 _ I2 q2) fun vk s3 ⟨k, H3, I3, pk, q3⟩ => ?_
  obtain ⟨rfl, rfl, a, y, ys, rfl, hx, q⟩ := q3
  cases r1
  cases pu with
  | int _ tu =>
    cases pk with
    | int _ tk =>
      have J : Inv X pins σ H3 { s3 with heap := s3.heap.push { cls := .type "slice", data := .fields #[.none, .int 0 tu, .int (-1) tk] } } := I3.kept (t' := s3.toks) fun b ob z => Heap.get?_push_of_some _ z
      obtain ⟨its, r, ht, hz⟩ := J.tuple hx
      cases r with
      | @cons _ _ z zs r0 rs =>
        have hl := rs.length
        rw [List.length_cons] at hz
        refine tail_any (ops := [.ref a, .ref s3.heap.objs.size]) (T := "tuple") ht.typeIs PyProof.Rows.slot_tuple_getitem.lookup ?_ (by with_unfolding_all rfl)
        refine back_tuple ht (Heap.IsSliceOf.new ..) (by rw [← hl]; exact hz) ?_
        refine ⟨.ref _, upd H3 _ (.tup ys.reverse), J.laid (t' := s3.toks) (o := .tup ys.reverse) (fun b ob z => Heap.get?_push_of_some _ z) (Nat.le_refl _) ?_, rfl, q _ (J.hok.fresh (Nat.le_refl _))⟩
        exact ⟨by rw [List.length_reverse]; omega, _, L2.Vals.reverse rs, IsTup.new _ _⟩
end Op

namespace Op
open PySem PySem.Spec PyProof.Rows L2 SX OpC
/-! ## xs.extend(a tuple) -/
section
open PySem.AutoSeq1
set_option maxRecDepth 8000 in
theorem ext_tup {l b : Addr} {xs ys : Array Value} {n : Nat} (h0 : ¬ (!xs.isEmpty && Builtin.List.listTooLong (xs.size + ys.size)) = true) (h1 : xs.size ≤ sizeLine) (h2 : xs.size + ys.size ≤ sizeLine + 1) :
    Meets (Builtin.«list.extend» ⟨[.ref l, .ref b], []⟩) fun _ R s => s.heap.get? l = some { cls := .type "list", dict := none, data := .seq xs n, slots := #[] } ∧
      (∃ (dd : Option Addr) (m : Nat) (sl : Array (Option Value)), s.heap.get? b = some { cls := .type "tuple", dict := dd, data := .seq ys m, slots := sl }) ∧
      R (.ok (.ret Value.none)) { s with heap := s.heap.update l (Obj.mapSeq fun x => x ++ ys), toks := s.toks } := by
  refine .of_wp fun prog w A R s h => ?_
  obtain ⟨h', g, d, tk, os⟩ := s
  obtain ⟨hl, ⟨dd, m, sl, hb⟩, h⟩ := h
  have q1 := AutoSeq1.idx_int
  have q2 := AutoSeq1.sub_tuple_tuple
  have q3 := AutoSeq1.sub_list_list
  have q4 := AutoSeq1.sub_tuple_list
  have q5 := AutoSeq1.sub_list_tuple
  have hz : (xs ++ ys).size ≤ sizeLine + 1 := by
    rw [Array.size_append]
    exact h2
  wp_walk using (wpAny_updateSeq hl rfl (hz := h1) (_hz' := hz)), wpAny_loadPart' hl, wpAny_loadPart' hb
  exact ⟨_, rfl, h⟩
end
/-- xs.extend(t), t a tuple -/
def rExtT (K : PySem.W.Frag) : V → List V → Hp → VK → Prop := fun x vs H Q => ∃ (l b : Addr) (xs zs : List V), x = .ref l ∧ vs = [.ref b] ∧ H l = some (.lst xs) ∧ SqT K H b zs ∧ xs.length + zs.length ≤ sizeLine ∧ Q .non (upd H l (.lst (xs ++ zs)))
theorem mt_extT {X : Cx} : MtM X "list.extend" (rExtT X.K) := by
  intro pins s σ H x vs v us Q I rx rv h
  obtain ⟨l, b, xs, zs, rfl, rfl, hl, hb, hz, q⟩ := h
  cases rx
  obtain ⟨u, rfl, ru⟩ := rv.one
  cases ru
  obtain ⟨z, its, n, r, lw, e⟩ := I.lstM hl
  obtain ⟨its2, r2, ht, z2⟩ := I.tuple hb
  have k1 := r.length
  have k2 := r2.length
  have sz : its.toArray.size + its2.toArray.size ≤ sizeLine := by
    rw [List.size_toArray, List.size_toArray]
    omega
  have lg : ¬ (!its.toArray.isEmpty && Builtin.List.listTooLong (its.toArray.size + its2.toArray.size)) = true := by
    rw [notLongL sz, Bool.and_false]
    exact Bool.false_ne_true
  have pre : ∃ (dd : Option Addr) (m : Nat) (sl : Array (Option Value)), s.heap.get? b = some { cls := .type "tuple", dict := dd, data := .seq its2.toArray m, slots := sl } := by
    obtain ⟨⟨c, dd, da, sl⟩, w1, w2, m, w3⟩ := ht
    cases w2
    cases w3
    exact ⟨dd, m, sl, w1⟩
  have go := ext_tup (l := l) (b := b) (n := n) lg (by rw [List.size_toArray]; omega) (by omega)
  refine call_meets F.slot_list_extend ⟨_, e, rfl⟩ F.entry_list_extend (F.args_list_extend_2 _ _) go ⟨e, pre, .non, _, I.lset (its' := its ++ its2) hl e (by simp) (r.append r2) ?_, rfl, q⟩
  rw [List.length_append]
  omega
end Op

namespace Op
open PySem PySem.Spec PyProof.Rows L2 SX OpC
local macro_rules | `(tactic| walk_at "go1") => `(tactic| first
  | ((with_reducible refine' g_var ?h ?_); (case h => rfl)) | with_reducible refine' g_c ?_ | with_reducible refine' g_op ?_ | with_reducible refine' g_un ?_ | with_reducible refine' g_if ?_ | with_reducible refine' g_test ?_ | with_reducible refine' g_B ?_ | with_reducible refine' g_bl ?_
  | with_reducible refine' g_not ?_ | with_reducible refine' g_and ?_ | with_reducible refine' g_or ?_ | with_reducible refine' g_andV ?_ | with_reducible refine' g_orV ?_ | with_reducible refine' g_notV ?_ | with_reducible refine' g_nil ?_ | with_reducible refine' g_cons ?_ | with_reducible refine' g_CB ?_ | with_reducible refine' g_ca ?_
  | with_reducible refine' g_seq ?_ | with_reducible refine' g_next ?_ | with_reducible refine' g_asg ?_ | with_reducible refine' g_name ?_ | with_reducible refine' g_ret ?_ | with_reducible refine' g_retN ?_ | with_reducible refine' g_drop ?_ | with_reducible refine' g_ifS ?_ | with_reducible refine' g_sub ?_
  | with_reducible refine' g_I0 ?_ | with_reducible refine' g_U ?_ | ((with_reducible refine' g_eq ?h ?_); (case h => rfl)) | ((with_reducible refine' g_ne ?h ?_); (case h => rfl))
  | ((with_reducible refine' g_lenL ?h ?_); (case h => first | assumption | exact SqL.of (by assumption) | exact SqL.of upd_same)) | ((with_reducible refine' g_lenT ?h ?_); (case h => first | assumption | exact SqT.of (by assumption) | exact SqT.of upd_same))
  | ((with_reducible refine' g_ixL ?h ?ha ?_); (case h => first | assumption | exact SqL.of (by assumption) | exact SqL.of upd_same); (case ha => rfl)) | ((with_reducible refine' g_ixT ?h ?ha ?_); (case h => first | assumption | exact SqT.of (by assumption) | exact SqT.of upd_same); (case ha => rfl))
  | ((with_reducible refine' g_I ?h ?_); (case h => first | decide | omega | (first | refine' ⟨?_, ?_, ?_⟩ | refine' ⟨?_, ?_⟩ | refine' Or.inl ⟨?_, ?_⟩) <;> omega | (refine' Or.inr ⟨?_, ?_⟩ <;> omega)))
  | ((with_reducible refine' g_setL ?h ?ha ?_); (case h => first | assumption | exact upd_same); (case ha => rfl))
  | with_reducible refine' g_lcR ?_
  | with_reducible refine' g_M1 ?_ | with_reducible refine' g_isS ?_ | with_reducible refine' g_tyS ?_ | ((with_reducible refine' g_tyL ?h ?_); (case h => first | assumption | exact upd_same))
  | ((with_reducible refine' g_cat ?h ?h2 ?hl ?_); (case h => first | assumption | exact upd_same); (case h2 => first | assumption | exact upd_same); (case hl => first | decide | (simp; omega)))
  | with_reducible refine' g_lcS ?_
  | with_reducible refine' g_starts ?_ | with_reducible refine' g_chain ?_
  | ((with_reducible refine' g_lenS ?h ?_); (case h => first | exact len_le (by assumption) | exact len_le (by omega))) | ((with_reducible refine' g_rstrip ?h ?_); (case h => first | exact len_le (by assumption) | exact len_le (by omega))) | ((with_reducible refine' g_slX ?h ?_); (case h => first | exact len_le (by assumption) | exact len_le (by omega)))
  | with_reducible refine' g_sl ?_ | with_reducible refine' g_nopart ?_ | with_reducible refine' g_part ?_ | with_reducible refine' g_isI ?_
  | with_reducible refine' g_tru ?_
  | with_reducible refine' iteT ?_ | with_reducible refine' iteF ?_ | with_reducible refine' iteNT ?_ | with_reducible refine' iteNF ?_
  | with_reducible refine' g_int ?_ | with_reducible refine' g_insg ?_ | with_reducible refine' g_ninsg ?_ | with_reducible refine' g_isN ?_ | with_reducible refine' g_notN ?_ | with_reducible refine' g_lst ?_ | with_reducible refine' g_tup ?_ | with_reducible refine' g_BM ?_ | with_reducible refine' g_BM0 ?_)
local macro_rules | `(tactic| walk_at "go") => `(tactic| repeat' walk_at "go1")
local macro_rules | `(tactic| walk_at "go2") => `(tactic| repeat' (first | walk_at "go1" | with_reducible refine' g_cm ?_ | with_reducible refine' g_mk ?_ | with_reducible refine' g_for ?_ | ((with_reducible refine' g_rcm ?h ?ha ?_); (case h => first | assumption | exact upd_same); (case ha => first | rfl | decide | simp [List.lookup]))))
/- macro2 -/
local macro_rules | `(tactic| walk_at "go3a") => `(tactic| first
  | walk_at "go1" | with_reducible refine' g_cm ?_ | with_reducible refine' g_mk ?_ | with_reducible refine' g_for ?_ | with_reducible refine' g_fld ?_ | with_reducible refine' g_lcT0 ?_
  | ((with_reducible refine' g_rcm ?h ?ha ?_); (case h => first | assumption | exact upd_same); (case ha => first | rfl | decide | simp [List.lookup]))
  | ((with_reducible refine' g_shape ?hc ?hn ?h ?_); (case hc => assumption); (case hn => assumption); (case h => first | assumption | exact upd_same | (rw [upd_ne (by assumption)]; assumption))))
local macro_rules | `(tactic| walk_at "go3") => `(tactic| repeat' walk_at "go3a")
local macro_rules | `(tactic| walk_at "go4") => `(tactic| repeat' (first
  | walk_at "go3a" | ((with_reducible refine' iteDT ?h ?_); (case h => first | rfl | decide +kernel)) | ((with_reducible refine' iteDF ?h ?_); (case h => decide +kernel))))
/-! ## all forms in a form -/
def Fm.subs : Fm → List Fm
  | .atm k t => [.atm k t]
  | .un k a => .un k a :: a.subs
  | .bi k a b => .bi k a b :: (a.subs ++ b.subs)
theorem Fm.subs_len : ∀ a : Fm, a.subs.length = a.size
  | .atm _ _ => rfl
  | .un _ a => by
    have := Fm.subs_len a
    show a.subs.length + 1 = a.size + 1
    omega
  | .bi _ a b => by
    have := Fm.subs_len a
    have := Fm.subs_len b
    show (a.subs ++ b.subs).length + 1 = a.size + b.size + 1
    rw [List.length_append]
    omega
def subsL (l : List Fm) : List Fm := (l.map Fm.subs).flatten
theorem subsL_cons (a : Fm) (l : List Fm) : subsL (a :: l) = a.subs ++ subsL l := rfl
theorem subsL_len : ∀ l : List Fm, l.length ≤ (subsL l).length
  | [] => Nat.le_refl _
  | a :: l => by
    have ih := subsL_len l
    have h := Fm.subs_len a
    have h2 := Fm.size_pos a
    rw [subsL_cons, List.length_append, List.length_cons]
    omega
def FiW (H0 : Hp) (v : V) (a : Fm) (pf pl : Addr) (m : Nat) : L2.St → Hp → Prop := fun σ H => ∃ (st : List (V × Fm)) (fs : List V) (gs : List Fm) (x3 : Option V), σ = [some v, some (.ref pf), some (.ref pl), x3] ∧ Same H0 H ∧ H pf = some (.lst fs) ∧ FsAt H fs gs ∧
  H pl = some (.lst (st.map (·.1)).reverse) ∧ (∀ y ∈ st, FmAt H y.1 y.2 ∧ y.2.ok = true) ∧ gs ++ subsL (st.map (·.2)) = a.subs ∧ m = (subsL (st.map (·.2))).length
def spFormsIn : Sp := fun vs H Q _ => ∃ (v : V) (a : Fm), vs = [v] ∧ FmAt H v a ∧ a.ok = true ∧ a.size ≤ 10000 ∧ ∀ H' p us, Same H H' → H p = none → H' p = some (.lst us) → FsAt H' us a.subs → Q (.ref p) H'
theorem g_back {K : PySem.W.Frag} {te : TE} {th ts : TO} {σ : L2.St} {H : Hp} {Q : VK} (k : te σ H fun x H1 => th σ H1 fun u H2 => ts σ H2 fun k H3 => u = some 0 ∧ k = some (-1) ∧ ∃ a y ys, x = V.ref a ∧ SqT K H3 a (y :: ys) ∧ ∀ p, H3 p = none → Q (.ref p) (upd H3 p (.tup ys.reverse))) : tBack K te th ts σ H Q := k
section
variable {P : Program} {w : World} {K : PySem.W.Frag} {mg : Str → Option Value} {base : Heap}
theorem ca_forms_in (T : Bl K mg) (D : Df K mg "forms_in" s_forms_in p_forms_in) : Ca P w K mg base 1 "forms_in" spFormsIn := by
  obtain ⟨aA, hA, tA⟩ := T.t_ATOMS
  have c_ATOMS : ∃ u, mg "ATOMS" = some u ∧ RelV (.ref aA) u := ⟨_, hA, rfl⟩
  refine ca_n D sc_forms_in (fun vs H Q E h => ?_) (fun f cdv A outer s H vs Q E hr h => ?_)
  · obtain ⟨v, a, rfl, _⟩ := h
    rfl
  · obtain ⟨v, a, rfl, fa, ok, hz, q⟩ := h
    refine ⟨_, (pss_cons (ps_set (i := 1) sc_forms_in.nd rfl (Or.inl rfl) (pe_lst pa_nil))
  (pss_cons (ps_set (i := 2) sc_forms_in.nd rfl (Or.inl rfl) (pe_lst (pa_cons (pv 0) pa_nil)))
  (pss_cons (ps_while PassesOwn.never (pq_truth (pv 2) (by intro _; rfl))
  (pss_cons (ps_set (i := 3) sc_forms_in.nd rfl (Or.inl rfl) (pe_bm0 PySem.F.plainAttrs_list PySem.F.slot_list_pop PySem.F.type_list_pop mt_pop (pv 2)))
  (pss_cons (ps_expr (pe_bm PySem.F.plainAttrs_list PySem.F.slot_list_append PySem.F.type_list_append mt_append (pv 1) (pa_cons (pv 3) pa_nil)))
  (pss_one (ps_if (pt_cmpR op_notIn_seq (pe_ix ix_tup (pv 3) pe_int (fun _ _ => rfl)) (C8.pe_gc (by rfl) c_ATOMS) rfl)
  (pss_one (ps_expr (pe_bm PySem.F.plainAttrs_list PySem.F.slot_list_extend PySem.F.type_list_extend mt_extT (pv 2) (pa_cons (pe_back (pv 3) (po_some pe_int) (po_some (pe_un un_neg pe_int))) pa_nil))))
  pss_nil)))))
  (pss_one (ps_ret (pv 1)))))), ?_⟩
    walk_at "go3"
    refine ⟨by show 0 ≤ sizeLine; decide, fun pf hpf => ?_⟩
    walk_at "go3"
    refine ⟨by show 1 ≤ sizeLine; decide, fun pl hpl => ?_⟩
    have s1 : Same H (upd H pf (.lst [])) := Same.upd hpf
    have e1 : upd H pf (.lst []) pf = some (.lst []) := upd_same
    generalize upd H pf (.lst []) = H1 at s1 e1 hpl ⊢
    have npl : H pl = none := Same.non s1 hpl
    have nfl : pf ≠ pl := fun z => by rw [← z, e1] at hpl; cases hpl
    have s2 : Same H1 (upd H1 pl (.lst [v])) := Same.upd hpl
    have e2 : upd H1 pl (.lst [v]) pl = some (.lst [v]) := upd_same
    generalize upd H1 pl (.lst [v]) = H2 at s2 e2 ⊢
    have hsl : a.subs.length = a.size := Fm.subs_len a
    walk_at "go3"
    refine g_while (FiW H v a pf pl) a.subs.length ⟨[(v, a)], [], [], none, rfl, s1.trans s2, s2 _ _ e1, .nil, e2, fun y hy => ?_, by simp [subsL], by simp [subsL]⟩ ?_
    · rw [List.mem_singleton.mp hy]
      exact ⟨(fa.same s1).same s2, ok⟩
    clear s1 s2 e1 e2 hpl
    rintro m σ' H3 ⟨st, fs, gs, x3, rfl, sH, ef, fg, el, hst, hsub, hm⟩
    have hgl := congrArg List.length hsub
    rw [List.length_append] at hgl
    have hfl := fg.len
    walk_at "go3"
    refine g_truL (SqL.of el) ?_
    cases st with
    | nil =>
      refine iteF ?_
      walk_at "go3"
      have e : gs = a.subs := by rw [← hsub]; simp [subsL]
      exact q H3 pf fs sH hpf ef (by rw [← e]; exact fg)
    | cons hd r =>
      obtain ⟨u, b⟩ := hd
      obtain ⟨fb, okb⟩ := hst (u, b) (List.mem_cons_self ..)
      have hr3 : ∀ y ∈ r, FmAt H3 y.1 y.2 ∧ y.2.ok = true := fun y hy => hst y (List.mem_cons_of_mem _ hy)
      have hrl := subsL_len (r.map (·.2))
      rw [List.length_map] at hrl
      have hbs := Fm.subs_len b
      have hbp := Fm.size_pos b
      have hm' : m = b.subs.length + (subsL (r.map (·.2))).length := by rw [hm, ← List.length_append]; rfl
      have eT : (!(List.map (fun x => x.fst) ((u, b) :: r)).reverse.isEmpty) = true := by simp
      rw [eT]
      refine iteT ⟨_, fun _ _ n => n, ?_⟩
      walk_at "go3"
      refine g_pop (xs := (r.map (·.1)).reverse) (by rw [el, List.map_cons, List.reverse_cons]) ?_
      have t1 : Tps H3 (upd H3 pl (.lst (r.map (·.1)).reverse)) := Tps.lst el
      have sH4 : Same H (upd H3 pl (.lst (r.map (·.1)).reverse)) := Same.mut sH npl
      have el4 : upd H3 pl (.lst (r.map (·.1)).reverse) pl = some (.lst (r.map (·.1)).reverse) := upd_same
      have ef4 : upd H3 pl (.lst (r.map (·.1)).reverse) pf = some (.lst fs) := by rw [upd_ne nfl]; exact ef
      have fg4 := fg.tps t1
      have fb4 := fb.tps t1
      have hr4 : ∀ y ∈ r, FmAt (upd H3 pl (.lst (r.map (·.1)).reverse)) y.1 y.2 ∧ y.2.ok = true := fun y hy => ⟨(hr3 y hy).1.tps t1, (hr3 y hy).2⟩
      generalize upd H3 pl (.lst (r.map (·.1)).reverse) = H4 at sH4 el4 ef4 fg4 fb4 hr4 ⊢
      clear t1 hr3 fb fg sH el ef hst eT
      walk_at "go3"
      have hgb : gs.length + 1 ≤ 10001 := by omega
      refine g_app ef4 (by rw [sizeLine_eq, hfl]; omega) ?_
      have sH5 : Same H (upd H4 pf (.lst (fs ++ [u]))) := Same.mut sH4 hpf
      have t5 : Tps H4 (upd H4 pf (.lst (fs ++ [u]))) := Tps.lst ef4
      have ef5 : upd H4 pf (.lst (fs ++ [u])) pf = some (.lst (fs ++ [u])) := upd_same
      have el5 : upd H4 pf (.lst (fs ++ [u])) pl = some (.lst (r.map (·.1)).reverse) := by rw [upd_ne nfl.symm]; exact el4
      have fb5 := fb4.tps t5
      have fg5 := (fg4.app fb4).tps t5
      have hr5 : ∀ y ∈ r, FmAt (upd H4 pf (.lst (fs ++ [u]))) y.1 y.2 ∧ y.2.ok = true := fun y hy => ⟨(hr4 y hy).1.tps t5, (hr4 y hy).2⟩
      generalize upd H4 pf (.lst (fs ++ [u])) = H5 at sH5 ef5 el5 fb5 fg5 hr5 ⊢
      clear t5 fb4 fg4 hr4 ef4 el4 sH4
      have hrl2 : r.length ≤ 10000 := by omega
      cases fb5 with
      | @atm p k t ep =>
        have hk : atK k = true := Fm.ok_kin okb
        walk_at "go3"
        refine g_ninT (tA _) rfl rfl ?_
        rw [inV_atoms, hk]
        walk_at "go3"
        refine ⟨(subsL (r.map (·.2))).length, by omega, r, fs ++ [.ref p], gs ++ [.atm k t], _, rfl, sH5, ef5, fg5, el5, hr5, ?_, rfl⟩
        rw [← hsub]
        show _ = gs ++ ([Fm.atm k t] ++ subsL (r.map (·.2)))
        rw [List.append_assoc]
      | @un p k v1 b1 ep hb1 =>
        have ok1 : unK k = true ∧ b1.ok = true := by
          have z := okb
          simp only [Fm.ok, Bool.and_eq_true] at z
          exact z
        have hk := unK_at ok1.1
        walk_at "go3"
        refine g_ninT (tA _) rfl rfl ?_
        rw [inV_atoms, hk]
        walk_at "go3"
        refine g_back ?_
        walk_at "go3"
        refine ⟨rfl, rfl, p, .str k, [v1], rfl, SqT.of ep, fun p6 hp6 => ?_⟩
        have s6 : Same H5 (upd H5 p6 (.tup [v1])) := Same.upd hp6
        have e6 : upd H5 p6 (.tup [v1]) p6 = some (.tup [v1]) := upd_same
        show tNil _ (upd H5 p6 (.tup [v1])) _
        generalize upd H5 p6 (.tup [v1]) = H6 at s6 e6 ⊢
        have el6 := s6 _ _ el5
        have ef6 := s6 _ _ ef5
        walk_at "go3"
        refine ⟨pl, p6, _, _, rfl, rfl, el6, SqT.of e6, by rw [List.length_reverse, List.length_map, sizeLine_eq]; show _ + 1 ≤ _; omega, ?_⟩
        have t7 : Tps H6 (upd H6 pl (.lst ((r.map (·.1)).reverse ++ [v1]))) := Tps.lst el6
        walk_at "go3"
        refine ⟨(subsL (((v1, b1) :: r).map (·.2))).length, ?_, (v1, b1) :: r, fs ++ [.ref p], gs ++ [(Fm.un k b1)], _, rfl, Same.mut (sH5.trans s6) npl, by rw [upd_ne nfl]; exact ef6, (fg5.same s6).tps t7, by rw [upd_same]; simp, fun y hy => ?_, ?_, rfl⟩
        · rw [hm']
          show (b1.subs ++ subsL (r.map (·.2))).length < ((Fm.un k b1) :: b1.subs).length + _
          simp only [List.length_append, List.length_cons]
          omega
        · show FmAt _ y.1 y.2 ∧ y.2.ok = true
          rcases List.mem_cons.mp hy with rfl | hy
          · exact ⟨(hb1.same s6).tps t7, ok1.2⟩
          · exact ⟨((hr5 y hy).1.same s6).tps t7, (hr5 y hy).2⟩
        · skip
          show (gs ++ [(Fm.un k b1)]) ++ (b1.subs ++ subsL (r.map (·.2))) = a.subs
          rw [← hsub]
          show _ = gs ++ ((Fm.un k b1) :: b1.subs ++ subsL (r.map (·.2)))
          simp
      | @bi p k v1 v2 b1 b2 ep hb1 hb2 =>
        have ok1 : biK k = true ∧ b1.ok = true ∧ b2.ok = true := by
          have z := okb
          simp only [Fm.ok, Bool.and_eq_true] at z
          exact ⟨z.1, z.2.2⟩
        have hk := biK_at ok1.1
        walk_at "go3"
        refine g_ninT (tA _) rfl rfl ?_
        rw [inV_atoms, hk]
        walk_at "go3"
        refine g_back ?_
        walk_at "go3"
        refine ⟨rfl, rfl, p, .str k, [v1, v2], rfl, SqT.of ep, fun p6 hp6 => ?_⟩
        have s6 : Same H5 (upd H5 p6 (.tup [v2, v1])) := Same.upd hp6
        have e6 : upd H5 p6 (.tup [v2, v1]) p6 = some (.tup [v2, v1]) := upd_same
        show tNil _ (upd H5 p6 (.tup [v2, v1])) _
        generalize upd H5 p6 (.tup [v2, v1]) = H6 at s6 e6 ⊢
        have el6 := s6 _ _ el5
        have ef6 := s6 _ _ ef5
        walk_at "go3"
        refine ⟨pl, p6, _, _, rfl, rfl, el6, SqT.of e6, by rw [List.length_reverse, List.length_map, sizeLine_eq]; show _ + 2 ≤ _; omega, ?_⟩
        have t7 : Tps H6 (upd H6 pl (.lst ((r.map (·.1)).reverse ++ [v2, v1]))) := Tps.lst el6
        walk_at "go3"
        refine ⟨(subsL (((v1, b1) :: (v2, b2) :: r).map (·.2))).length, ?_, (v1, b1) :: (v2, b2) :: r, fs ++ [.ref p], gs ++ [(Fm.bi k b1 b2)], _, rfl, Same.mut (sH5.trans s6) npl, by rw [upd_ne nfl]; exact ef6, (fg5.same s6).tps t7, by rw [upd_same]; simp, fun y hy => ?_, ?_, rfl⟩
        · rw [hm']
          show (b1.subs ++ (b2.subs ++ subsL (r.map (·.2)))).length < ((Fm.bi k b1 b2) :: (b1.subs ++ b2.subs)).length + _
          simp only [List.length_append, List.length_cons]
          omega
        · show FmAt _ y.1 y.2 ∧ y.2.ok = true
          rcases List.mem_cons.mp hy with rfl | hy
          · exact ⟨(hb1.same s6).tps t7, ok1.2.1⟩
          · rcases List.mem_cons.mp hy with rfl | hy
            · exact ⟨(hb2.same s6).tps t7, ok1.2.2⟩
            · exact ⟨((hr5 y hy).1.same s6).tps t7, (hr5 y hy).2⟩
        · skip
          show (gs ++ [(Fm.bi k b1 b2)]) ++ (b1.subs ++ (b2.subs ++ subsL (r.map (·.2)))) = a.subs
          rw [← hsub]
          show _ = gs ++ ((Fm.bi k b1 b2) :: (b1.subs ++ b2.subs) ++ subsL (r.map (·.2)))
          simp
end
end Op

namespace Op
open PySem PySem.Spec PyProof.Rows L2 SX OpC
/-! ## sets of texts: set(xs), sorted(set(xs)) -/
/-- a set stands at a, with these entries; its table can be walked -/
def SetTab (w : World) (h : Heap) (a : Addr) (fs : Array (Int × Value)) : Prop := ∃ (o : Obj) (ep : Nat) (t : SetTable), h.get? a = some o ∧ o.ExactSet ∧ o.data = .set fs ep t ∧
  fs.size < scanBound ∧ t.fits fs.size = true ∧ Ris t.place.toList ∧ (w.params.followText "set-order" = true ∨ t.led = true)
def txtOf (e : Int × Value) : Str := match e.2 with
  | .str x _ => x
  | _ => Str.empty
/-- its entries are these texts -/
def TxtsAre (P : Program) (w : World) (fs : Array (Int × Value)) (L : List Str) : Prop := (fs.toList.map txtOf).Perm L ∧ ∀ e ∈ fs.toList, ∃ x t, e.2 = Value.str x t ∧ e.1 = (PySem.strKind P w).hash x
def StrSet (P : Program) (w : World) (h : Heap) (a : Addr) (L : List Str) : Prop := L.Nodup ∧ ∃ fs, SetTab w h a fs ∧ TxtsAre P w fs L
section
variable {P : Program} {w : World} {A : Around} {E : Value → Shared → Prop} {s : Shared} {a : Addr} {L : List Str}
theorem SetTab.at {h h' : Heap} {fs : Array (Int × Value)} (x : SetTab w h a fs) (k : ∀ o, h.get? a = some o → h'.get? a = some o) : SetTab w h' a fs := by
  obtain ⟨o, ep, t, e, r⟩ := x
  exact ⟨o, ep, t, k o e, r⟩
theorem StrSet.at {h h' : Heap} (x : StrSet P w h a L) (k : ∀ o, h.get? a = some o → h'.get? a = some o) : StrSet P w h' a L := by
  obtain ⟨n, fs, t, y⟩ := x
  exact ⟨n, fs, t.at k, y⟩
theorem txts_elems {fs : Array (Int × Value)} (y : TxtsAre P w fs L) : ElemsOf (PySem.strKind P w) fs.toList := fun e he => by
  obtain ⟨x, t, h1, h2⟩ := y.2 e he
  exact ⟨⟨x, by rw [h1]; exact strKind_is P w x t, h2⟩, by rw [h1]; rfl⟩
theorem txt_is {fs : Array (Int × Value)} (y : TxtsAre P w fs L) {e : Int × Value} (he : e ∈ fs.toList) (k : Str) : (PySem.strKind P w).is k e.2 = true ↔ txtOf e = k := by
  obtain ⟨x, t, h1, _⟩ := y.2 e he
  unfold txtOf
  rw [h1]
  show ((x == k) = true) ↔ x = k
  exact beq_iff_eq
/-- what is stored, perhaps laid anew, is stored -/
theorem put_tab {o : Obj} {es fs : Array (Int × Value)} {ep : Nat} {t u : SetTable} {dum : Bool} {g : Bool → Sem Unit} {R : Option Bool → Shared → Prop} (ho : s.heap.get? a = some o) (hex : o.ExactSet) (hd : o.data = .set es ep t)
    (hg : ∀ (b : Bool) (s1 : Shared) (Z : Unit → Shared → Prop), Z () s1 → wpAny (model P w) A (g b) Z E s1) (hb : fs.size < scanBound) (hf : u.fits fs.size = true) (hr : Ris u.place.toList) (hl : w.params.followText "set-order" = true ∨ u.led = true)
    (hR : ∀ h' gs, Heap.SameBut a s.heap h' → gs.toList.Perm fs.toList → SetTab w h' a gs → R (some true) { s with heap := h' }) :
    wpAny (model P w) A (do
      storeSet a fs u
      if (!dum && u.tooFull) = true then do
        g (relayAll u fs (SetTable.grown fs.size)).2.2
        storeSet a (relayAll u fs (SetTable.grown fs.size)).1 (relayAll u fs (SetTable.grown fs.size)).2.1
        pure (some true)
      else pure (some true)) R E s := by
  have st : ∀ {h : Heap} {o : Obj} {xs ys : Array (Int × Value)} {n : Nat} {v v' : SetTable}, h.get? a = some o → o.data = .set xs n v → (h.update a (Obj.putSet ys v')).get? a = some { o with data := .set ys (n + 1) v' } := fun {h o xs ys n v v'} e d => by
    have z := Heap.get?_update_self (Obj.putSet ys v') e (by rw [putSet_of ys v' d]; rfl)
    rw [putSet_of ys v' d] at z
    exact z
  have e1 := st (ys := fs) (v' := u) ho hd
  have b1 := Heap.SameBut.update s.heap a (Obj.putSet fs u)
  apply wpAny_bind
  refine wpAny_storeSet_of ho hd ?_ (fits_of_scanBound hb)
  by_cases hc : (!dum && u.tooFull) = true
  · rw [if_pos hc]
    have pm := relayAll_perm u fs (SetTable.grown fs.size)
    have f3 := relayAll_fits u fs (SetTable.grown fs.size)
    have r3 := relayAll_ris u fs (SetTable.grown fs.size)
    have l3 := relayAll_led u fs (SetTable.grown fs.size)
    generalize relayAll u fs (SetTable.grown fs.size) = Z at pm f3 r3 l3 ⊢
    obtain ⟨gs, u3, gv⟩ := Z
    dsimp only at pm f3 r3 l3 ⊢
    have sz : gs.size = fs.size := by rw [← Array.length_toList, pm.length_eq, Array.length_toList]
    apply wpAny_bind
    apply hg
    apply wpAny_bind
    refine wpAny_storeSet_of e1 rfl ?_ (fits_of_scanBound (by rw [sz]; exact hb))
    apply wpAny_pure
    refine hR _ gs (b1.trans (Heap.SameBut.update _ a _)) pm ⟨_, _, u3, st e1 rfl, hex, rfl, by rw [sz]; exact hb, f3, r3, ?_⟩
    rcases hl with hl | hl
    · exact .inl hl
    · exact .inr (by rw [l3]; exact hl)
  · rw [if_neg hc]
    apply wpAny_pure
    exact hR _ fs b1 .rfl ⟨_, _, u, e1, hex, rfl, hb, hf, hr, hl⟩
/-- one text more -/
theorem add_txt {k : Str} {tk : Tok} {Q : Bool → Shared → Prop} (x : StrSet P w s.heap a L) (room : L.length + 1 < scanBound)
    (hQ : ∀ h' b, Heap.SameBut a s.heap h' → StrSet P w h' a (if k ∈ L then L else k :: L) → Q b { s with heap := h' }) :
    wpAny (model P w) A (setAddHashed a (.str k tk) ((PySem.strKind P w).hash k)) Q E s := by
  obtain ⟨nd, fs, ⟨o, ep, t, ho, hex, hd, hb, hf, hr, hl⟩, y⟩ := x
  have el := txts_elems y
  have sc : (Value.str k tk).scannable = true := rfl
  unfold setAddHashed setAddHashedIn
  apply wpAny_holding
  apply wpAny_bind
  refine wpAny_setState_of ho hd hf ?_
  dsimp only
  rw [byScan_of sc hb el]
  simp only [↓reduceIte]
  unfold setAddByScan
  apply wpAny_bind
  apply wpAny_bind
  apply wpAny_rule
  apply wpAny_bind
  refine wpAny_setScan_of (strKind_is P w k tk) ho hd hf el ?_
  cases hi : List.findIdx? (fun e => (PySem.strKind P w).is k e.2) fs.toList with
  | some j =>
    dsimp only
    obtain ⟨hj, pj, _⟩ := List.findIdx?_eq_some_iff_getElem.mp hi
    have hk : k ∈ L := by
      have h1 := (txt_is y (List.getElem_mem hj) k).mp pj
      exact y.1.mem_iff.mp (List.mem_map.mpr ⟨_, List.getElem_mem hj, h1⟩)
    apply wpAny_pure
    apply wpAny_pure
    refine hQ s.heap _ (Heap.SameBut.refl a s.heap) ?_
    rw [if_pos hk]
    exact ⟨nd, fs, ⟨o, ep, t, ho, hex, hd, hb, hf, hr, hl⟩, y⟩
  | none =>
    dsimp only
    have hk : k ∉ L := fun z => by
      obtain ⟨e, he, q⟩ := List.mem_map.mp (y.1.mem_iff.mpr z)
      have c := List.findIdx?_eq_none_iff.mp hi e he
      rw [(txt_is y he k).mpr q] at c
      cases c
    have pm := layNew_perm t fs ((PySem.strKind P w).hash k) (.str k tk)
    have f1 := layNew_fits t fs ((PySem.strKind P w).hash k) (.str k tk)
    have r1 := layNew_ris t fs ((PySem.strKind P w).hash k) (.str k tk) hr
    have l1 := layNew_led t fs ((PySem.strKind P w).hash k) (.str k tk)
    generalize layNew t fs ((PySem.strKind P w).hash k) (.str k tk) = Z at pm f1 r1 l1 ⊢
    obtain ⟨gs, u, dum, gv⟩ := Z
    dsimp only at pm f1 r1 l1 ⊢
    rw [Array.toList_push] at pm
    have pc := pm.trans (List.perm_append_singleton _ _)
    have pk : (gs.toList.map txtOf).Perm (k :: L) := (pc.map txtOf).trans (y.1.cons k)
    have sz : gs.size = L.length + 1 := by
      have h := pk.length_eq
      rw [List.length_map, Array.length_toList, List.length_cons] at h
      exact h
    have lu : w.params.followText "set-order" = true ∨ u.led = true := by
      rcases hl with hl | hl
      · exact .inl hl
      · exact .inr (by rw [l1]; exact hl)
    have fin : ∀ h' hs, Heap.SameBut a s.heap h' → hs.toList.Perm gs.toList → SetTab w h' a hs → ∀ b, Q b { s with heap := h' } := fun h' hs sb pe tb b => by
      refine hQ h' b sb ?_
      rw [if_neg hk]
      refine ⟨List.nodup_cons.mpr ⟨hk, nd⟩, hs, tb, (pe.map txtOf).trans pk, fun e he => ?_⟩
      rcases List.mem_cons.mp (pc.mem_iff.mp (pe.mem_iff.mp he)) with z | z
      · rw [z]
        exact ⟨k, tk, rfl, rfl⟩
      · exact y.2 e z
    have gw : ∀ (b : Bool) {s1 : Shared} {Z : Unit → Shared → Prop}, Z () s1 → wpAny (model P w) A (match b with | true => rule "set.scan.the-table-gave-way" | false => pure ()) Z E s1 := by
      intro b s1 Z z
      cases b
      · exact wpAny_pure z
      · exact wpAny_rule z
    apply wpAny_bind
    refine gw _ ?_
    split
    · apply wpAny_bind
      rw [hashByValue_scannable 8 sc]
      apply wpAny_pure
      refine put_tab ho hex hd ?_ (by rw [sz]; exact room) ?_ ?_ ?_ ?_
      · intro b s1 Z z
        cases b
        · exact wpAny_pure z
        · exact wpAny_rule z
      · split
        · exact f1
        · exact SetTable.fits_plain_off f1
      · split <;> exact r1
      · split <;> exact lu
      · intro h' hs sb pe tb
        dsimp only
        exact wpAny_pure (fin h' hs sb pe tb _)
    · apply wpAny_bind
      apply wpAny_pure
      simp only [↓reduceIte]
      refine put_tab ho hex hd ?_ (by rw [sz]; exact room) f1 r1 lu ?_
      · intro b s1 Z z
        cases b
        · exact wpAny_pure z
        · exact wpAny_rule z
      · intro h' hs sb pe tb
        dsimp only
        exact wpAny_pure (fin h' hs sb pe tb _)
end
end Op

namespace Op
open PySem PySem.Spec PyProof.Rows L2 SX OpC
/-! ## set(xs) of a list of texts -/
abbrev emp (w : World) : Obj := { cls := .type "set", dict := none, data := .set #[] 0 (.fresh 0 0 (!w.params.followText "set-order")) }
theorem strSet_new {P : Program} {w : World} {h : Heap} {a : Addr} (e : h.get? a = some (emp w)) : StrSet P w h a [] := by
  refine ⟨.nil, #[], ⟨_, 0, _, e, ⟨rfl, rfl, rfl⟩, rfl, by decide, by rfl, List.Pairwise.nil, ?_⟩, .rfl, fun x hx => by simp at hx⟩
  show _ ∨ (!w.params.followText "set-order") = true
  cases w.params.followText "set-order"
  · exact .inr rfl
  · exact .inl rfl
section
variable {P : Program} {w : World} {A : Around} {E : Value → Shared → Prop} {s : Shared}
/-- the texts met so far are in the set -/
def MetAt (P : Program) (w : World) (h : Heap) (S : Addr) (xs : List Str) (n : Nat) : Prop := ∃ L, (∀ z, z ∈ L ↔ z ∈ xs) ∧ L.length ≤ n ∧ StrSet P w h S L
theorem loop_txt {I : Addr} {fp wr : List Addr} {G : Array GenState → Array GenState → Prop} {n : Nat} {Pv : Nat → Value → Prop} {St : Nat → Shared → Prop} {R : Result → Shared → Prop} (W : WalksS P w A.in1 I fp wr G n Pv St) (S : Addr) (hS : S ∉ fp) (xs : List Str) (hn : n = xs.length) (hb : xs.length + 1 < scanBound)
    (hv : ∀ i v, Pv i v → ∃ x t, xs[i]? = some x ∧ v = Value.str x t) : ∀ (m i : Nat) (s : Shared), n - i = m → i ≤ n → St i s → MetAt P w s.heap S (xs.take i) i →
      (∀ s1, Moved (S :: wr) G s s1 → MetAt P w s1.heap S xs n → R (.ok (.ret .none)) s1) → codeAny (model P w) A (.builtin "set.update.loop" ⟨[.ref S, .ref I], []⟩) R s := by
  have nw : S ∉ wr := fun z => hS (W.sub _ z)
  have up : ∀ b ∈ wr, b ∈ S :: wr := fun b z => List.mem_cons_of_mem _ z
  intro m
  induction m with
  | zero =>
    intro i s hm hi hst ⟨L, h1, h2, h3⟩ hR
    obtain rfl : i = n := by omega
    apply codeAny_builtin F.entry_set_update_loop
    rw [Around.under_plainId F.plain_set_update_loop _]
    show wpAny _ A.in1 (pyNext (.ref I) >>= _) _ _ s
    apply wpAny_bind
    refine W.done s _ _ hst fun s1 mv => ?_
    show wpAny _ A.in1 (ret Value.none) _ _ s1
    rw [List.take_of_length_le (by omega)] at h1
    apply wpAny_pure
    exact hR s1 (mv.mono up) ⟨L, h1, h2, h3.at fun o e => mv.heap S o nw e⟩
  | succ m ih =>
    intro i s hm hi hst ⟨L, h1, h2, h3⟩ hR
    have lt : i < n := by omega
    apply codeAny_builtin F.entry_set_update_loop
    rw [Around.under_plainId F.plain_set_update_loop _]
    show wpAny _ A.in1 (pyNext (.ref I) >>= _) _ _ s
    apply wpAny_bind
    refine W.item i s _ _ lt hst fun v s1 hp hst1 mv => ?_
    obtain ⟨x, t, hx, rfl⟩ := hv i v hp
    have g3 : StrSet P w s1.heap S L := h3.at fun o e => mv.heap S o nw e
    show wpAny _ A.in1 (holding [Value.str x t] (setAdd S (.str x t)) >>= _) _ _ s1
    apply wpAny_bind
    apply wpAny_holding
    unfold setAdd
    apply wpAny_holding
    apply wpAny_bind
    refine (PySem.strKind P w).pyHash (k := x) (strKind_is _ _ _ _) ?_
    refine add_txt (s := { s1 with toks := s1.toks + 1 }) g3 (by omega) fun h' b sb g4 => ?_
    have met : MetAt P w h' S (xs.take (i + 1)) (i + 1) := by
      refine ⟨_, fun z => ?_, ?_, g4⟩
      · rw [List.take_succ, hx, List.mem_append, ← h1 z]
        by_cases hm : x ∈ L
        · rw [if_pos hm]
          constructor
          · exact .inl
          · rintro (q | q)
            · exact q
            · have : z = x := by simpa using q
              rw [this]
              exact hm
        · rw [if_neg hm, List.mem_cons]
          constructor
          · rintro (q | q)
            · exact .inr (by simp [q])
            · exact .inl q
          · rintro (q | q)
            · exact .inr q
            · exact .inl (by simpa using q)
      · split
        · omega
        · rw [List.length_cons]; omega
    apply wpAny_pure
    refine ⟨plainId_quiet F.plain_set_update_loop _, ih (i + 1) _ (by omega) lt (W.frame _ s1 _ _ hst1 (Nat.le_succ _) fun b hb o e => ?_) met fun s2 mv2 m2 => ?_⟩
    · rw [sb.2 b (fun z : b = S => hS (by rw [← z]; exact hb))]
      exact e
    · refine hR s2 (Moved.trans W.gtrans ((mv.mono up).then_heap (Nat.le_succ _) fun b o hb e => ?_) mv2) m2
      rw [sb.2 b (fun z : b = S => hb (by rw [z]; exact List.mem_cons_self))]
      exact e
set_option maxHeartbeats 3200000 in
theorem set_txts {l : Addr} {its : Array Value} {xs : List Str} {Q : Value → Shared → Prop} (hh : A.handled = none) (hl : s.heap.IsList l its) (hi : StrsAre its.toList xs) (hb : xs.length + 1 < scanBound)
    (h : ∀ h' tk, MetAt P w h' s.heap.objs.size xs xs.length → (∀ b o, s.heap.get? b = some o → h'.get? b = some o) → Q (.ref s.heap.objs.size) { s with heap := h', toks := tk }) : wpAny (model P w) A (call (.type "set") [.ref l]) Q E s := by
  have sz : its.size = xs.length := by
    have q := StrsAre.len_eq hi
    rw [Array.length_toList] at q
    exact q
  obtain ⟨c, tl, k0⟩ := F.called_set.mro
  have k1 := F.called_set.made
  have k2 := F.called_set.sub
  apply wpAny_call
  apply codeAny_of_tree
  show wpAny _ _ (callAny (.type "set") _) _ _ _
  apply wpAny_pure
  refine ⟨Code.quiet_builtin _ (by decide +kernel), ?_⟩
  apply codeAny_builtin F.entry_type_call
  rw [Around.under_plain (weight_type_call_type "set" [.ref l] []) rfl]
  have k3 := F.called_set.notType
  have k4 := F.called_set.canCreate
  have k5 := F.typeCall_set_1 (.ref l)
  repeat (any_goals (first | assumption | wp_step))
  refine codeAny_mono (code_set_led1 (.ref l) (E := E) (Q₁ := fun u s1 => u = .ref s.heap.objs.size ∧ s1 = { s with heap := s.heap.push (emp w) }) ⟨rfl, rfl⟩) fun r s1 hr => ?_
  match r, hr with
  | .error _, hr => exact hr
  | .ok (.ret u), hr =>
    obtain ⟨rfl, rfl⟩ := hr
    have z0 : (s.heap.push (emp w)).get? s.heap.objs.size = some (emp w) := Heap.get?_push_size _ rfl
    have zT : Shared.TypeIs { s with heap := s.heap.push (emp w) } (.ref s.heap.objs.size) "set" := ⟨_, z0, rfl⟩
    have zl := F.called_set.init.lookup
    have zb := F.called_set.init.bind (.ref s.heap.objs.size)
    repeat (any_goals (first | assumption | wp_step))
    refine codeAny_mono (codeAny_call_builtin (R := wants (fun r s2 => r = .none ∧ ∃ h' tk, s2 = { s with heap := h', toks := tk } ∧ MetAt P w h' s.heap.objs.size xs xs.length ∧ (∀ b o, s.heap.get? b = some o → h'.get? b = some o)) E) F.called_set.init.plain F.entry_set_init (check_set_init_1 zT ?_)) fun r2 s2 hr2 => ?_
    · obtain ⟨⟨oc, od, oda, osl⟩, hol, w1, nl, w2⟩ := hl
      simp only at w1 w2
      subst w1
      subst w2
      have el : (s.heap.push (emp w)).get? l = some { cls := .type "list", dict := od, data := .seq its nl, slots := osl } := Heap.get?_push_of_some _ hol
      have m1 := F.sub_list_set
      have m2 := F.sub_list_frozenset
      have m3 : (Value.type "list" == Value.type "dict") = false := by decide
      have hl1 : (s.heap.push (emp w)).IsList l its := ⟨_, el, rfl, nl, rfl⟩
      unfold Builtin.«set.__init__» noKeywords Builtin.Frozenset.updateFrom
      generalize hPI : pyIter = PI
      wp_walk
      subst hPI
      apply wpAny_pyIter_list hl1
      apply wpAny_bind
      apply wpAny_runValue
      have lS : l < s.heap.objs.size := Heap.lt_size hol
      have h3 : A.in1.in1.in1.handled = none := by simp [hh]
      have nI : l ≠ (s.heap.push (emp w)).objs.size := by
        rw [Heap.size_push]
        exact Nat.ne_of_lt (Nat.lt_succ_of_lt lS)
      have nS : s.heap.objs.size ∉ [(s.heap.push (emp w)).objs.size, l] := by
        rw [Heap.size_push]
        simp only [List.mem_cons, List.not_mem_nil, or_false, not_or]
        exact ⟨Nat.ne_of_lt (Nat.lt_succ_self _), Nat.ne_of_gt lS⟩
      have val : ∀ (i : Nat) (v : Value), its[i]? = some v → ∃ x t, xs[i]? = some x ∧ v = Value.str x t := fun i v hv => by
        have lt : i < xs.length := by rw [← sz]; exact (Array.getElem?_eq_some_iff.mp hv).1
        obtain ⟨t, e⟩ := SS.strs_at hi i v (by rw [Array.getElem?_toList]; exact hv)
        refine ⟨xs[i], t, List.getElem?_eq_getElem lt, ?_⟩
        rw [e, List.getD_eq_getElem?_getD, List.getElem?_eq_getElem lt]
        rfl
      refine loop_txt ((Walks.list h3 _ l nI its).toS) s.heap.objs.size nS xs sz hb val (its.size - 0) 0 _ (by omega) (Nat.zero_le _) ⟨⟨_, Heap.get?_push_size _ rfl, rfl, rfl⟩, hl1.push _⟩ ?_ ?_
      · exact ⟨[], fun z => by simp, Nat.le_refl _, strSet_new (Heap.get?_push_of_some _ z0)⟩
      · intro s3 mv met
        obtain ⟨h', g', d', t', o'⟩ := s3
        have e1 : g' = s.gens := mv.gens
        have e2 : d' = s.drawn := mv.drawn
        have e3 : o' = s.os := mv.os
        subst e1
        subst e2
        subst e3
        show wpAny _ _ _ _ _ _
        apply wpAny_pure
        show wpAny _ _ (ret Value.none) _ _ _
        apply wpAny_pure
        rw [sz] at met
        refine ⟨rfl, h', t', rfl, met, fun b o e => ?_⟩
        have b0 : b < s.heap.objs.size := Heap.lt_size e
        refine mv.heap b o ?_ (Heap.get?_push_of_some _ (Heap.get?_push_of_some _ e))
        simp only [List.mem_cons, List.not_mem_nil, or_false, not_or]
        refine ⟨Nat.ne_of_lt b0, ?_⟩
        rw [Heap.size_push]
        exact Nat.ne_of_lt (Nat.lt_succ_of_lt b0)
    · match r2, hr2 with
      | .error _, hr2 => exact hr2
      | .ok (.ret _), hr2 =>
        obtain ⟨rfl, h', t', rfl, met, kp⟩ := hr2
        repeat (any_goals (first | assumption | wp_step))
        exact h _ _ met kp
      | .ok .next, hr2 => exact hr2.elim
      | .ok .brk, hr2 => exact hr2.elim
      | .ok .cont, hr2 => exact hr2.elim
  | .ok .next, hr => exact hr.elim
  | .ok .brk, hr => exact hr.elim
  | .ok .cont, hr => exact hr.elim
end
end Op

namespace Op
open PySem PySem.Spec PyProof.Rows L2 SX OpC
/-! ## sorted(a set of texts) -/
/-- ys has the texts of xs, ascending, each once -/
def AscOf (ys xs : List Str) : Prop := sortedS ys = true ∧ ys.Nodup ∧ ∀ z, z ∈ ys ↔ z ∈ xs
theorem cps_le {a b : List Nat} : ltCps b a = false ↔ a ≤ b := by
  rw [ltCps_eq]
  rw [decide_eq_false_iff_not]
  exact Iff.rfl
theorem rises : ∀ {p : Str} {l : List Str}, risingS p l = true → ∀ z ∈ l, p.cps.toList ≤ z.cps.toList
  | p, [], _, z, hz => by cases hz
  | p, x :: r, h, z, hz => by
    have h' : (!ltCps x.cps.toList p.cps.toList && risingS x r) = true := h
    rw [Bool.and_eq_true] at h'
    have a : p.cps.toList ≤ x.cps.toList := cps_le.mp (by simpa using h'.1)
    rcases List.mem_cons.mp hz with e | e
    · rw [e]
      exact a
    · exact List.le_trans a (rises h'.2 z e)
theorem sorted_tail {p : Str} {l : List Str} (h : risingS p l = true) : sortedS l = true := by
  cases l with
  | nil => rfl
  | cons x r =>
    have h' : (!ltCps x.cps.toList p.cps.toList && risingS x r) = true := h
    rw [Bool.and_eq_true] at h'
    exact h'.2
theorem asc_same : ∀ {ys zs : List Str}, sortedS ys = true → ys.Nodup → sortedS zs = true → zs.Nodup → (∀ z, z ∈ ys ↔ z ∈ zs) → ys = zs
  | [], [], _, _, _, _, _ => rfl
  | [], z :: zs, _, _, _, _, h => nomatch (h z).mpr List.mem_cons_self
  | y :: ys, [], _, _, _, _, h => nomatch (h y).mp List.mem_cons_self
  | y :: ys, z :: zs, s1, n1, s2, n2, h => by
    have r1 := rises (p := y) (l := ys) s1
    have r2 := rises (p := z) (l := zs) s2
    have e : y = z := by
      rcases List.mem_cons.mp ((h y).mp List.mem_cons_self) with a | a
      · exact a
      rcases List.mem_cons.mp ((h z).mpr List.mem_cons_self) with b | b
      · exact b.symm
      have q : y.cps.toList = z.cps.toList := List.le_antisymm (r1 z b) (r2 y a)
      obtain ⟨yc⟩ := y
      obtain ⟨zc⟩ := z
      exact congrArg Str.mk (Array.toList_inj.mp q)
    subst e
    have n1' := List.nodup_cons.mp n1
    have n2' := List.nodup_cons.mp n2
    refine congrArg (y :: ·) (asc_same (sorted_tail s1) n1'.2 (sorted_tail s2) n2'.2 fun x => ?_)
    constructor
    · intro hx
      rcases List.mem_cons.mp ((h x).mp (List.mem_cons_of_mem _ hx)) with a | a
      · exact absurd (a ▸ hx) n1'.1
      · exact a
    · intro hx
      rcases List.mem_cons.mp ((h x).mpr (List.mem_cons_of_mem _ hx)) with a | a
      · exact absurd (a ▸ hx) n2'.1
      · exact a
theorem AscOf.same {ys zs xs xs' : List Str} (a : AscOf ys xs) (b : AscOf zs xs') (h : ∀ z, z ∈ xs ↔ z ∈ xs') : ys = zs :=
  asc_same a.1 a.2.1 b.1 b.2.1 fun z => (a.2.2 z).trans ((h z).trans (b.2.2 z).symm)
section
variable {P : Program} {w : World} {A : Around} {E : Value → Shared → Prop} {s : Shared}
theorem txts_are : ∀ {l : List (Int × Value)}, (∀ e ∈ l, ∃ x t, e.2 = Value.str x t) → ∀ {vs : List Value}, vs = l.map (·.2) → StrsAre vs (l.map txtOf)
  | [], _, _, e => by subst e; exact .nil
  | x :: l, h, _, e => by
    subst e
    obtain ⟨y, t, h1⟩ := h x List.mem_cons_self
    have h2 : txtOf x = y := by unfold txtOf; rw [h1]
    rw [List.map_cons, List.map_cons, h1, h2]
    exact .cons y t (txts_are (fun e he => h e (List.mem_cons_of_mem _ he)) rfl)
theorem strs_of_all : ∀ (vs : List Value), (∀ v ∈ vs, ∃ x t, v = Value.str x t) → ∃ xs, StrsAre vs xs ∧ xs = vs.map (fun v => txtOf (0, v))
  | [], _ => ⟨[], .nil, rfl⟩
  | v :: vs, h => by
    obtain ⟨x, t, e⟩ := h v List.mem_cons_self
    obtain ⟨xs, h1, h2⟩ := strs_of_all vs fun u hu => h u (List.mem_cons_of_mem _ hu)
    subst e
    exact ⟨x :: xs, .cons x t h1, by rw [h2]; rfl⟩
theorem sorted_txts {a : Addr} {xs : List Str} {n : Nat} {Q : Value → Shared → Prop} (m : MetAt P w s.heap a xs n) (hh : A.handled = none) (room : n < sizeLine)
    (hQ : ∀ s' p (out : Array Value) (c : Nat) (ys : List Str), (∀ b o, s.heap.get? b = some o → s'.heap.get? b = some o) → s'.gens = s.gens → s'.os = s.os → s.heap.objs.size ≤ p →
      s'.heap.get? p = some (seqObj "list" out c) → StrsAre out.toList ys → AscOf ys xs → ys.length ≤ n → Q (.ref p) s') :
    wpAny (model P w) A (call (.builtin "sorted") [.ref a]) Q E s := by
  obtain ⟨L, hm, hn, nd, fs, ⟨o, ep, t, ho, hex, hd, hb, hf, hr, hl⟩, pL, hE⟩ := m
  refine Calls.call_function_entry kind_sorted plain_sorted entry_sorted (args_sorted1 _) ?_
  unfold Builtin.«sorted»
  refine wpAny_bind (m := checkCount "sorted" 1 1 _) (wpAny_pure ?_)
  refine wpAny_bind (L2.collect_set (A := A.in1) hh ⟨o, ho, hex.1, hd⟩ hf hb hr hl fun s1 vs k1 hz g1 o1 pm => ?_)
  have all : ∀ v ∈ vs, ∃ x t, v = Value.str x t := fun v hv => by
    obtain ⟨e, he, q⟩ := List.mem_map.mp (pm.mem_iff.mp hv)
    obtain ⟨x, t, h1, _⟩ := hE e he
    exact ⟨x, t, by rw [← q]; exact h1⟩
  obtain ⟨us, hS, hus⟩ := strs_of_all vs all
  have pu : us.Perm L := by
    rw [hus]
    refine (pm.map _).trans ?_
    rw [List.map_map]
    exact pL
  have vl : vs.length = L.length := by
    have q := StrsAre.len_eq hS
    rw [q, pu.length_eq]
  refine wpAny_bind (wpAny_newList ?_ (by rw [vl]; omega))
  have hoL : (s1.heap.push (seqObj "list" vs.toArray 0)).get? s1.heap.objs.size = some (seqObj "list" vs.toArray 0) := Heap.get?_push_size _ rfl
  refine wpAny_bind (wpAny_holding (wpAny_call_entry slot_list_sort ⟨_, hoL, rfl⟩ entry_list_sort
    (list_sort_treeKAny strKind_oneLt hoL hS.keysOf (fun v₁ v₂ rest e => keyKind_strs (by rw [← e]; exact hS)) (by rw [vl]; omega) fun st' hp hs => ⟨_, rfl, ?_⟩) (args_list_sort _)))
  obtain ⟨ys, b1, b2, b3⟩ := sorted_out_str hS hp hs
  obtain ⟨c, hc⟩ := sortedHeap_at (vs := vs) (out := (arrOf st').map (·.2)) hoL
  have py : ys.Perm L := b2.trans pu
  refine wpAny_pure ⟨_, rfl, hQ _ s1.heap.objs.size _ c ys (fun b u e => ?_) g1 o1 hz hc b1 ⟨b3, py.nodup_iff.mpr nd, fun z => by rw [py.mem_iff]; exact hm z⟩ (by rw [py.length_eq]; exact hn)⟩
  have q := k1 b u e
  have hlt := Heap.lt_size q
  show (sortedHeap (s1.heap.push (seqObj "list" vs.toArray 0)) s1.heap.objs.size vs _).get? b = some u
  rw [sortedHeap_old (Nat.ne_of_lt hlt) (by rw [size_push']; exact Nat.lt_succ_of_lt hlt)]
  exact Heap.get?_push_of_some _ q
end
/-- the set of some texts at a -/
def StrO (P : Program) (w : World) (a : Addr) (xs : List Str) : HO := .ext fun h => MetAt P w h a xs xs.length
theorem MetAt.at {P : Program} {w : World} {h h' : Heap} {a : Addr} {xs : List Str} {n : Nat} (x : MetAt P w h a xs n) (k : ∀ o, h.get? a = some o → h'.get? a = some o) : MetAt P w h' a xs n := by
  obtain ⟨L, h1, h2, h3⟩ := x
  exact ⟨L, h1, h2, h3.at k⟩
theorem MetAt.there {P : Program} {w : World} {h : Heap} {a : Addr} {xs : List Str} {n : Nat} (x : MetAt P w h a xs n) : ∃ o, h.get? a = some o := by
  obtain ⟨L, _, _, _, fs, ⟨o, ep, t, ho, _⟩, _⟩ := x
  exact ⟨o, ho⟩
section
variable {X : Cx}
theorem strO_ok {P : Program} {w : World} {H : Hp} {h : Heap} {a : Addr} {xs : List Str} (m : MetAt P w h a xs xs.length) : ObjOk P w H h a (StrO P w a xs) :=
  ⟨m, m.there, fun h1 h2 p k => MetAt.at p k⟩
/-- set(xs), xs a list of texts -/
def rSetL (K : PySem.W.Frag) (P : Program) (w : World) : List V → Hp → VK → Prop := fun vs H Q => ∃ (l : Addr) (xs : List Str), vs = [V.ref l] ∧ SqL K H l (xs.map V.str) ∧ xs.length + 1 < scanBound ∧ ∀ p, H p = none → Q (.ref p) (upd H p (StrO P w p xs))
theorem cr_setL (hc : X.calm = true) : CallR X (.type "set") (rSetL X.K X.prog X.w) := by
  intro pins s σ H vs us Q I r h
  obtain ⟨l, xs, rfl, hs, hb, q⟩ := h
  obtain ⟨its, rv, hl, _⟩ := I.list hs
  rw [Vals.ref1 r]
  refine set_txts (I.ok.hd hc) hl.isList (by rw [List.toList_toArray]; exact rv.strs) hb fun h' tk m k => ?_
  exact ⟨.ref _, upd H s.heap.objs.size (StrO X.prog X.w s.heap.objs.size xs), I.laid (t' := tk) k (Nat.le_refl _) (strO_ok m), rfl, q _ (I.hok.fresh (Nat.le_refl _))⟩
/-- sorted(a set of texts) -/
def rSortStr (P : Program) (w : World) : List V → Hp → VK → Prop := fun vs H Q => ∃ (a : Addr) (xs : List Str), vs = [V.ref a] ∧ H a = some (StrO P w a xs) ∧ xs.length < sizeLine ∧
  ∀ (ys : List Str) (p : Addr), AscOf ys xs → ys.length ≤ xs.length → H p = none → Q (.ref p) (upd H p (.lst (ys.map V.str)))
theorem cr_sortStr (hc : X.calm = true) : CallR X (.builtin "sorted") (rSortStr X.prog X.w) := by
  intro pins s σ H vs us Q I r h
  obtain ⟨a, xs, rfl, ha, room, q⟩ := h
  have m : MetAt X.prog X.w s.heap a xs xs.length := (I.hok a _ ha).1
  rw [Vals.ref1 r]
  refine sorted_txts m (I.ok.hd hc) room fun s' p out c ys k g o hp hg hi hs hl => ?_
  have hlen : (ys.map V.str).length ≤ sizeLine := by
    rw [List.length_map]
    omega
  have hn : H p = none := I.hok.fresh hp
  have J : Inv X pins σ (upd H p (.lst (ys.map V.str))) { s with heap := s'.heap, gens := s'.gens, drawn := s'.drawn, toks := s'.toks } :=
    I.call (ch := []) (Un.laid k hp hn) (I.hok.laid k hp ⟨hlen, out.toList, c, vals_of_strs hi, hg⟩) (by rw [g]; exact I.bare) (fun _ z => nomatch z)
  have e : s' = { s with heap := s'.heap, gens := s'.gens, drawn := s'.drawn, toks := s'.toks } := by
    cases s'
    cases s
    cases o
    rfl
  rw [e]
  exact ⟨.ref p, _, J, rfl, q ys p hs hl hn⟩
end
end Op

namespace Op
open PySem PySem.Spec PyProof.Rows L2 SX OpC
/-! ## in and len of own instances -/
def rInOwn (C : Addr) (sp : Sp) : R2 := fun x y H Q => (∃ a dx fs, y = .ref a ∧ H a = some (.ins C dx fs)) ∧ sp [y, x] H (fun z H' => ∃ b, z = .bl b ∧ Q z H') E0
def rLenOwn (C : Addr) (sp : Sp) : List V → Hp → VK → Prop := fun vs H Q => ∃ a dx fs, vs = [.ref a] ∧ H a = some (.ins C dx fs) ∧ sp [.ref a] H (fun z H' => ∃ n : Nat, z = .int n ∧ n < 2 ^ 63 ∧ Q z H') E0
section
variable {X : Cx} {k j : Nat} {C : Addr} {m : Str} {sp : Sp}
theorem in_own (c : Cm X.prog X.w X.K X.mg X.base k C "__contains__" sp) (hr : Room j X.A) (hk : k ≤ j) : OpR X (compareOp .In) (rInOwn C sp) := by
  intro pins s σ H x y v u Q I rx ry h
  obtain ⟨⟨a, dx, fs, rfl, ha⟩, h⟩ := h
  obtain ⟨f, fd, ps, F, M, bd⟩ := c.ex
  obtain ⟨mA, O1, _⟩ := ins_get I.hok ha
  obtain ⟨od, J1, _⟩ := O1.look
  obtain ⟨mf, fr⟩ := I.fr
  cases ry
  refine PySem.W.in_K fr I.ok.mod.kin J1 M.at_ M.fn ?_
  refine wpAny_mono (run_fnS (E := fun _ => E0) F (hr.mono hk) bd (passE0 σ) I (vs := [.ref a, x]) (.cons (rfl : L2.RelV (.ref a) (.ref a)) (.cons rx .nil)) h) (fun r s' q => ?_) fun _ _ z => z
  obtain ⟨z, H', J, rz, b, rfl, q⟩ := q
  cases rz
  exact wpAny_pure ⟨.bl b, H', J, rfl, q⟩
/-- a def run one call deeper -/
theorem run_deep {f : Addr} {fd : FuncData} {ps : List Str} {pins : List (Addr × Obj)} {σ : L2.St} {H : Hp} {s : Shared} {Q : VK} {us : List Value} {vs : List V} (F : FnOk X.prog X.w X.K X.mg X.base (L2.CX X.prog X.w) k f fd ps sp) (hr : Room k X.A.in1) (bd : Binds X.K fd ps []) (I : Inv X pins σ H s) (rv : Vals vs us) (h : sp vs H Q E0) :
    wpAny (model X.prog X.w) X.A.in1 (call (.ref f) us) (EP X pins σ Q) X.xe s := by
  have hl : us.length = ps.length := rv.length.symm.trans (F.len vs H Q E0 h)
  have b := bd s us I.kIn (by rw [List.append_nil]; exact hl)
  rw [List.append_nil] at b
  apply wpAny_call
  refine codeAny_mono (F.run X.A.in1 X.stack s H ⟨us, []⟩ us vs Q E0 hr I.env0.in1 b rv h) fun r s' z => ?_
  match r, z with
  | .error e, z => exact passE0 σ pins H s e s' I z
  | .ok (.ret u), z => exact I.after z
  | .ok .next, z => exact z.elim
  | .ok .brk, z => exact z.elim
  | .ok .cont, z => exact z.elim
theorem len_own (c : Cm X.prog X.w X.K X.mg X.base k C "__len__" sp) (hr : Room j X.A) (hk : k + 1 ≤ j) : CallR X (.builtin "len") (rLenOwn C sp) := by
  intro pins s σ H vs us Q I r h
  obtain ⟨a, dx, fs, rfl, ha, h⟩ := h
  obtain ⟨f, fd, ps, F, M, bd⟩ := c.ex
  obtain ⟨mA, O1, _⟩ := ins_get I.hok ha
  obtain ⟨od, J1, _⟩ := O1.look
  obtain ⟨mf, fr⟩ := I.fr
  rw [Vals.ref1 r]
  refine PySem.W.len_K fr I.ok.mod.kin J1 M.at_ M.fn ?_
  refine wpAny_mono (run_deep F (hr.mono hk).in1 bd I (vs := [.ref a]) (.cons (rfl : L2.RelV (.ref a) (.ref a)) .nil) h) (fun r s' q => ?_) fun _ _ z => z
  obtain ⟨z, H', J, rz, n, rfl, hn, q⟩ := q
  obtain ⟨t, rfl⟩ := rz
  exact ⟨⟨by omega, by omega⟩, .int n, H', J.tok _, ⟨_, rfl⟩, q⟩
end
theorem g_lenO {C : Addr} {sp : Sp} {v : V} {H : Hp} {Q : VK} {dx : Addr} {fs : List (Str × V)} {a : Addr} (e : v = .ref a) (h : H a = some (.ins C dx fs)) (k : sp [.ref a] H (fun z H' => ∃ n : Nat, z = .int n ∧ n < 2 ^ 63 ∧ Q z H') E0) : rLenOwn C sp [v] H Q := ⟨a, dx, fs, by rw [e], h, k⟩
/-! ## one form at a place -/
theorem S_one {a b : List Nat} (h : S a = S b) : a = b := by
  have z := congrArg (fun x : Str => x.cps.toList) h
  simpa [S] using z
theorem fm_one {H : Hp} : ∀ {v : V} {a b : Fm}, FmAt H v a → FmAt H v b → a = b := by
  intro v a b h
  induction h generalizing b with
  | atm e =>
    intro h2
    cases h2 with
    | atm e2 =>
      rw [e] at e2
      injection e2 with e2
      injection e2 with e2
      injection e2 with i1 i2
      injection i2 with i2 _
      injection i1 with i1
      injection i2 with i2
      rw [i1, S_one i2]
    | un e2 f2 =>
      rw [e] at e2
      injection e2 with e2
      injection e2 with e2
      injection e2 with i1 i2
      injection i2 with i2 _
      rw [← i2] at f2
      cases f2
    | bi e2 _ _ =>
      rw [e] at e2
      injection e2 with e2
      injection e2 with e2
      injection e2 with i1 i2
      injection i2 with _ i2
      cases i2
  | un e f ih =>
    intro h2
    cases h2 with
    | atm e2 =>
      rw [e] at e2
      injection e2 with e2
      injection e2 with e2
      injection e2 with i1 i2
      injection i2 with i2 _
      rw [i2] at f
      cases f
    | un e2 f2 =>
      rw [e] at e2
      injection e2 with e2
      injection e2 with e2
      injection e2 with i1 i2
      injection i2 with i2 _
      injection i1 with i1
      rw [← i2] at f2
      rw [i1, ih f2]
    | bi e2 _ _ =>
      rw [e] at e2
      injection e2 with e2
      injection e2 with e2
      injection e2 with i1 i2
      injection i2 with _ i2
      cases i2
  | bi e f g ih1 ih2 =>
    intro h2
    cases h2 with
    | atm e2 =>
      rw [e] at e2
      injection e2 with e2
      injection e2 with e2
      injection e2 with i1 i2
      injection i2 with _ i2
      cases i2
    | un e2 f2 =>
      rw [e] at e2
      injection e2 with e2
      injection e2 with e2
      injection e2 with i1 i2
      injection i2 with _ i2
      cases i2
    | bi e2 f2 g2 =>
      rw [e] at e2
      injection e2 with e2
      injection e2 with e2
      injection e2 with i1 i2
      injection i2 with i2 i3
      injection i3 with i3 _
      injection i1 with i1
      rw [← i2] at f2
      rw [← i3] at g2
      rw [i1, ih1 f2, ih2 g2]
/-- what is asked of a form, asked of the value at which it stands -/
theorem form_fn (H : Hp) (φ : Fm → Bool) : ∃ e : Value → Bool, ∀ {v : V} {z : Value} {g : Fm}, FmAt H v g → RelV v z → e z = φ g := by
  classical
  refine ⟨fun z => if h : ∃ (p : Addr) (g : Fm), z = .ref p ∧ FmAt H (.ref p) g then φ h.choose_spec.choose else false, fun {v z g} f r => ?_⟩
  have hp : ∃ p, v = .ref p := by
    cases f with
    | atm e => exact ⟨_, rfl⟩
    | un e _ => exact ⟨_, rfl⟩
    | bi e _ _ => exact ⟨_, rfl⟩
  obtain ⟨p, rfl⟩ := hp
  cases r
  have h : ∃ (p' : Addr) (g : Fm), Value.ref p = .ref p' ∧ FmAt H (.ref p') g := ⟨p, g, rfl, f⟩
  show (if h : ∃ (p' : Addr) (g : Fm), Value.ref p = .ref p' ∧ FmAt H (.ref p') g then φ h.choose_spec.choose else false) = φ g
  rw [dif_pos h]
  obtain ⟨e1, e2⟩ := h.choose_spec.choose_spec
  have e3 : h.choose = p := (Value.ref.inj e1).symm
  have f' : FmAt H (.ref h.choose) g := by
    rw [e3]
    exact f
  rw [fm_one e2 f']
/-! ## a form among a list of forms -/
def rInFs (K : PySem.W.Frag) : R2 := fun x y H Q => ∃ (l : Addr) (us : List V) (gs : List Fm) (a : Fm), y = .ref l ∧ SqL K H l us ∧ FsAt H us gs ∧ FmAt H x a ∧ a.ok = true ∧ a.dep ≤ 60 ∧ (∀ g ∈ gs, g.ok = true) ∧ Q (.bl (gs.any fun g => PyData.eqv g.data a.data)) H
theorem op_inFs {X : Cx} {K : PySem.W.Frag} (hK : X.K = K) (hu : X.A.units + 64 < cLine) : OpR X (compareOp .In) (rInFs K) := by
  subst hK
  intro pins s σ H x y v u Q I rx ry h
  obtain ⟨l, us, gs, a, rfl, hq, hf, ha, oa, da, og, q⟩ := h
  cases ry
  obtain ⟨its, r, pl, hz⟩ := I.list hq
  obtain ⟨as, r1⟩ := Dp.reads I _ x v (dp_fm ha) rx
  have dd := Fm.depth_le a
  obtain ⟨e, he⟩ := form_fn H fun g : Fm => PyData.eqv g.data a.data
  have items : ∀ {us : List V} {gs : List Fm} {its : List Value}, FsAt H us gs → Vals us its → (∀ g ∈ gs, g.ok = true) → its.any e = gs.any (fun g => PyData.eqv g.data a.data) ∧ ∀ z ∈ its, SeqAt.EqAt X.A.in1 s z v (e z) := by
    intro us gs its hf
    induction hf generalizing its with
    | nil =>
      intro r _
      cases r
      exact ⟨rfl, fun e he => nomatch he⟩
    | @cons w ws g gs' hg hr ih =>
      intro r og
      cases r with
      | @cons _ z _ zs rz rr =>
        obtain ⟨h1, h2⟩ := ih rr fun g' hg' => og g' (List.mem_cons_of_mem _ hg')
        obtain ⟨bs, r2⟩ := Dp.reads I _ w z (dp_fm hg) rz
        have ez := he hg rz
        refine ⟨by rw [List.any_cons, List.any_cons, h1, ez], fun y hy => ?_⟩
        rcases List.mem_cons.mp hy with rfl | hy
        · rw [ez]
          exact SeqAt.eqAt_reads g.data a.data X.A.in1 s y v _ as r2 r1 (Fm.lay (og g List.mem_cons_self)) (Fm.lay oa) (by show X.A.units + 1 + min g.data.depth a.data.depth < cLine; omega)
        · exact h2 y hy
  obtain ⟨h1, h2⟩ := items hf r og
  refine SeqAt.in_listAt e pl.isList (fun w hw => h2 w (by simpa using hw)) ⟨.bl _, H, I, rfl, ?_⟩
  rw [List.any_toArray, h1]
  exact q
theorem ix_tupK {X : Cx} {K : PySem.W.Frag} (hK : X.K = K) : IxR X (rIxT K) := by
  subst hK
  exact ix_tup
/-! ## comprehensions over a list, whose tests and items change nothing -/
def rLcLF (K : PySem.W.Frag) (j : Nat) (tt : TT) (te : TE) (vs : List Nat) (σ : L2.St) (v : V) (H : Hp) (Q : VK) : Prop := ∃ a, v = .ref a ∧ (∃ xs, SqL K H a xs) ∧ ∀ D, H D = none → ∃ W : Nat → Nat → Hp → Prop, (∃ m, W 0 m (upd H D (.lst []))) ∧ ∀ i m H, W i m H →
  ((Itl K a).stop i H ∧ Q (.ref D) H) ∨ ((Itl K a).go i H ∧ ∃ Nx : Hp → Prop, (∀ H', Nx H' → ∃ m', m' < m ∧ W (i + 1) m' H') ∧ ∀ x H', (Itl K a).yld i H x H' → gName j x (wipe σ vs) H' fun σ2 H2 => wipe σ2 vs = wipe σ vs ∧ tt σ2 H2 fun b H3 =>
    if b = true then te σ2 H3 fun y H4 => ∃ acc, H4 D = some (.lst acc) ∧ acc.length < sizeLine ∧ Nx (upd H4 D (.lst (acc ++ [y]))) else Nx H3)
theorem g_lcLF {K : PySem.W.Frag} {σ : L2.St} {H : Hp} {Q : VK} {tl : TE} {tt : TT} {te : TE} {j : Nat} {vs : List Nat} (k : tl σ H fun v H1 => rLcLF K j tt te vs σ v H1 Q) : tLc (iList K tl) (gName j) tt te vs σ H Q := k
theorem r_lcLF {K : PySem.W.Frag} {σ : L2.St} {H : Hp} {Q : VK} {tt : TT} {te : TE} {j : Nat} {a : Addr} {xs : List V} {vs : List Nat} (b : V → Bool) (f : V → V) (hT : ∀ H2, Same H H2 → SqL K H2 a xs) (hl : xs.length < 1000000) (hw : ∀ x, wipe ((wipe σ vs).set j (some x)) vs = wipe σ vs)
    (ht : ∀ x H2 (R : Bool → Hp → Prop), x ∈ xs → Same H H2 → R (b x) H2 → tt ((wipe σ vs).set j (some x)) H2 R) (he : ∀ x H2 (R : VK), x ∈ xs → b x = true → Same H H2 → R (f x) H2 → te ((wipe σ vs).set j (some x)) H2 R)
    (k : ∀ D, H D = none → Q (.ref D) (upd H D (.lst ((xs.filter b).map f)))) : rLcLF K j tt te vs σ (.ref a) H Q := by
  refine ⟨a, rfl, ⟨xs, hT H (Same.refl H)⟩, fun D hD => ?_⟩
  have hS : ∀ l, Same H (upd H D (.lst l)) := fun l => Same.upd hD
  refine lc_list (xs := xs) (fun i H2 => H2 = upd H D (.lst (((xs.take i).filter b).map f))) rfl (fun i H2 hi p => ?_) (fun i x H2 hi p => ?_) (fun H2 p => ?_)
  · rw [p]
    exact hT _ (hS _)
  · subst p
    have hm : x ∈ xs := List.mem_of_getElem? hi
    have tk : xs.take (i + 1) = xs.take i ++ [x] := by rw [List.take_succ, hi]; rfl
    refine ⟨hw _, ht x _ _ hm (hS _) ?_⟩
    cases hb : b x with
    | false =>
      rw [if_neg Bool.false_ne_true, tk, List.filter_append, List.filter_cons, if_neg (by rw [hb]; decide), List.filter_nil, List.append_nil]
    | true =>
      rw [if_pos rfl]
      refine he x _ _ hm hb (hS _) ⟨_, upd_same, ?_, ?_⟩
      · have h1 := List.length_filter_le b (xs.take i)
        rw [List.length_take] at h1
        rw [List.length_map, sizeLine_eq]
        omega
      · rw [tk, List.filter_append, List.filter_cons, if_pos hb, List.filter_nil, List.map_append, upd_upd]
        rfl
  · subst p
    rw [List.take_of_length_le (Nat.le_refl _)]
    exact k D hD
end Op

namespace Op
open PySem PySem.Spec PyProof.Rows L2 SX OpC
local macro_rules | `(tactic| walk_at "go1") => `(tactic| first
  | ((with_reducible refine' g_var ?h ?_); (case h => rfl)) | with_reducible refine' g_c ?_ | with_reducible refine' g_op ?_ | with_reducible refine' g_un ?_ | with_reducible refine' g_if ?_ | with_reducible refine' g_test ?_ | with_reducible refine' g_B ?_ | with_reducible refine' g_bl ?_
  | with_reducible refine' g_not ?_ | with_reducible refine' g_and ?_ | with_reducible refine' g_or ?_ | with_reducible refine' g_andV ?_ | with_reducible refine' g_orV ?_ | with_reducible refine' g_notV ?_ | with_reducible refine' g_nil ?_ | with_reducible refine' g_cons ?_ | with_reducible refine' g_CB ?_ | with_reducible refine' g_ca ?_
  | with_reducible refine' g_seq ?_ | with_reducible refine' g_next ?_ | with_reducible refine' g_asg ?_ | with_reducible refine' g_name ?_ | with_reducible refine' g_ret ?_ | with_reducible refine' g_retN ?_ | with_reducible refine' g_drop ?_ | with_reducible refine' g_ifS ?_ | with_reducible refine' g_sub ?_
  | with_reducible refine' g_I0 ?_ | with_reducible refine' g_U ?_ | ((with_reducible refine' g_eq ?h ?_); (case h => rfl)) | ((with_reducible refine' g_ne ?h ?_); (case h => rfl))
  | ((with_reducible refine' g_lenL ?h ?_); (case h => first | assumption | exact SqL.of (by assumption) | exact SqL.of upd_same)) | ((with_reducible refine' g_lenT ?h ?_); (case h => first | assumption | exact SqT.of (by assumption) | exact SqT.of upd_same))
  | ((with_reducible refine' g_ixL ?h ?ha ?_); (case h => first | assumption | exact SqL.of (by assumption) | exact SqL.of upd_same); (case ha => rfl)) | ((with_reducible refine' g_ixT ?h ?ha ?_); (case h => first | assumption | exact SqT.of (by assumption) | exact SqT.of upd_same); (case ha => rfl))
  | ((with_reducible refine' g_I ?h ?_); (case h => first | decide | omega | (first | refine' ⟨?_, ?_, ?_⟩ | refine' ⟨?_, ?_⟩ | refine' Or.inl ⟨?_, ?_⟩) <;> omega | (refine' Or.inr ⟨?_, ?_⟩ <;> omega)))
  | ((with_reducible refine' g_setL ?h ?ha ?_); (case h => first | assumption | exact upd_same); (case ha => rfl))
  | with_reducible refine' g_lcR ?_
  | with_reducible refine' g_M1 ?_ | with_reducible refine' g_isS ?_ | with_reducible refine' g_tyS ?_ | ((with_reducible refine' g_tyL ?h ?_); (case h => first | assumption | exact upd_same))
  | ((with_reducible refine' g_cat ?h ?h2 ?hl ?_); (case h => first | assumption | exact upd_same); (case h2 => first | assumption | exact upd_same); (case hl => first | decide | (simp; omega)))
  | with_reducible refine' g_lcS ?_
  | with_reducible refine' g_starts ?_ | with_reducible refine' g_chain ?_
  | ((with_reducible refine' g_lenS ?h ?_); (case h => first | exact len_le (by assumption) | exact len_le (by omega))) | ((with_reducible refine' g_rstrip ?h ?_); (case h => first | exact len_le (by assumption) | exact len_le (by omega))) | ((with_reducible refine' g_slX ?h ?_); (case h => first | exact len_le (by assumption) | exact len_le (by omega)))
  | with_reducible refine' g_sl ?_ | with_reducible refine' g_nopart ?_ | with_reducible refine' g_part ?_ | with_reducible refine' g_isI ?_
  | with_reducible refine' g_tru ?_
  | with_reducible refine' iteT ?_ | with_reducible refine' iteF ?_ | with_reducible refine' iteNT ?_ | with_reducible refine' iteNF ?_
  | with_reducible refine' g_int ?_ | with_reducible refine' g_insg ?_ | with_reducible refine' g_ninsg ?_ | with_reducible refine' g_isN ?_ | with_reducible refine' g_notN ?_ | with_reducible refine' g_lst ?_ | with_reducible refine' g_tup ?_ | with_reducible refine' g_BM ?_ | with_reducible refine' g_BM0 ?_)
local macro_rules | `(tactic| walk_at "go") => `(tactic| repeat' walk_at "go1")
local macro_rules | `(tactic| walk_at "go2") => `(tactic| repeat' (first | walk_at "go1" | with_reducible refine' g_cm ?_ | with_reducible refine' g_mk ?_ | with_reducible refine' g_for ?_ | ((with_reducible refine' g_rcm ?h ?ha ?_); (case h => first | assumption | exact upd_same); (case ha => first | rfl | decide | simp [List.lookup]))))
/- macro2 -/
local macro_rules | `(tactic| walk_at "go3a") => `(tactic| first
  | walk_at "go1" | with_reducible refine' g_cm ?_ | with_reducible refine' g_mk ?_ | with_reducible refine' g_for ?_ | with_reducible refine' g_fld ?_ | with_reducible refine' g_lcT0 ?_
  | ((with_reducible refine' g_rcm ?h ?ha ?_); (case h => first | assumption | exact upd_same); (case ha => first | rfl | decide | simp [List.lookup]))
  | ((with_reducible refine' g_shape ?hc ?hn ?h ?_); (case hc => assumption); (case hn => assumption); (case h => first | assumption | exact upd_same | (rw [upd_ne (by assumption)]; assumption))))
local macro_rules | `(tactic| walk_at "go3") => `(tactic| repeat' walk_at "go3a")
local macro_rules | `(tactic| walk_at "go4") => `(tactic| repeat' (first
  | walk_at "go3a" | ((with_reducible refine' iteDT ?h ?_); (case h => first | rfl | decide +kernel)) | ((with_reducible refine' iteDF ?h ?_); (case h => decide +kernel))))
theorem kidsX {H : Hp} {v : V} {a : Fm} (h : FmAt H v a) (ok : a.ok = true) : (∃ p k t, v = .ref p ∧ a = .atm k t ∧ H p = some (.tup [.str k, .str (S t)]) ∧ atK k = true) ∨
    ∃ (p : Addr) (k : Str) (ks : List (V × Fm)), v = .ref p ∧ H p = some (.tup (.str k :: ks.map (·.1))) ∧ atK k = false ∧ (∀ y ∈ ks, FmAt H y.1 y.2 ∧ y.2.ok = true ∧ y.2.dep < a.dep) ∧ a.subs = a :: subsL (ks.map (·.2)) := by
  cases h with
  | @atm p k t h => exact .inl ⟨p, k, t, rfl, rfl, h, Fm.ok_kin ok⟩
  | @un p k w b h f =>
    simp only [Fm.ok, Bool.and_eq_true] at ok
    refine .inr ⟨p, k, [(w, b)], rfl, h, unK_at ok.1, fun y hy => ?_, ?_⟩
    · rw [List.mem_singleton.mp hy]
      exact ⟨f, ok.2, Nat.lt_succ_self _⟩
    · show Fm.un k b :: b.subs = Fm.un k b :: (b.subs ++ [])
      rw [List.append_nil]
  | @bi p k w z b c h f g =>
    simp only [Fm.ok, Bool.and_eq_true] at ok
    refine .inr ⟨p, k, [(w, b), (z, c)], rfl, h, biK_at ok.1, fun y hy => ?_, ?_⟩
    · simp only [List.mem_cons, List.not_mem_nil, or_false] at hy
      rcases hy with rfl | rfl
      · exact ⟨f, ok.2.2.1, by show b.dep < max b.dep c.dep + 1; omega⟩
      · exact ⟨g, ok.2.2.2, by show c.dep < max b.dep c.dep + 1; omega⟩
    · show Fm.bi k b c :: (b.subs ++ c.subs) = Fm.bi k b c :: (b.subs ++ (c.subs ++ []))
      rw [List.append_nil]
theorem subsL_take {ks : List (V × Fm)} {i : Nat} {y : V × Fm} (h : ks[i]? = some y) : subsL ((ks.take (i + 1)).map (·.2)) = subsL ((ks.take i).map (·.2)) ++ y.2.subs := by
  rw [List.take_succ, h, List.map_append]
  simp [subsL]
theorem subsL_take_le (ks : List (V × Fm)) (i : Nat) : (subsL ((ks.take i).map (·.2))).length ≤ (subsL (ks.map (·.2))).length := by
  have e : ks.map (·.2) = (ks.take i).map (·.2) ++ (ks.drop i).map (·.2) := by rw [← List.map_append, List.take_append_drop]
  have e2 : ∀ l m : List Fm, subsL (l ++ m) = subsL l ++ subsL m := fun l m => by simp [subsL]
  rw [e, e2, List.length_append]
  omega
def spPartsX (d : Nat) : Sp := fun vs H Q _ => ∃ (v : V) (a : Fm), vs = [v] ∧ FmAt H v a ∧ a.ok = true ∧ a.dep < d ∧ a.size ≤ 100000 ∧
  ∀ H' p us, Same H H' → H p = none → H' p = some (.lst us) → FsAt H' us a.subs → Q (.ref p) H'
section
variable {P : Program} {w : World} {K : PySem.W.Frag} {mg : Str → Option Value} {base : Heap}
theorem ca_partsX (T : Bl K mg) (D : Df K mg "_law_parts" s_law_parts p_law_parts) : ∀ d, Ca P w K mg base (1 + d) "_law_parts" (spPartsX d)
  | 0 => by
    refine ca_n D sc_law_parts (fun vs H Q E h => ?_) (fun f cdv A outer s H vs Q E hr h => ?_)
    · obtain ⟨v, a, rfl, _⟩ := h
      rfl
    · obtain ⟨v, a, rfl, _, _, hd, _⟩ := h
      exact absurd hd (Nat.not_lt_zero _)
  | d + 1 => by
    have c_law_parts := ca_partsX T D d
    refine ca_n (k := 1 + d) D sc_law_parts (fun vs H Q E h => ?_) (fun f cdv A outer s H vs Q E hr h => ?_)
    · obtain ⟨v, a, rfl, _⟩ := h
      rfl
    · obtain ⟨v, a, rfl, fa, ok, hd, hz, q⟩ := h
      refine ⟨_, (pss_cons (ps_set (i := 1) sc_law_parts.nd rfl (Or.inl rfl) (pe_lst (pa_cons (pv 0) pa_nil)))
  (pss_cons (ps_if (pt_cmpR op_notIn_seq (pe_ix ix_tup (pv 0) pe_int (fun _ _ => rfl)) (pe_tup (pa_cons pe_str (pa_cons pe_str (pa_cons pe_str pa_nil)))) rfl)
  (pss_one (ps_for PassesOwn.never rfl (pi_tup (pe_slice sl_tup (pv 0) (po_some pe_int) po_none)) (pg_name (i := 2) sc_law_parts.nd rfl (Or.inl rfl))
  (pss_one (ps_expr (pe_bm PySem.F.plainAttrs_list PySem.F.slot_list_extend PySem.F.type_list_extend mt_extend (pv 1) (pa_cons (pe_ca c_law_parts hr (by omega) (by rfl) (pa_cons (pv 2) pa_nil)) pa_nil))))))
  pss_nil)
  (pss_one (ps_ret (pv 1))))), ?_⟩
      walk_at "go3"
      refine ⟨by show 1 ≤ sizeLine; decide, fun p hp => ?_⟩
      have s1 : Same H (upd H p (.lst [v])) := Same.upd hp
      have fa1 := fa.same s1
      have e1 : upd H p (.lst [v]) p = some (.lst [v]) := upd_same
      generalize upd H p (.lst [v]) = H1 at s1 fa1 e1
      have hsz := Fm.subs_len a
      rcases kidsX fa1 ok with ⟨pa, k, t, rfl, rfl, ea, hk⟩ | ⟨pa, k, ks, rfl, ea, hk, hks, hsub⟩
      · walk_at "go3"
        refine ⟨by show 3 ≤ sizeLine; decide, fun p2 hp2 => ?_⟩
        refine g_ninT (SqT.of upd_same) rfl rfl ?_
        rw [inV_atoms, hk]
        walk_at "go3"
        exact q _ p [.ref pa] (s1.trans (Same.upd hp2)) hp (Same.upd hp2 _ _ e1) (.cons (fa1.same (Same.upd hp2)) .nil)
      · walk_at "go3"
        refine g_ixT (v := .str k) (SqT.of ea) at0 ?_
        walk_at "go3"
        refine ⟨by show 3 ≤ sizeLine; decide, fun p2 hp2 => ?_⟩
        refine g_ninT (SqT.of upd_same) rfl rfl ?_
        rw [inV_atoms, hk]
        walk_at "go3"
        refine g_forT ?_
        walk_at "go3"
        have s2 : Same H1 (upd H1 p2 (.tup [.str kWord, .str kName, .str kUnk])) := Same.upd hp2
        generalize upd H1 p2 (.tup [.str kWord, .str kName, .str kUnk]) = H2 at s2 ⊢
        refine g_slT (SqT.of (s2 _ _ ea)) (nowhole _ _) fun p3 hp3 => ?_
        rw [cut_tail]
        have np3 : p3 ≠ p := fun e => by
          rw [e, s2 _ _ e1] at hp3
          cases hp3
        have s3 : Same H2 (upd H2 p3 (.tup (ks.map (·.1)))) := Same.upd hp3
        have e3 : upd H2 p3 (.tup (ks.map (·.1))) p3 = some (.tup (ks.map (·.1))) := upd_same
        generalize upd H2 p3 (.tup (ks.map (·.1))) = H3 at s3 e3 ⊢
        have s03 : Same H H3 := s1.trans (s2.trans s3)
        have hks3 : ∀ y ∈ ks, FmAt H3 y.1 y.2 := fun y hy => ((hks y hy).1.same s2).same s3
        have hal : (subsL (ks.map (·.2))).length + 1 = a.size := by rw [← hsz, hsub]; rfl
        refine r_forT (xs := ks.map (·.1)) (fun i σ' H' => ∃ px zs, σ' = [some (.ref pa), some (.ref p), px] ∧ Same H H' ∧ Tps H3 H' ∧ H' p = some (.lst zs) ∧ FsAt H' zs (a :: subsL ((ks.take i).map (·.2)))) (SqT.of e3)
          ⟨none, [.ref pa], rfl, s03, fun _ _ z => z, s3 _ _ (s2 _ _ e1), .cons ((fa1.same s2).same s3) .nil⟩ (fun i σ' H' _ p' => ?_) (fun i x σ' H' hx p' => ?_) (fun σ' H' p' => ?_)
        · obtain ⟨_, _, _, _, t3, _⟩ := p'
          exact SqT.of (t3 _ _ e3)
        · obtain ⟨px, zs, rfl, sH, t3, ez, hza⟩ := p'
          rw [List.getElem?_map] at hx
          obtain ⟨y, hy, rfl⟩ := Option.map_eq_some_iff.mp hx
          have hm : y ∈ ks := List.mem_of_getElem? hy
          have hst := subsL_take hy
          have hle := subsL_take_le ks (i + 1)
          have hl2 := congrArg List.length hst
          rw [List.length_append] at hl2
          have hzl := hza.len
          have hyl := Fm.subs_len y.2
          rw [List.length_cons] at hzl
          walk_at "go3"
          refine ⟨y.1, y.2, rfl, (hks3 y hm).tps t3, (hks y hm).2.1, by have := (hks y hm).2.2; omega, by omega, fun H5 p5 ys s5 hp5 e5 hya => ?_⟩
          have hyl5 := hya.len
          walk_at "go3"
          refine g_ext (s5 _ _ ez) e5 (by rw [sizeLine_eq]; omega) ?_
          have t5 : Tps H5 (upd H5 p (.lst (zs ++ ys))) := Tps.lst (s5 _ _ ez)
          refine ⟨_, zs ++ ys, rfl, Same.mut (sH.trans s5) hp, t3.trans ((Tps.same s5).trans t5), upd_same, ?_⟩
          rw [hst]
          exact FsAt.append (hya.tps t5) ((hza.same s5).tps t5)
        · obtain ⟨px, zs, rfl, sH, t3, ez, hza⟩ := p'
          walk_at "go3"
          refine q _ p zs sH hp ez ?_
          rw [hsub]
          rw [List.length_map, List.take_of_length_le (Nat.le_refl _)] at hza
          exact hza
end
end Op

namespace Op
open PySem PySem.Spec PyProof.Rows L2 SX OpC
local macro_rules | `(tactic| walk_at "go1") => `(tactic| first
  | ((with_reducible refine' g_var ?h ?_); (case h => rfl)) | with_reducible refine' g_c ?_ | with_reducible refine' g_op ?_ | with_reducible refine' g_un ?_ | with_reducible refine' g_if ?_ | with_reducible refine' g_test ?_ | with_reducible refine' g_B ?_ | with_reducible refine' g_bl ?_
  | with_reducible refine' g_not ?_ | with_reducible refine' g_and ?_ | with_reducible refine' g_or ?_ | with_reducible refine' g_andV ?_ | with_reducible refine' g_orV ?_ | with_reducible refine' g_notV ?_ | with_reducible refine' g_nil ?_ | with_reducible refine' g_cons ?_ | with_reducible refine' g_CB ?_ | with_reducible refine' g_ca ?_
  | with_reducible refine' g_seq ?_ | with_reducible refine' g_next ?_ | with_reducible refine' g_asg ?_ | with_reducible refine' g_name ?_ | with_reducible refine' g_ret ?_ | with_reducible refine' g_retN ?_ | with_reducible refine' g_drop ?_ | with_reducible refine' g_ifS ?_ | with_reducible refine' g_sub ?_
  | with_reducible refine' g_I0 ?_ | with_reducible refine' g_U ?_ | ((with_reducible refine' g_eq ?h ?_); (case h => rfl)) | ((with_reducible refine' g_ne ?h ?_); (case h => rfl))
  | ((with_reducible refine' g_lenL ?h ?_); (case h => first | assumption | exact SqL.of (by assumption) | exact SqL.of upd_same)) | ((with_reducible refine' g_lenT ?h ?_); (case h => first | assumption | exact SqT.of (by assumption) | exact SqT.of upd_same))
  | ((with_reducible refine' g_ixL ?h ?ha ?_); (case h => first | assumption | exact SqL.of (by assumption) | exact SqL.of upd_same); (case ha => rfl)) | ((with_reducible refine' g_ixT ?h ?ha ?_); (case h => first | assumption | exact SqT.of (by assumption) | exact SqT.of upd_same); (case ha => rfl))
  | ((with_reducible refine' g_I ?h ?_); (case h => first | decide | omega | (first | refine' ⟨?_, ?_, ?_⟩ | refine' ⟨?_, ?_⟩ | refine' Or.inl ⟨?_, ?_⟩) <;> omega | (refine' Or.inr ⟨?_, ?_⟩ <;> omega)))
  | ((with_reducible refine' g_setL ?h ?ha ?_); (case h => first | assumption | exact upd_same); (case ha => rfl))
  | with_reducible refine' g_lcR ?_
  | with_reducible refine' g_M1 ?_ | with_reducible refine' g_isS ?_ | with_reducible refine' g_tyS ?_ | ((with_reducible refine' g_tyL ?h ?_); (case h => first | assumption | exact upd_same))
  | ((with_reducible refine' g_cat ?h ?h2 ?hl ?_); (case h => first | assumption | exact upd_same); (case h2 => first | assumption | exact upd_same); (case hl => first | decide | (simp; omega)))
  | with_reducible refine' g_lcS ?_
  | with_reducible refine' g_starts ?_ | with_reducible refine' g_chain ?_
  | ((with_reducible refine' g_lenS ?h ?_); (case h => first | exact len_le (by assumption) | exact len_le (by omega))) | ((with_reducible refine' g_rstrip ?h ?_); (case h => first | exact len_le (by assumption) | exact len_le (by omega))) | ((with_reducible refine' g_slX ?h ?_); (case h => first | exact len_le (by assumption) | exact len_le (by omega)))
  | with_reducible refine' g_sl ?_ | with_reducible refine' g_nopart ?_ | with_reducible refine' g_part ?_ | with_reducible refine' g_isI ?_
  | with_reducible refine' g_tru ?_
  | with_reducible refine' iteT ?_ | with_reducible refine' iteF ?_ | with_reducible refine' iteNT ?_ | with_reducible refine' iteNF ?_
  | with_reducible refine' g_int ?_ | with_reducible refine' g_insg ?_ | with_reducible refine' g_ninsg ?_ | with_reducible refine' g_isN ?_ | with_reducible refine' g_notN ?_ | with_reducible refine' g_lst ?_ | with_reducible refine' g_tup ?_ | with_reducible refine' g_BM ?_ | with_reducible refine' g_BM0 ?_)
local macro_rules | `(tactic| walk_at "go") => `(tactic| repeat' walk_at "go1")
local macro_rules | `(tactic| walk_at "go2") => `(tactic| repeat' (first | walk_at "go1" | with_reducible refine' g_cm ?_ | with_reducible refine' g_mk ?_ | with_reducible refine' g_for ?_ | ((with_reducible refine' g_rcm ?h ?ha ?_); (case h => first | assumption | exact upd_same); (case ha => first | rfl | decide | simp [List.lookup]))))
/- macro2 -/
local macro_rules | `(tactic| walk_at "go3a") => `(tactic| first
  | walk_at "go1" | with_reducible refine' g_cm ?_ | with_reducible refine' g_mk ?_ | with_reducible refine' g_for ?_ | with_reducible refine' g_fld ?_ | with_reducible refine' g_lcT0 ?_
  | ((with_reducible refine' g_rcm ?h ?ha ?_); (case h => first | assumption | exact upd_same); (case ha => first | rfl | decide | simp [List.lookup]))
  | ((with_reducible refine' g_shape ?hc ?hn ?h ?_); (case hc => assumption); (case hn => assumption); (case h => first | assumption | exact upd_same | (rw [upd_ne (by assumption)]; assumption))))
local macro_rules | `(tactic| walk_at "go3") => `(tactic| repeat' walk_at "go3a")
local macro_rules | `(tactic| walk_at "go4") => `(tactic| repeat' (first
  | walk_at "go3a" | ((with_reducible refine' iteDT ?h ?_); (case h => first | rfl | decide +kernel)) | ((with_reducible refine' iteDF ?h ?_); (case h => decide +kernel))))
/-! ## the atoms of a kind, in and len of letters -/
def atomTx : Fm → Str
  | .atm _ t => S t
  | _ => Str.empty
def atomsOf (k : Str) (l : List Fm) : List Str := (l.filter fun g => decide (V.str g.head = V.str k)).map atomTx
theorem atomsOf_len (k : Str) (l : List Fm) : (atomsOf k l).length ≤ l.length := by
  unfold atomsOf
  rw [List.length_map]
  exact List.length_filter_le _ l
theorem fm_fnV (H : Hp) {β : Type} (d : β) (φ : Fm → β) : ∃ e : V → β, ∀ {v : V} {g : Fm}, FmAt H v g → e v = φ g := by
  classical
  refine ⟨fun v => if h : ∃ g : Fm, FmAt H v g then φ h.choose else d, fun {v g} f => ?_⟩
  have h : ∃ g : Fm, FmAt H v g := ⟨g, f⟩
  show (if h : ∃ g : Fm, FmAt H v g then φ h.choose else d) = φ g
  rw [dif_pos h, fm_one h.choose_spec f]
theorem FsAt.mem {H : Hp} : ∀ {us : List V} {gs : List Fm}, FsAt H us gs → ∀ x ∈ us, ∃ g ∈ gs, FmAt H x g
  | _, _, .cons h r, x, hx => by
    rcases List.mem_cons.mp hx with rfl | hx
    · exact ⟨_, List.mem_cons_self, h⟩
    · obtain ⟨g, hg, f⟩ := r.mem x hx
      exact ⟨g, List.mem_cons_of_mem _ hg, f⟩
theorem atm_of {g : Fm} (ok : g.ok = true) (h : atK g.head = true) : ∃ t, g = .atm g.head t := by
  cases g with
  | atm k t => exact ⟨t, rfl⟩
  | un k a =>
    simp only [Fm.ok, Bool.and_eq_true] at ok
    have z := unK_at ok.1
    rw [show (Fm.un k a).head = k from rfl, z] at h
    cases h
  | bi k a b =>
    simp only [Fm.ok, Bool.and_eq_true] at ok
    have z := biK_at ok.1
    rw [show (Fm.bi k a b).head = k from rfl, z] at h
    cases h
theorem atoms_lc {K : PySem.W.Frag} {σ : L2.St} {H : Hp} {Q : VK} {tt : TT} {te : TE} {j : Nat} {a : Addr} {us : List V} {gs : List Fm} {vs : List Nat} (k : Str) (hk : atK k = true) (fs : FsAt H us gs) (og : ∀ g ∈ gs, g.ok = true) (hu : H a = some (.lst us)) (hl : us.length < 1000000) (hw : ∀ x, wipe ((wipe σ vs).set j (some x)) vs = wipe σ vs)
    (ht : ∀ (p : Addr) (κ : Str) (r : List V) (H2 : Hp) (R : Bool → Hp → Prop), H2 p = some (.tup (.str κ :: r)) → R (decide (V.str κ = V.str k)) H2 → tt ((wipe σ vs).set j (some (.ref p))) H2 R)
    (he : ∀ (p : Addr) (x : Str) (H2 : Hp) (R : VK), H2 p = some (.tup [.str k, .str x]) → R (.str x) H2 → te ((wipe σ vs).set j (some (.ref p))) H2 R)
    (q : ∀ D, H D = none → Q (.ref D) (upd H D (.lst ((atomsOf k gs).map V.str)))) : rLcLF K j tt te vs σ (.ref a) H Q := by
  obtain ⟨b, hb⟩ := fm_fnV H false fun g : Fm => decide (V.str g.head = V.str k)
  obtain ⟨f, hf⟩ := fm_fnV H V.non fun g : Fm => V.str (atomTx g)
  refine r_lcLF b f (fun H2 s2 => SqL.of (s2 _ _ hu)) hl hw (fun x H2 R hx s2 r => ?_) (fun x H2 R hx hbx s2 r => ?_) (fun D hD => ?_)
  · obtain ⟨g, hg, fg⟩ := fs.mem x hx
    obtain ⟨p, xs, rfl, ep⟩ := head_at fg
    rw [hb fg] at r
    exact ht p g.head xs H2 R (s2 _ _ ep) r
  · obtain ⟨g, hg, fg⟩ := fs.mem x hx
    rw [hb fg] at hbx
    have eh : g.head = k := V.str.inj (of_decide_eq_true hbx)
    obtain ⟨t, et⟩ := atm_of (og g hg) (by rw [eh]; exact hk)
    rw [hf fg] at r
    rw [et, eh] at fg
    cases fg with
    | atm ep =>
      have e : atomTx g = S t := by rw [et]; rfl
      rw [e] at r
      exact he _ _ H2 R (s2 _ _ ep) r
  · have e : (us.filter b).map f = (atomsOf k gs).map V.str := by
      clear hu hl q ht he og
      induction fs with
      | nil => rfl
      | @cons v vs' g gs' fg _ ih =>
        unfold atomsOf
        rw [List.filter_cons, List.filter_cons, hb fg]
        cases decide (V.str g.head = V.str k) with
        | false => exact ih
        | true =>
          rw [if_pos rfl, if_pos rfl, List.map_cons, List.map_cons, List.map_cons, hf fg]
          exact congrArg (V.str (atomTx g) :: ·) ih
    rw [e]
    exact q D hD
theorem ok_subs : ∀ {a : Fm}, a.ok = true → ∀ g ∈ a.subs, g.ok = true ∧ g.dep ≤ a.dep
  | .atm k t, h, g, hg => by
    rw [List.mem_singleton.mp hg]
    exact ⟨h, Nat.le_refl _⟩
  | .un k a, h, g, hg => by
    rcases List.mem_cons.mp hg with rfl | hg
    · exact ⟨h, Nat.le_refl _⟩
    · simp only [Fm.ok, Bool.and_eq_true] at h
      obtain ⟨h1, h2⟩ := ok_subs h.2 g hg
      exact ⟨h1, Nat.le_succ_of_le h2⟩
  | .bi k a b, h, g, hg => by
    rcases List.mem_cons.mp hg with rfl | hg
    · exact ⟨h, Nat.le_refl _⟩
    · simp only [Fm.ok, Bool.and_eq_true] at h
      show _ ∧ g.dep ≤ max a.dep b.dep + 1
      rcases List.mem_append.mp hg with hg | hg
      · obtain ⟨h1, h2⟩ := ok_subs h.2.2.1 g hg
        exact ⟨h1, by omega⟩
      · obtain ⟨h1, h2⟩ := ok_subs h.2.2.2 g hg
        exact ⟨h1, by omega⟩
/-- letter.unknowns(), letter.names() -/
def spAtoms (CL : Addr) (k : Str) : Sp := fun vs H Q _ => ∃ (x : V) (a : Fm), vs = [x] ∧ LetAt CL H x a ∧ a.ok = true ∧ a.size ≤ 4000 ∧ ∀ H' p ys, Same H H' → H p = none → H' p = some (.lst (ys.map V.str)) → AscOf ys (atomsOf k a.subs) → ys.length ≤ a.size → Q (.ref p) H'
/-- letter in letter -/
def spIn (CL : Addr) : Sp := fun vs H Q _ => ∃ (y x : V) (a b : Fm), vs = [y, x] ∧ LetAt CL H y a ∧ LetAt CL H x b ∧ a.ok = true ∧ b.ok = true ∧ b.dep ≤ 60 ∧ a.size ≤ 4000 ∧ ∀ H', Same H H' → Q (.bl (a.subs.any fun g => PyData.eqv g.data b.data)) H'
def spLen (CL : Addr) : Sp := fun vs H Q _ => ∃ (x : V) (a : Fm), vs = [x] ∧ LetAt CL H x a ∧ a.ok = true ∧ a.size ≤ 4000 ∧ ∀ H', Same H H' → Q (.int a.size) H'
section
variable {P : Program} {w : World} {K : PySem.W.Frag} {mg : Str → Option Value} {base : Heap} {CL : Addr}
theorem cm_unknowns (T : Bl K mg) (L : Lt K mg CL) (D : Dm K CL "unknowns" "Letter.unknowns" s_Letter_unknowns p_Letter_unknowns) (c_forms_in : Ca P w K mg base 1 "forms_in" spFormsIn) : Cm P w K mg base 2 CL "unknowns" (spAtoms CL kUnk) := by
  refine cm_n D sc_Letter_unknowns (fun vs H Q E h => ?_) (fun f cdv A outer s H vs Q E hr h => ?_)
  · obtain ⟨x, a, rfl, _⟩ := h
    rfl
  · obtain ⟨x, a, rfl, ⟨xa, dx, u, rfl, hx, fu⟩, ok, hz, q⟩ := h
    have lcl := L.cl
    have lno := L.no
    refine ⟨_, (pss_one (ps_ret (pe_callB (cr_sortStr rfl) (by rfl) T.b_sorted (by decide +kernel) (pa_cons (pe_callTy (cr_setL rfl) (by rfl) T.b_set (by decide +kernel) (pa_cons (pe_lc (own := [("part", 1)]) (g := gName 1) rfl sc_Letter_unknowns.nd (pi_list (pe_ca c_forms_in hr (by decide) (by rfl) (pa_cons (pe_fld (pv 0) rfl) pa_nil))) (blkOk_by (own := [("part", 1)]) (N := N_Letter_unknowns) (sc := defScope s_Letter_unknowns) (by decide +kernel)) (fun _ _ _ _ _ => pg_name (i := 1) sc_Letter_unknowns.nd rfl (Or.inl rfl)) (fun _ _ _ _ _ => (pts_one (pt_cmpR op_eq (pe_ix (ix_tupK (K := K) rfl) (pv 1) pe_int (fun _ _ => rfl)) pe_str (nomark _)))) (fun _ _ _ _ _ => (pe_ix (ix_tupK (K := K) rfl) (pv 1) pe_int (fun _ _ => rfl)))) pa_nil)) pa_nil)))), ?_⟩
    walk_at "go3"
    refine g_lcLF ?_
    walk_at "go3"
    refine ⟨u, a, rfl, fu, ok, by omega, fun H1 p1 us s1 hp1 e1 fs => ?_⟩
    have hl := fs.len
    have hs := Fm.subs_len a
    refine atoms_lc kUnk (by decide +kernel) fs (fun g hg => (ok_subs ok g hg).1) e1 (by omega) (fun _ => rfl) (fun p κ r H2 R ep r => ?_) (fun p x H2 R ep r => ?_) (fun D hD => ?_)
    · walk_at "go3"
      refine g_ixT (v := .str κ) (SqT.of ep) at0 ?_
      walk_at "go3"
      exact r
    · walk_at "go3"
      exact r
    · have hal := atomsOf_len kUnk a.subs
      walk_at "go3"
      refine ⟨D, atomsOf kUnk a.subs, rfl, SqL.of upd_same, by show _ < 4096; omega, fun p2 hp2 => ?_⟩
      have s2 : Same H1 (upd H1 D (.lst ((atomsOf kUnk a.subs).map V.str))) := Same.upd hD
      generalize upd H1 D (.lst ((atomsOf kUnk a.subs).map V.str)) = H2 at s2 hp2 ⊢
      walk_at "go3"
      refine ⟨p2, atomsOf kUnk a.subs, rfl, upd_same, by rw [sizeLine_eq]; omega, fun ys p3 hy hyl hp3 => ?_⟩
      walk_at "go3"
      have s3 : Same H2 (upd H2 p2 (StrO P w p2 (atomsOf kUnk a.subs))) := Same.upd hp2
      have s13 := s1.trans (s2.trans s3)
      exact q _ p3 ys (s13.trans (Same.upd hp3)) (Same.non s13 hp3) upd_same hy (by omega)
theorem cm_names (T : Bl K mg) (L : Lt K mg CL) (D : Dm K CL "names" "Letter.names" s_Letter_names p_Letter_names) (c_forms_in : Ca P w K mg base 1 "forms_in" spFormsIn) : Cm P w K mg base 2 CL "names" (spAtoms CL kName) := by
  refine cm_n D sc_Letter_names (fun vs H Q E h => ?_) (fun f cdv A outer s H vs Q E hr h => ?_)
  · obtain ⟨x, a, rfl, _⟩ := h
    rfl
  · obtain ⟨x, a, rfl, ⟨xa, dx, u, rfl, hx, fu⟩, ok, hz, q⟩ := h
    have lcl := L.cl
    have lno := L.no
    refine ⟨_, (pss_one (ps_ret (pe_callB (cr_sortStr rfl) (by rfl) T.b_sorted (by decide +kernel) (pa_cons (pe_callTy (cr_setL rfl) (by rfl) T.b_set (by decide +kernel) (pa_cons (pe_lc (own := [("part", 1)]) (g := gName 1) rfl sc_Letter_names.nd (pi_list (pe_ca c_forms_in hr (by decide) (by rfl) (pa_cons (pe_fld (pv 0) rfl) pa_nil))) (blkOk_by (own := [("part", 1)]) (N := N_Letter_names) (sc := defScope s_Letter_names) (by decide +kernel)) (fun _ _ _ _ _ => pg_name (i := 1) sc_Letter_names.nd rfl (Or.inl rfl)) (fun _ _ _ _ _ => (pts_one (pt_cmpR op_eq (pe_ix (ix_tupK (K := K) rfl) (pv 1) pe_int (fun _ _ => rfl)) pe_str (nomark _)))) (fun _ _ _ _ _ => (pe_ix (ix_tupK (K := K) rfl) (pv 1) pe_int (fun _ _ => rfl)))) pa_nil)) pa_nil)))), ?_⟩
    walk_at "go3"
    refine g_lcLF ?_
    walk_at "go3"
    refine ⟨u, a, rfl, fu, ok, by omega, fun H1 p1 us s1 hp1 e1 fs => ?_⟩
    have hl := fs.len
    have hs := Fm.subs_len a
    refine atoms_lc kName (by decide +kernel) fs (fun g hg => (ok_subs ok g hg).1) e1 (by omega) (fun _ => rfl) (fun p κ r H2 R ep r => ?_) (fun p x H2 R ep r => ?_) (fun D hD => ?_)
    · walk_at "go3"
      refine g_ixT (v := .str κ) (SqT.of ep) at0 ?_
      walk_at "go3"
      exact r
    · walk_at "go3"
      exact r
    · have hal := atomsOf_len kName a.subs
      walk_at "go3"
      refine ⟨D, atomsOf kName a.subs, rfl, SqL.of upd_same, by show _ < 4096; omega, fun p2 hp2 => ?_⟩
      have s2 : Same H1 (upd H1 D (.lst ((atomsOf kName a.subs).map V.str))) := Same.upd hD
      generalize upd H1 D (.lst ((atomsOf kName a.subs).map V.str)) = H2 at s2 hp2 ⊢
      walk_at "go3"
      refine ⟨p2, atomsOf kName a.subs, rfl, upd_same, by rw [sizeLine_eq]; omega, fun ys p3 hy hyl hp3 => ?_⟩
      walk_at "go3"
      have s3 : Same H2 (upd H2 p2 (StrO P w p2 (atomsOf kName a.subs))) := Same.upd hp2
      have s13 := s1.trans (s2.trans s3)
      exact q _ p3 ys (s13.trans (Same.upd hp3)) (Same.non s13 hp3) upd_same hy (by omega)
theorem cm_contains (T : Bl K mg) (L : Lt K mg CL) (LC : Lc K CL) (D : Dm K CL "__contains__" "Letter.__contains__" s_Letter___contains__ p_Letter___contains__) (c_forms_in : Ca P w K mg base 1 "forms_in" spFormsIn) : Cm P w K mg base 2 CL "__contains__" (spIn CL) := by
  refine cm_n D sc_Letter___contains__ (fun vs H Q E h => ?_) (fun f cdv A outer s H vs Q E hr h => ?_)
  · obtain ⟨y, x, a, b, rfl, _⟩ := h
    rfl
  · obtain ⟨y, x, a, b, rfl, ⟨ya, dy, ua, rfl, hy, fa⟩, ⟨xa, dx, ub, rfl, hx, fb⟩, oa, ob, db, hz, q⟩ := h
    have lcl := L.cl
    have lno := L.no
    refine ⟨_, (pss_one (ps_ret (pe_and (pe_callB call_isi (by rfl) T.b_isinstance (by decide +kernel) (pa_cons (pv 1) (pa_cons (C8.pe_gc (v := .ref CL) (by rfl) ⟨_, L.mgC, rfl⟩) pa_nil))) (pe_one (pe_cmpR (op_inFs (K := K) rfl hr.units) (pe_fld (pv 1) rfl) (pe_ca c_forms_in hr (by decide) (by rfl) (pa_cons (pe_fld (pv 0) rfl) pa_nil)) rfl))))), ?_⟩
    walk_at "go3"
    refine LC.isi hx ?_
    walk_at "go3"
    refine ⟨ua, a, rfl, fa, oa, by omega, fun H1 p1 us s1 hp1 e1 fs => ?_⟩
    walk_at "go3"
    exact ⟨p1, us, a.subs, b, rfl, SqL.of e1, fs, fb.same s1, ob, db, fun g hg => (ok_subs oa g hg).1, q H1 s1⟩
theorem cm_len (T : Bl K mg) (L : Lt K mg CL) (D : Dm K CL "__len__" "Letter.__len__" s_Letter___len__ p_Letter___len__) (c_forms_in : Ca P w K mg base 1 "forms_in" spFormsIn) : Cm P w K mg base 2 CL "__len__" (spLen CL) := by
  refine cm_n D sc_Letter___len__ (fun vs H Q E h => ?_) (fun f cdv A outer s H vs Q E hr h => ?_)
  · obtain ⟨x, a, rfl, _⟩ := h
    rfl
  · obtain ⟨x, a, rfl, ⟨xa, dx, u, rfl, hx, fu⟩, ok, hz, q⟩ := h
    have lcl := L.cl
    have lno := L.no
    refine ⟨_, (pss_one (ps_ret (pe_callB cq_len (by rfl) T.b_len (by decide +kernel) (pa_cons (pe_ca c_forms_in hr (by decide) (by rfl) (pa_cons (pe_fld (pv 0) rfl) pa_nil)) pa_nil)))), ?_⟩
    walk_at "go3"
    refine ⟨u, a, rfl, fu, ok, by omega, fun H1 p1 us s1 hp1 e1 fs => ?_⟩
    walk_at "go3"
    have e : us.length = a.size := by rw [fs.len, Fm.subs_len]
    rw [e]
    exact q H1 s1
end
end Op

namespace Op
open PySem PySem.Spec PyProof.Rows L2 SX OpC
local macro_rules | `(tactic| walk_at "go1") => `(tactic| first
  | ((with_reducible refine' g_var ?h ?_); (case h => rfl)) | with_reducible refine' g_c ?_ | with_reducible refine' g_op ?_ | with_reducible refine' g_un ?_ | with_reducible refine' g_if ?_ | with_reducible refine' g_test ?_ | with_reducible refine' g_B ?_ | with_reducible refine' g_bl ?_
  | with_reducible refine' g_not ?_ | with_reducible refine' g_and ?_ | with_reducible refine' g_or ?_ | with_reducible refine' g_andV ?_ | with_reducible refine' g_orV ?_ | with_reducible refine' g_notV ?_ | with_reducible refine' g_nil ?_ | with_reducible refine' g_cons ?_ | with_reducible refine' g_CB ?_ | with_reducible refine' g_ca ?_
  | with_reducible refine' g_seq ?_ | with_reducible refine' g_next ?_ | with_reducible refine' g_asg ?_ | with_reducible refine' g_name ?_ | with_reducible refine' g_ret ?_ | with_reducible refine' g_retN ?_ | with_reducible refine' g_drop ?_ | with_reducible refine' g_ifS ?_ | with_reducible refine' g_sub ?_
  | with_reducible refine' g_I0 ?_ | with_reducible refine' g_U ?_ | ((with_reducible refine' g_eq ?h ?_); (case h => rfl)) | ((with_reducible refine' g_ne ?h ?_); (case h => rfl))
  | ((with_reducible refine' g_lenL ?h ?_); (case h => first | assumption | exact SqL.of (by assumption) | exact SqL.of upd_same)) | ((with_reducible refine' g_lenT ?h ?_); (case h => first | assumption | exact SqT.of (by assumption) | exact SqT.of upd_same))
  | ((with_reducible refine' g_ixL ?h ?ha ?_); (case h => first | assumption | exact SqL.of (by assumption) | exact SqL.of upd_same); (case ha => rfl)) | ((with_reducible refine' g_ixT ?h ?ha ?_); (case h => first | assumption | exact SqT.of (by assumption) | exact SqT.of upd_same); (case ha => rfl))
  | ((with_reducible refine' g_I ?h ?_); (case h => first | decide | omega | (first | refine' ⟨?_, ?_, ?_⟩ | refine' ⟨?_, ?_⟩ | refine' Or.inl ⟨?_, ?_⟩) <;> omega | (refine' Or.inr ⟨?_, ?_⟩ <;> omega)))
  | ((with_reducible refine' g_setL ?h ?ha ?_); (case h => first | assumption | exact upd_same); (case ha => rfl))
  | with_reducible refine' g_lcR ?_
  | with_reducible refine' g_M1 ?_ | with_reducible refine' g_isS ?_ | with_reducible refine' g_tyS ?_ | ((with_reducible refine' g_tyL ?h ?_); (case h => first | assumption | exact upd_same))
  | ((with_reducible refine' g_cat ?h ?h2 ?hl ?_); (case h => first | assumption | exact upd_same); (case h2 => first | assumption | exact upd_same); (case hl => first | decide | (simp; omega)))
  | with_reducible refine' g_lcS ?_
  | with_reducible refine' g_starts ?_ | with_reducible refine' g_chain ?_
  | ((with_reducible refine' g_lenS ?h ?_); (case h => first | exact len_le (by assumption) | exact len_le (by omega))) | ((with_reducible refine' g_rstrip ?h ?_); (case h => first | exact len_le (by assumption) | exact len_le (by omega))) | ((with_reducible refine' g_slX ?h ?_); (case h => first | exact len_le (by assumption) | exact len_le (by omega)))
  | with_reducible refine' g_sl ?_ | with_reducible refine' g_nopart ?_ | with_reducible refine' g_part ?_ | with_reducible refine' g_isI ?_
  | with_reducible refine' g_tru ?_
  | with_reducible refine' iteT ?_ | with_reducible refine' iteF ?_ | with_reducible refine' iteNT ?_ | with_reducible refine' iteNF ?_
  | with_reducible refine' g_int ?_ | with_reducible refine' g_insg ?_ | with_reducible refine' g_ninsg ?_ | with_reducible refine' g_isN ?_ | with_reducible refine' g_notN ?_ | with_reducible refine' g_lst ?_ | with_reducible refine' g_tup ?_ | with_reducible refine' g_BM ?_ | with_reducible refine' g_BM0 ?_)
local macro_rules | `(tactic| walk_at "go") => `(tactic| repeat' walk_at "go1")
local macro_rules | `(tactic| walk_at "go2") => `(tactic| repeat' (first | walk_at "go1" | with_reducible refine' g_cm ?_ | with_reducible refine' g_mk ?_ | with_reducible refine' g_for ?_ | ((with_reducible refine' g_rcm ?h ?ha ?_); (case h => first | assumption | exact upd_same); (case ha => first | rfl | decide | simp [List.lookup]))))
/- macro2 -/
local macro_rules | `(tactic| walk_at "go3a") => `(tactic| first
  | walk_at "go1" | with_reducible refine' g_cm ?_ | with_reducible refine' g_mk ?_ | with_reducible refine' g_for ?_ | with_reducible refine' g_fld ?_ | with_reducible refine' g_lcT0 ?_
  | ((with_reducible refine' g_rcm ?h ?ha ?_); (case h => first | assumption | exact upd_same); (case ha => first | rfl | decide | simp [List.lookup]))
  | ((with_reducible refine' g_shape ?hc ?hn ?h ?_); (case hc => assumption); (case hn => assumption); (case h => first | assumption | exact upd_same | (rw [upd_ne (by assumption)]; assumption))))
local macro_rules | `(tactic| walk_at "go3") => `(tactic| repeat' walk_at "go3a")
local macro_rules | `(tactic| walk_at "go4") => `(tactic| repeat' (first
  | walk_at "go3a" | ((with_reducible refine' iteDT ?h ?_); (case h => first | rfl | decide +kernel)) | ((with_reducible refine' iteDF ?h ?_); (case h => decide +kernel))))
/-! ## the law's own atoms; lists of texts as data -/
def spLawAtoms (d : Nat) : Sp := fun vs H Q _ => ∃ (v : V) (k : Str) (a : Fm), vs = [v, .str k] ∧ atK k = true ∧ FmAt H v a ∧ a.ok = true ∧ a.dep < d ∧ a.size ≤ 4000 ∧ ∀ H' p ys, Same H H' → H p = none → H' p = some (.lst (ys.map V.str)) → AscOf ys (atomsOf k a.subs) → ys.length ≤ a.size → Q (.ref p) H'
theorem atomsOf_ok {k : Str} {a : Fm} (hk : atK k = true) (ok : a.ok = true) : ∀ z ∈ atomsOf k a.subs, PyData.strOk z = true := fun z hz => by
  obtain ⟨g, hg, rfl⟩ := List.mem_map.mp hz
  obtain ⟨h1, h2⟩ := List.mem_filter.mp hg
  have eh : g.head = k := V.str.inj (of_decide_eq_true h2)
  have okg := (ok_subs ok g h1).1
  obtain ⟨t, et⟩ := atm_of okg (by rw [eh]; exact hk)
  rw [et] at okg ⊢
  exact asc_ok (atm_small okg)
theorem strs_dp {K : PySem.W.Frag} {H : Hp} : ∀ ys : List Str, DpAll K H (ys.map V.str) (ys.map PyData.str)
  | [] => .nil
  | y :: ys => .cons (.str y) (strs_dp ys)
theorem strs_sh : ∀ {ys : List Str}, (∀ z ∈ ys, PyData.strOk z = true) → (PyData.list (ys.map PyData.str)).canLay0 = true ∧ (PyData.list (ys.map PyData.str)).depth ≤ 1
  | [], _ => ⟨rfl, by show 0 + 1 ≤ 1; decide⟩
  | y :: ys, h => by
    obtain ⟨h1, h2⟩ := strs_sh fun z hz => h z (List.mem_cons_of_mem _ hz)
    refine ⟨?_, ?_⟩
    · show (PyData.strOk y && (PyData.list (ys.map PyData.str)).canLay0) = true
      rw [h1, h y List.mem_cons_self]
      rfl
    · have e : (PyData.list ((y :: ys).map PyData.str)).depth + 0 = max 0 ((PyData.list (ys.map PyData.str)).depth - 1) + 1 := rfl
      omega
theorem strs_shaped {ys : List Str} (h : ∀ z ∈ ys, PyData.strOk z = true) : SeqAt.shaped (.list (ys.map PyData.str)) = true := by
  obtain ⟨h1, h2⟩ := strs_sh h
  show ((PyData.list (ys.map PyData.str)).canLay0 && decide ((PyData.list (ys.map PyData.str)).depth ≤ 64)) = true
  rw [h1, decide_eq_true (by omega)]
  rfl
theorem any_self {a : Fm} (ok : a.ok = true) (hd : a.dep ≤ 60) : ∀ g ∈ a.subs, (a.subs.any fun h => PyData.eqv h.data g.data) = true := fun g hg =>
  List.any_eq_true.mpr ⟨g, hg, SeqAt.eqv_refl _ (SeqAt.canLay_of_shaped (Fm.shaped (ok_subs ok g hg).1 (Nat.le_trans (ok_subs ok g hg).2 hd)))⟩
theorem let_atoms {CL : Addr} {m : Str} {k : Str} {σ : L2.St} {H : Hp} {x : V} {a : Fm} {Q : VK} (hm : ([("shape", V.non)] : List (Str × V)).lookup m = none) (l : LetAt CL H x a) (ok : a.ok = true) (hz : a.size ≤ 4000)
    (q : ∀ H' p ys, Same H H' → H p = none → H' p = some (.lst (ys.map V.str)) → AscOf ys (atomsOf k a.subs) → ys.length ≤ a.size → Q (.ref p) H') : rCm CL m (spAtoms CL k) tNil σ x H Q := by
  obtain ⟨p, dx, u, rfl, e, f⟩ := l
  refine ⟨p, dx, _, rfl, e, ?_, .ref p, a, rfl, ⟨p, dx, u, rfl, e, f⟩, ok, hz, q⟩
  simp only [List.lookup] at hm ⊢
  cases h : m == ("shape" : Str) with
  | true =>
    rw [h] at hm
    cases hm
  | false => rfl
theorem let_in {CL : Addr} {H : Hp} {x y : V} {a b : Fm} {Q : VK} (l1 : LetAt CL H y a) (l2 : LetAt CL H x b) (oa : a.ok = true) (ob : b.ok = true) (db : b.dep ≤ 60) (hz : a.size ≤ 4000) (q : ∀ H', Same H H' → Q (.bl (a.subs.any fun g => PyData.eqv g.data b.data)) H') : rInOwn CL (spIn CL) x y H Q := by
  obtain ⟨p, dx, u, rfl, e, f⟩ := id l1
  exact ⟨⟨p, dx, _, rfl, e⟩, .ref p, x, a, b, rfl, l1, l2, oa, ob, db, hz, fun H' s => ⟨_, rfl, q H' s⟩⟩
theorem let_len {CL : Addr} {H : Hp} {x : V} {a : Fm} {Q : VK} (l : LetAt CL H x a) (ok : a.ok = true) (hz : a.size ≤ 4000) (q : ∀ H', Same H H' → Q (.int a.size) H') : rLenOwn CL (spLen CL) [x] H Q := by
  obtain ⟨p, dx, u, rfl, e, f⟩ := l
  exact ⟨p, dx, _, rfl, e, .ref p, a, rfl, ⟨p, dx, u, rfl, e, f⟩, ok, hz, fun H' s => ⟨a.size, rfl, by omega, q H' s⟩⟩
section
variable {P : Program} {w : World} {K : PySem.W.Frag} {mg : Str → Option Value} {base : Heap}
theorem ca_law_atoms (T : Bl K mg) (D : Df K mg "_law_atoms" s_law_atoms p_law_atoms) {d j : Nat} (c_law_parts : Ca P w K mg base j "_law_parts" (spPartsX d)) : Ca P w K mg base (j + 1) "_law_atoms" (spLawAtoms d) := by
  refine ca_n D sc_law_atoms (fun vs H Q E h => ?_) (fun f cdv A outer s H vs Q E hr h => ?_)
  · obtain ⟨v, k, a, rfl, _⟩ := h
    rfl
  · obtain ⟨v, k, a, rfl, hk, fa, ok, hd, hz, q⟩ := h
    refine ⟨_, (pss_one (ps_ret (pe_callB (cr_sortStr rfl) (by rfl) T.b_sorted (by decide +kernel) (pa_cons (pe_callTy (cr_setL rfl) (by rfl) T.b_set (by decide +kernel) (pa_cons (pe_lc (own := [("_law_part", 2)]) (g := gName 2) rfl sc_law_atoms.nd (pi_list (pe_ca c_law_parts hr (by omega) (by rfl) (pa_cons (pv 0) pa_nil))) (blkOk_by (own := [("_law_part", 2)]) (N := N_law_atoms) (sc := defScope s_law_atoms) (by decide +kernel)) (fun _ _ _ _ _ => pg_name (i := 2) sc_law_atoms.nd rfl (Or.inl rfl)) (fun _ _ _ _ _ => (pts_one (pt_cmpR op_eq (pe_ix (ix_tupK (K := K) rfl) (pv 2) pe_int (fun _ _ => rfl)) (pv 1) (nomark _)))) (fun _ _ _ _ _ => (pe_ix (ix_tupK (K := K) rfl) (pv 2) pe_int (fun _ _ => rfl)))) pa_nil)) pa_nil)))), ?_⟩
    walk_at "go3"
    refine g_lcLF ?_
    walk_at "go3"
    refine ⟨v, a, rfl, fa, ok, hd, by omega, fun H1 p1 us s1 hp1 e1 fs => ?_⟩
    have hl := fs.len
    have hs := Fm.subs_len a
    refine atoms_lc k hk fs (fun g hg => (ok_subs ok g hg).1) e1 (by omega) (fun _ => rfl) (fun p κ r H2 R ep r => ?_) (fun p x H2 R ep r => ?_) (fun D hD => ?_)
    · walk_at "go3"
      refine g_ixT (v := .str κ) (SqT.of ep) at0 ?_
      walk_at "go3"
      exact r
    · walk_at "go3"
      exact r
    · have hal := atomsOf_len k a.subs
      walk_at "go3"
      refine ⟨D, atomsOf k a.subs, rfl, SqL.of upd_same, by show _ < 4096; omega, fun p2 hp2 => ?_⟩
      have s2 : Same H1 (upd H1 D (.lst ((atomsOf k a.subs).map V.str))) := Same.upd hD
      generalize upd H1 D (.lst ((atomsOf k a.subs).map V.str)) = H2 at s2 hp2 ⊢
      walk_at "go3"
      refine ⟨p2, atomsOf k a.subs, rfl, upd_same, by rw [sizeLine_eq]; omega, fun ys p3 hy hyl hp3 => ?_⟩
      walk_at "go3"
      have s3 : Same H2 (upd H2 p2 (StrO P w p2 (atomsOf k a.subs))) := Same.upd hp2
      have s13 := s1.trans (s2.trans s3)
      exact q _ p3 ys (s13.trans (Same.upd hp3)) (Same.non s13 hp3) upd_same hy (by omega)
end
end Op

namespace Op
open PySem PySem.Spec PyProof.Rows L2 SX OpC
local macro_rules | `(tactic| walk_at "go1") => `(tactic| first
  | ((with_reducible refine' g_var ?h ?_); (case h => rfl)) | with_reducible refine' g_c ?_ | with_reducible refine' g_op ?_ | with_reducible refine' g_un ?_ | with_reducible refine' g_if ?_ | with_reducible refine' g_test ?_ | with_reducible refine' g_B ?_ | with_reducible refine' g_bl ?_
  | with_reducible refine' g_not ?_ | with_reducible refine' g_and ?_ | with_reducible refine' g_or ?_ | with_reducible refine' g_andV ?_ | with_reducible refine' g_orV ?_ | with_reducible refine' g_notV ?_ | with_reducible refine' g_nil ?_ | with_reducible refine' g_cons ?_ | with_reducible refine' g_CB ?_ | with_reducible refine' g_ca ?_
  | with_reducible refine' g_seq ?_ | with_reducible refine' g_next ?_ | with_reducible refine' g_asg ?_ | with_reducible refine' g_name ?_ | with_reducible refine' g_ret ?_ | with_reducible refine' g_retN ?_ | with_reducible refine' g_drop ?_ | with_reducible refine' g_ifS ?_ | with_reducible refine' g_sub ?_
  | with_reducible refine' g_I0 ?_ | with_reducible refine' g_U ?_ | ((with_reducible refine' g_eq ?h ?_); (case h => rfl)) | ((with_reducible refine' g_ne ?h ?_); (case h => rfl))
  | ((with_reducible refine' g_lenL ?h ?_); (case h => first | assumption | exact SqL.of (by assumption) | exact SqL.of upd_same)) | ((with_reducible refine' g_lenT ?h ?_); (case h => first | assumption | exact SqT.of (by assumption) | exact SqT.of upd_same))
  | ((with_reducible refine' g_ixL ?h ?ha ?_); (case h => first | assumption | exact SqL.of (by assumption) | exact SqL.of upd_same); (case ha => rfl)) | ((with_reducible refine' g_ixT ?h ?ha ?_); (case h => first | assumption | exact SqT.of (by assumption) | exact SqT.of upd_same); (case ha => rfl))
  | ((with_reducible refine' g_I ?h ?_); (case h => first | decide | omega | (first | refine' ⟨?_, ?_, ?_⟩ | refine' ⟨?_, ?_⟩ | refine' Or.inl ⟨?_, ?_⟩) <;> omega | (refine' Or.inr ⟨?_, ?_⟩ <;> omega)))
  | ((with_reducible refine' g_setL ?h ?ha ?_); (case h => first | assumption | exact upd_same); (case ha => rfl))
  | with_reducible refine' g_lcR ?_
  | with_reducible refine' g_M1 ?_ | with_reducible refine' g_isS ?_ | with_reducible refine' g_tyS ?_ | ((with_reducible refine' g_tyL ?h ?_); (case h => first | assumption | exact upd_same))
  | ((with_reducible refine' g_cat ?h ?h2 ?hl ?_); (case h => first | assumption | exact upd_same); (case h2 => first | assumption | exact upd_same); (case hl => first | decide | (simp; omega)))
  | with_reducible refine' g_lcS ?_
  | with_reducible refine' g_starts ?_ | with_reducible refine' g_chain ?_
  | ((with_reducible refine' g_lenS ?h ?_); (case h => first | exact len_le (by assumption) | exact len_le (by omega))) | ((with_reducible refine' g_rstrip ?h ?_); (case h => first | exact len_le (by assumption) | exact len_le (by omega))) | ((with_reducible refine' g_slX ?h ?_); (case h => first | exact len_le (by assumption) | exact len_le (by omega)))
  | with_reducible refine' g_sl ?_ | with_reducible refine' g_nopart ?_ | with_reducible refine' g_part ?_ | with_reducible refine' g_isI ?_
  | with_reducible refine' g_tru ?_
  | with_reducible refine' iteT ?_ | with_reducible refine' iteF ?_ | with_reducible refine' iteNT ?_ | with_reducible refine' iteNF ?_
  | with_reducible refine' g_int ?_ | with_reducible refine' g_insg ?_ | with_reducible refine' g_ninsg ?_ | with_reducible refine' g_isN ?_ | with_reducible refine' g_notN ?_ | with_reducible refine' g_lst ?_ | with_reducible refine' g_tup ?_ | with_reducible refine' g_BM ?_ | with_reducible refine' g_BM0 ?_)
local macro_rules | `(tactic| walk_at "go") => `(tactic| repeat' walk_at "go1")
local macro_rules | `(tactic| walk_at "go2") => `(tactic| repeat' (first | walk_at "go1" | with_reducible refine' g_cm ?_ | with_reducible refine' g_mk ?_ | with_reducible refine' g_for ?_ | ((with_reducible refine' g_rcm ?h ?ha ?_); (case h => first | assumption | exact upd_same); (case ha => first | rfl | decide | simp [List.lookup]))))
/- macro2 -/
local macro_rules | `(tactic| walk_at "go3a") => `(tactic| first
  | walk_at "go1" | with_reducible refine' g_cm ?_ | with_reducible refine' g_mk ?_ | with_reducible refine' g_for ?_ | with_reducible refine' g_fld ?_ | with_reducible refine' g_lcT0 ?_
  | ((with_reducible refine' g_rcm ?h ?ha ?_); (case h => first | assumption | exact upd_same); (case ha => first | rfl | decide | simp [List.lookup]))
  | ((with_reducible refine' g_shape ?hc ?hn ?h ?_); (case hc => assumption); (case hn => assumption); (case h => first | assumption | exact upd_same | (rw [upd_ne (by assumption)]; assumption))))
local macro_rules | `(tactic| walk_at "go3") => `(tactic| repeat' walk_at "go3a")
local macro_rules | `(tactic| walk_at "go4") => `(tactic| repeat' (first
  | walk_at "go3a" | ((with_reducible refine' iteDT ?h ?_); (case h => first | rfl | decide +kernel)) | ((with_reducible refine' iteDF ?h ?_); (case h => decide +kernel))))
local macro_rules | `(tactic| walk_at "go5") => `(tactic| repeat' (first | walk_at "go3a" | with_reducible refine' g_par ?_))
theorem us_xyab {H : Hp} {p : Addr} (h : H p = some (.lst [.str (Str.ofString "x"), .str (Str.ofString "y"), .str (Str.ofString "ab")])) : UsAt H p [[120], [121], [97, 98]] := ⟨by
  rw [h, show Str.ofString "x" = S [120] by decide +kernel, show Str.ofString "y" = S [121] by decide +kernel, show Str.ofString "ab" = S [97, 98] by decide +kernel]
  rfl, by decide +kernel, by decide⟩
def spLaw (K : PySem.W.Frag) : Sp := fun vs H Q _ => ∃ (a : Addr) (ns : List Int), vs = [.ref a] ∧ SqL K H a (ns.map V.int) ∧ ns.length ≤ 63 ∧ ∀ H', Q (.bl true) H'
theorem rep_succ {α : Type} (i : Nat) (b : α) : List.replicate (i + 1) b = List.replicate i b ++ [b] := List.replicate_succ'
section
variable {P : Program} {w : World} {K : PySem.W.Frag} {mg : Str → Option Value} {base : Heap} {CL CE CX : Addr}
theorem fn_law (T : Bl K mg) (L : Lt K mg CL) (LC : Lc K CL) {fa : Addr} {fd : FuncData} (F : Fun K "law" "law" s_law fa fd) (c_law_stream : Ca P w K mg base 1 "_law_stream" (spStream K))
    (c_law_form : Ca P w K mg base 9 "_law_form" (spForm1 5)) (c_law_letter : Ca P w K mg base 16 "_law_letter" (spLet CL 9)) (c_law_parts : Ca P w K mg base 10 "_law_parts" (spPartsX 9)) (c_law_atoms : Ca P w K mg base 11 "_law_atoms" (spLawAtoms 9))
    (m_unknowns : Cm P w K mg base 2 CL "unknowns" (spAtoms CL kUnk)) (m_names : Cm P w K mg base 2 CL "names" (spAtoms CL kName)) (m_contains : Cm P w K mg base 2 CL "__contains__" (spIn CL)) (m_len : Cm P w K mg base 2 CL "__len__" (spLen CL)) : FnOk P w K mg base (L2.CX P w) 17 fa fd ["_law_script"] (spLaw K) := by
  refine fnX F sc_law (fun vs H Q E h => ?_) (BodyN.x fun f cdv A outer s H vs Q E hr h => ?_)
  · obtain ⟨a, ns, rfl, _⟩ := h
    rfl
  · obtain ⟨a, ns, rfl, hS, hl, q⟩ := h
    have lcl := L.cl
    have lno := L.no
    refine ⟨_, (pss_cons (ps_for PassesOwn.never rfl (pi_range1 rfl T.b_range (pa_cons pe_int pa_nil)) (pg_name (i := 1) sc_law.nd rfl (Or.inl rfl))
  (pss_cons (ps_set (i := 2) sc_law.nd rfl (Or.inr rfl) (pe_ca c_law_stream hr (by decide) (by rfl) (pa_cons (pv 0) (pa_cons (pv 1) pa_nil))))
  (pss_cons (ps_set (i := 3) sc_law.nd rfl (Or.inl rfl) (pe_ca c_law_form hr (by decide) (by rfl) (pa_cons (pv 2) (pa_cons (pe_lst (pa_cons pe_str (pa_cons pe_str (pa_cons pe_str pa_nil)))) (pa_cons pe_int pa_nil)))))
  (pss_cons (ps_asg (pe_tup (pa_cons (pe_ca c_law_letter hr (by decide) (by rfl) (pa_cons (pv 3) pa_nil)) (pa_cons (pe_ca c_law_parts hr (by decide) (by rfl) (pa_cons (pv 3) pa_nil)) pa_nil))) (pg_tup rfl (pgs_cons (pg_name (i := 4) sc_law.nd rfl (Or.inr rfl)) (pgs_cons (pg_name (i := 5) sc_law.nd rfl (Or.inr rfl)) pgs_nil))))
  (C8.pss_cut (ps_setLc (i := 6) (own := [("_law_turn", 7)]) (g := gName 7) (tt := tYes) rfl sc_law.nd rfl rfl (sw_true rfl rfl rfl (by decide +kernel)) (pi_range1 rfl T.b_range (pa_cons pe_int pa_nil)) (blkOk_by (own := [("_law_turn", 7)]) (N := N_law) (sc := defScope s_law) (by decide +kernel)) (fun _ _ _ _ _ => pg_name (i := 7) sc_law.nd rfl (Or.inl rfl)) (fun _ _ _ _ _ => pts_nil) (fun _ _ _ _ _ => (pe_ca c_law_form hr (by decide) (by rfl) (pa_cons (pv 2) (pa_cons (pe_lst (pa_cons pe_str (pa_cons pe_str pa_nil))) (pa_cons pe_int pa_nil))))))
  (pss_cons (ps_if (PW.pt (pw_or (pt_not (pt_val (pe_callB (cr_all rfl) (by rfl) T.b_all (by decide +kernel) (pa_cons (pe_lc (own := [("_law_part", 8)]) (g := gName 8) (tt := tYes) rfl sc_law.nd (pi_list (pv 5)) (blkOk_by (own := [("_law_part", 8)]) (N := N_law) (sc := defScope s_law) (by decide +kernel)) (fun _ _ _ _ _ => pg_name (i := 8) sc_law.nd rfl (Or.inl rfl)) (fun _ _ _ _ _ => pts_nil) (fun _ _ _ _ _ => (pe_cmpR (in_own (k := 2) (j := 16) m_contains hr (by decide)) (pe_ca c_law_letter hr (by decide) (by rfl) (pa_cons (pv 8) pa_nil)) (pv 4) rfl))) pa_nil)))) (pw_or1 (pt_cmpR op_ne (pe_callB (len_own (k := 2) (j := 16) m_len hr (by decide)) (by rfl) T.b_len (by decide +kernel) (pa_cons (pv 4) pa_nil)) (pe_callB cq_len (by rfl) T.b_len (by decide +kernel) (pa_cons (pv 5) pa_nil)) (nomark _)))))
  (pss_one (ps_ret pe_bl))
  pss_nil)
  (pss_cons (ps_if (pt_val (pe_callB (cr_any rfl) (by rfl) T.b_any (by decide +kernel) (pa_cons (pe_lc (own := [("_law_other", 9)]) (g := gName 9) (tt := tYes) rfl sc_law.nd (pi_list (pv 6)) (blkOk_by (own := [("_law_other", 9)]) (N := N_law) (sc := defScope s_law) (by decide +kernel)) (fun _ _ _ _ _ => pg_name (i := 9) sc_law.nd rfl (Or.inl rfl)) (fun _ _ _ _ _ => pts_nil) (fun _ _ _ _ _ => (pe_cmpR op_ne (pe_cmpR (in_own (k := 2) (j := 16) m_contains hr (by decide)) (pe_ca c_law_letter hr (by decide) (by rfl) (pa_cons (pv 9) pa_nil)) (pv 4) rfl) (pe_cmpR (op_inFs (K := K) rfl hr.units) (pv 9) (pv 5) rfl) (nomark _)))) pa_nil)))
  (pss_one (ps_ret pe_bl))
  pss_nil)
  (pss_one (ps_for PassesOwn.never rfl (pi_range1 rfl T.b_range (pa_cons pe_int pa_nil)) (pg_name (i := 7) sc_law.nd rfl (Or.inl rfl))
  (pss_cons (ps_par (i := 10) (j := 11) rfl sc_law.nd rfl rfl (by decide) rfl rfl (pa_cons (pe_cm0 m_unknowns L.cl hr (by decide) (pv 4)) (pa_cons (pe_cm0 m_names L.cl hr (by decide) (pv 4)) pa_nil)) (by rfl))
  (pss_cons (ps_if (PW.pt (pw_or (pt_cmpR (op_neD hr.units) (pv 10) (pe_ca c_law_atoms hr (by decide) (by rfl) (pa_cons (pv 3) (pa_cons pe_str pa_nil))) (nomark _)) (pw_or1 (pt_cmpR (op_neD hr.units) (pv 11) (pe_ca c_law_atoms hr (by decide) (by rfl) (pa_cons (pv 3) (pa_cons pe_str pa_nil))) (nomark _)))))
  (pss_one (ps_ret pe_bl))
  pss_nil)
  (pss_cons (ps_expr (pe_bm PySem.F.plainAttrs_list PySem.F.slot_list_append PySem.F.type_list_append mt_append (pv 10) (pa_cons pe_str pa_nil)))
  (pss_one (ps_expr (pe_bm PySem.F.plainAttrs_list PySem.F.slot_list_append PySem.F.type_list_append mt_append (pv 11) (pa_cons pe_str pa_nil))))))))))))))))
  (pss_one (ps_ret pe_bl))), ?_⟩
    walk_at "go5"
    refine r_for (fun i σ' H' => ∃ w1 w2 w3 w4 w5 w6 w7 w10 w11, σ' = [some (.ref a), w1, w2, w3, w4, w5, w6, w7, none, none, w10, w11] ∧ Same H H') (by decide) ⟨_, _, _, _, _, _, _, _, _, rfl, Same.refl _⟩ (fun i σ' H0 hi p => ?_) (fun σ' H0 p => ?_)
    · obtain ⟨w1, w2, w3, w4, w5, w6, w7, w10, w11, rfl, sH⟩ := p
      have hi4 : i < 4 := hi
      walk_at "go5"
      refine ⟨a, ns, i, rfl, SqL.sm hS sH, by omega, fun H1 st hst s1 st1 => ?_⟩
      have nst : H st = none := Same.non sH hst
      walk_at "go5"
      refine ⟨by show 3 ≤ sizeLine; decide, fun p2 hp2 => ?_⟩
      walk_at "go5"
      refine ⟨st, p2, [[120], [121], [97, 98]], 0, 4, rfl, by decide, us_xyab upd_same, (st1.ne hp2).symm, st1.same (Same.upd hp2), by decide, fun H2 uf f okf df zf b2 st2 ff => ?_⟩
      have sH2 : Same H H2 := Same.but (sH.trans (s1.trans (Same.upd hp2))) nst b2
      have df60 : f.dep ≤ 60 := by omega
      have zf' : f.size ≤ 4000 := Nat.le_trans zf (by decide)
      clear b2 st1 s1 hst hp2
      walk_at "go5"
      refine ⟨uf, f, rfl, ff, okf, by omega, fun H3 x s3 lx => ?_⟩
      walk_at "go5"
      refine ⟨uf, f, rfl, ff.same s3, okf, by omega, by omega, fun H4 pp us s4 hpp e4 fs => ?_⟩
      walk_at "go5"
      refine ⟨by show 2 ≤ sizeLine; decide, fun p5 hp5 => ?_⟩
      refine ⟨_, _, rfl, SqT.of upd_same, rfl, _, _, rfl, ?_⟩
      refine g_name ?_
      refine ⟨_, _, rfl, ?_⟩
      refine g_name ?_
      refine ⟨rfl, ?_⟩
      have s5 : Same H4 (upd H4 p5 (.tup [x, .ref pp])) := Same.upd hp5
      generalize upd H4 p5 (.tup [x, .ref pp]) = H5 at s5 ⊢
      have lx5 := (lx.same s4).same s5
      have e5 := s5 _ _ e4
      have fs5 := fs.same s5
      have ff5 := ((ff.same s3).same s4).same s5
      have st5 := ((st2.same s3).same s4).same s5
      have sH5 := sH2.trans (s3.trans (s4.trans s5))
      have npp : pp ≠ st := fun z => by
        obtain ⟨_, _, _, e0, _⟩ := st2.same s3
        rw [z, e0] at hpp
        cases hpp
      clear lx e4 fs ff s3 s4 s5 st2 sH2 hp5 hpp
      have hul := fs5.len
      rw [Fm.subs_len] at hul
      refine ⟨fun σ' H' => ∃ po os gs, σ' = [some (.ref a), some (.int (i : Int)), some (.ref st), some uf, some x, some (.ref pp), some (.ref po), w7, none, none, w10, w11] ∧ Same H H' ∧ LetAt CL H' x f ∧ H' pp = some (.lst us) ∧ FsAt H' us f.subs ∧ FmAt H' uf f ∧
        H' po = some (.lst os) ∧ FsAt H' os gs ∧ (∀ g ∈ gs, g.ok = true ∧ g.dep ≤ 2) ∧ os.length = 4, ?_, ?_⟩
      · walk_at "go5"
        refine r_lcR (fun D i acc H6 => But st H5 H6 ∧ StAt H6 st (0 + dr 4 + i * 75) ∧ ∃ gs, FsAt H6 acc gs ∧ ∀ g ∈ gs, g.ok = true ∧ g.dep ≤ 2) (by decide) (fun _ => rfl) (fun D hD => ⟨But.of (Same.upd hD), st5.same (Same.upd hD), [], .nil, fun g hg => nomatch hg⟩) (fun D k acc H6 hD hk hacc hlen J => ?_) (fun D acc H6 hD hacc hlen J => ?_)
        · obtain ⟨b6, st6, gs, fg, hg⟩ := J
          have hk4 : k < 4 := by omega
          walk_at "go5"
          refine ⟨by show 2 ≤ sizeLine; decide, fun p7 hp7 => ?_⟩
          walk_at "go5"
          have hb : 0 + dr 4 + k * 75 + dr 1 ≤ 1000000000000 := by
            rw [show dr 4 = 775 from rfl, show dr 1 = 75 from rfl]
            omega
          refine ⟨st, p7, [[120], [121]], 0 + dr 4 + k * 75, 1, rfl, by decide, us_xy upd_same, (st6.ne hp7).symm, st6.same (Same.upd hp7), hb, fun H8 ug g okg dg zg b8 st8 fg8 => ?_⟩
          have b68 : But st H6 H8 := (But.of (Same.upd hp7)).trans b8
          have nD : D ≠ st := (st5.ne hD).symm
          have hacc8 := b68 _ _ nD hacc
          refine lcPost.of hacc8 hlen (by omega) ⟨?_, ?_, gs ++ [g], (((fg.tps (st6.tps b68)).app fg8).tps (Tps.lst hacc8)), fun z hz => ?_⟩
          · exact fun b o hb e => by
              rw [upd_ne (ne_of_none e hD)]
              exact b68 _ _ hb (b6 _ _ hb e)
          · rw [show 0 + dr 4 + (k + 1) * 75 = 0 + dr 4 + k * 75 + dr 1 from by rw [show dr 1 = 75 from rfl]; omega]
            exact st8.mut nD.symm
          · rcases List.mem_append.mp hz with hz | hz
            · exact hg z hz
            · rw [List.mem_singleton.mp hz]
              exact ⟨okg, by omega⟩
        · obtain ⟨b6, st6, gs, fg, hg⟩ := J
          obtain ⟨z1, z2, z3, e0, _⟩ := id st5
          walk_at "go5"
          exact ⟨D, acc, gs, rfl, Same.but sH5 nst b6, lx5.but e0 b6, b6 _ _ npp e5, fs5.tps (st5.tps b6), ff5.tps (st5.tps b6), hacc, fg, hg, by omega⟩
      · clear lx5 e5 fs5 ff5 st5 sH5 npp
        rintro σ' H6 ⟨po, os, gs, rfl, sH6, lx6, e6, fs6, ff6, eo6, fg6, hgs, hos⟩
        walk_at "go5"
        refine g_lcL0 ?_
        walk_at "go5"
        refine r_lcL (xs := us) (fun D k acc H7 => Same H6 H7 ∧ acc = (List.replicate k true).map V.bl) (SqL.of e6) (by omega) (fun _ => rfl) (fun D k acc H7 J => SqL.of (J.1 _ _ e6)) (fun D hD => ⟨Same.upd hD, rfl⟩) (fun D k z acc H7 hD hz hacc hlen J => ?_) (fun D acc H7 hD hacc hlen J => ?_)
        · obtain ⟨sJ, hJ⟩ := J
          obtain ⟨g, hg, fg⟩ := fs6.get hz
          have hgm := List.mem_of_getElem? hg
          obtain ⟨okg, dg⟩ := ok_subs okf g hgm
          have hk : k < us.length := (List.getElem?_eq_some_iff.mp hz).1
          walk_at "go5"
          refine ⟨z, g, rfl, fg.same sJ, okg, by omega, fun H8 y s8 ly => ?_⟩
          walk_at "go5"
          refine let_in ((lx6.same sJ).same s8) ly okf okg (by omega) zf' fun H9 s9 => ?_
          rw [any_self okf df60 g hgm]
          refine lcPost.of (s9 _ _ (s8 _ _ hacc)) hlen (by omega) ⟨Same.mut ((sJ.trans s8).trans s9) hD, ?_⟩
          rw [hJ, rep_succ, List.map_append]
          rfl
        · obtain ⟨sJ, hJ⟩ := J
          subst hJ
          walk_at "go5"
          refine ⟨D, List.replicate us.length true, rfl, SqL.of hacc, ?_⟩
          rw [show (List.replicate us.length true).all id = true from by simp]
          walk_at "go5"
          refine let_len (lx6.same sJ) okf zf' fun H8 s8 => ?_
          have s68 := sJ.trans s8
          have e8 := s68 _ _ e6
          have fs8 := fs6.same s68
          have lx8 := lx6.same s68
          have ff8 := ff6.same s68
          have eo8 := s68 _ _ eo6
          have fg8 := fg6.same s68
          have sH8 := sH6.trans s68
          clear sJ s8 s68 lx6 e6 fs6 ff6 eo6 fg6 sH6 hacc hlen hD
          walk_at "go5"
          refine iteND (fun h => absurd (by rw [hul]) h) (fun _ => ?_)
          walk_at "go5"
          refine g_lcL0 ?_
          walk_at "go5"
          refine r_lcL (xs := os) (fun D k acc H9 => Same H8 H9 ∧ acc = (List.replicate k false).map V.bl) (SqL.of eo8) (by omega) (fun _ => rfl) (fun D k acc H9 J => SqL.of (J.1 _ _ eo8)) (fun D hD => ⟨Same.upd hD, rfl⟩) (fun D k z acc H9 hD hz hacc hlen J => ?_) (fun D acc H9 hD hacc hlen J => ?_)
          · obtain ⟨sJ, hJ⟩ := J
            obtain ⟨g, hg, fg⟩ := fg8.get hz
            have hgm := List.mem_of_getElem? hg
            obtain ⟨okg, dg⟩ := hgs g hgm
            have hk : k < os.length := (List.getElem?_eq_some_iff.mp hz).1
            walk_at "go5"
            refine ⟨z, g, rfl, fg.same sJ, okg, by omega, fun H10 y s10 ly => ?_⟩
            walk_at "go5"
            refine let_in ((lx8.same sJ).same s10) ly okf okg (by omega) zf' fun H11 s11 => ?_
            have s911 := s10.trans s11
            walk_at "go5"
            refine ⟨pp, us, f.subs, g, rfl, SqL.of (s911 _ _ (sJ _ _ e8)), (fs8.same sJ).same s911, (fg.same sJ).same s911, okg, by omega, fun h hh => (ok_subs okf h hh).1, ?_⟩
            walk_at "go5"
            rw [decide_eq_true rfl]
            refine lcPost.of (s911 _ _ hacc) hlen (by omega) ⟨Same.mut (sJ.trans s911) hD, ?_⟩
            rw [hJ, rep_succ, List.map_append]
            rfl
          · obtain ⟨sJ, hJ⟩ := J
            subst hJ
            walk_at "go5"
            refine ⟨D, List.replicate os.length false, rfl, SqL.of hacc, ?_⟩
            rw [show (List.replicate os.length false).any id = false from by simp]
            walk_at "go5"
            have lx9 := lx8.same sJ
            have ff9 := ff8.same sJ
            have sH9 := sH8.trans sJ
            clear sJ lx8 ff8 sH8 e8 fs8 eo8 fg8 hacc hlen hD
            refine r_for (fun k σ' H' => ∃ w7 w10 w11, σ' = [some (.ref a), some (.int (i : Int)), some (.ref st), some uf, some x, some (.ref pp), some (.ref po), w7, none, none, w10, w11] ∧ Same H9 H') (by decide) ⟨_, _, _, rfl, Same.refl _⟩ (fun k σ' H10 hk p => ?_) (fun σ' H10 p => ?_)
            · obtain ⟨w7, w10, w11, rfl, s10⟩ := p
              walk_at "go5"
              have lx10 := lx9.same s10
              have ff10 := ff9.same s10
              refine let_atoms rfl lx10 okf zf' fun H11 q1 us1 t11 hq1 e11 y1 l1 => ?_
              walk_at "go5"
              refine let_atoms rfl (lx10.same t11) okf zf' fun H12 q2 us2 t12 hq2 e12 y2 l2 => ?_
              refine ⟨_, _, rfl, ?_⟩
              have e11' := t12 _ _ e11
              have ff12 := (ff10.same t11).same t12
              have s12 := s10.trans (t11.trans t12)
              have n1 : H9 q1 = none := Same.non s10 hq1
              have n2 : H9 q2 = none := Same.non (s10.trans t11) hq2
              have n12 : q1 ≠ q2 := fun z => by rw [← z, e11] at hq2; cases hq2
              have ok1 : ∀ z ∈ us1, PyData.strOk z = true := fun z hz => atomsOf_ok (by decide +kernel) okf z ((y1.2.2 z).mp hz)
              have ok2 : ∀ z ∈ us2, PyData.strOk z = true := fun z hz => atomsOf_ok (by decide +kernel) okf z ((y2.2.2 z).mp hz)
              clear lx10 ff10 t11 t12 e11 hq1 hq2 s10
              walk_at "go5"
              refine ⟨uf, kUnk, f, rfl, by decide +kernel, ff12, okf, by omega, by omega, fun H13 q3 us3 t13 hq3 e13 y3 l3 => ?_⟩
              obtain rfl : us1 = us3 := y1.same y3 fun z => Iff.rfl
              walk_at "go5"
              refine g_neSelf (.lst (SqL.of (t13 _ _ e11')) (strs_dp us1)) (.lst (SqL.of e13) (strs_dp us1)) (strs_shaped ok1) ?_
              walk_at "go5"
              refine ⟨uf, kName, f, rfl, by decide +kernel, ff12.same t13, okf, by omega, by omega, fun H14 q4 us4 t14 hq4 e14 y4 l4 => ?_⟩
              obtain rfl : us2 = us4 := y2.same y4 fun z => Iff.rfl
              have t1314 := t13.trans t14
              walk_at "go5"
              refine g_neSelf (.lst (SqL.of (t1314 _ _ e12)) (strs_dp us2)) (.lst (SqL.of e14) (strs_dp us2)) (strs_shaped ok2) ?_
              have s14 := s12.trans t1314
              have f1 := t1314 _ _ e11'
              have f2 := t1314 _ _ e12
              walk_at "go5"
              refine g_app f1 (by rw [List.length_map, sizeLine_eq]; omega) ?_
              have f2' : upd H14 q1 (.lst (us1.map V.str ++ [.str (Str.ofString "zz")])) q2 = some (.lst (us2.map V.str)) := by
                rw [upd_ne n12.symm]
                exact f2
              walk_at "go5"
              refine g_app f2' (by rw [List.length_map, sizeLine_eq]; omega) ?_
              walk_at "go5"
              exact ⟨_, _, _, rfl, Same.mut (Same.mut s14 n1) n2⟩
            · obtain ⟨w7, w10, w11, rfl, s10⟩ := p
              walk_at "go5"
              exact ⟨_, _, _, _, _, _, _, _, _, rfl, sH9.trans s10⟩
    · obtain ⟨w1, w2, w3, w4, w5, w6, w7, w10, w11, rfl, sH⟩ := p
      walk_at "go5"
      exact q _
end
theorem all_mk {l : PySem.W.OpenLaw} {w : World} {K : PySem.W.Frag} {h : Heap} {mg : Str → Option Value} {fa : Addr} (X : K.In h) (G : h.Ns mainGlobals mg) (hfa : mg "law" = some (.ref fa))
    {f_law_stream : Addr} {od_law_stream : Option Addr} {an_law_stream : Option Addr} {sl_law_stream : Array (Option Value)} {oc_law_stream : Value} {kV_law_stream : Value} {dc_law_stream : Value} {pm_law_stream : Value} {cd_law_stream : Value} {ct_law_stream : Value} {f_law_draw : Addr} {od_law_draw : Option Addr} {an_law_draw : Option Addr} {sl_law_draw : Array (Option Value)} {oc_law_draw : Value} {kV_law_draw : Value} {dc_law_draw : Value} {pm_law_draw : Value} {cd_law_draw : Value} {ct_law_draw : Value} {f_law_pick : Addr} {od_law_pick : Option Addr} {an_law_pick : Option Addr} {sl_law_pick : Array (Option Value)} {oc_law_pick : Value} {kV_law_pick : Value} {dc_law_pick : Value} {pm_law_pick : Value} {cd_law_pick : Value} {ct_law_pick : Value} {f_law_word : Addr} {od_law_word : Option Addr} {an_law_word : Option Addr} {sl_law_word : Array (Option Value)} {oc_law_word : Value} {kV_law_word : Value} {dc_law_word : Value} {pm_law_word : Value} {cd_law_word : Value} {ct_law_word : Value} {f_law_name : Addr} {od_law_name : Option Addr} {an_law_name : Option Addr} {sl_law_name : Array (Option Value)} {oc_law_name : Value} {kV_law_name : Value} {dc_law_name : Value} {pm_law_name : Value} {cd_law_name : Value} {ct_law_name : Value} {f_made_of : Addr} {od_made_of : Option Addr} {an_made_of : Option Addr} {sl_made_of : Array (Option Value)} {oc_made_of : Value} {kV_made_of : Value} {dc_made_of : Value} {pm_made_of : Value} {cd_made_of : Value} {ct_made_of : Value} {f_is_word : Addr} {od_is_word : Option Addr} {an_is_word : Option Addr} {sl_is_word : Array (Option Value)} {oc_is_word : Value} {kV_is_word : Value} {dc_is_word : Value} {pm_is_word : Value} {cd_is_word : Value} {ct_is_word : Value} {f_is_name : Addr} {od_is_name : Option Addr} {an_is_name : Option Addr} {sl_is_name : Array (Option Value)} {oc_is_name : Value} {kV_is_name : Value} {dc_is_name : Value} {pm_is_name : Value} {cd_is_name : Value} {ct_is_name : Value} {f_is_unknown : Addr} {od_is_unknown : Option Addr} {an_is_unknown : Option Addr} {sl_is_unknown : Array (Option Value)} {oc_is_unknown : Value} {kV_is_unknown : Value} {dc_is_unknown : Value} {pm_is_unknown : Value} {cd_is_unknown : Value} {ct_is_unknown : Value} {f_atom_form : Addr} {od_atom_form : Option Addr} {an_atom_form : Option Addr} {sl_atom_form : Array (Option Value)} {oc_atom_form : Value} {kV_atom_form : Value} {dc_atom_form : Value} {pm_atom_form : Value} {cd_atom_form : Value} {ct_atom_form : Value} {f_atom_text : Addr} {od_atom_text : Option Addr} {an_atom_text : Option Addr} {sl_atom_text : Array (Option Value)} {oc_atom_text : Value} {kV_atom_text : Value} {dc_atom_text : Value} {pm_atom_text : Value} {cd_atom_text : Value} {ct_atom_text : Value} {f_form_text : Addr} {od_form_text : Option Addr} {an_form_text : Option Addr} {sl_form_text : Array (Option Value)} {oc_form_text : Value} {kV_form_text : Value} {dc_form_text : Value} {pm_form_text : Value} {cd_form_text : Value} {ct_form_text : Value} {f_law_atom : Addr} {od_law_atom : Option Addr} {an_law_atom : Option Addr} {sl_law_atom : Array (Option Value)} {oc_law_atom : Value} {kV_law_atom : Value} {dc_law_atom : Value} {pm_law_atom : Value} {cd_law_atom : Value} {ct_law_atom : Value} {f_law_form : Addr} {od_law_form : Option Addr} {an_law_form : Option Addr} {sl_law_form : Array (Option Value)} {oc_law_form : Value} {kV_law_form : Value} {dc_law_form : Value} {pm_law_form : Value} {cd_law_form : Value} {ct_law_form : Value} {f_law_letter : Addr} {od_law_letter : Option Addr} {an_law_letter : Option Addr} {sl_law_letter : Array (Option Value)} {oc_law_letter : Value} {kV_law_letter : Value} {dc_law_letter : Value} {pm_law_letter : Value} {cd_law_letter : Value} {ct_law_letter : Value} {f_is_atom : Addr} {od_is_atom : Option Addr} {an_is_atom : Option Addr} {sl_is_atom : Array (Option Value)} {oc_is_atom : Value} {kV_is_atom : Value} {dc_is_atom : Value} {pm_is_atom : Value} {cd_is_atom : Value} {ct_is_atom : Value} {f_stands_alone : Addr} {od_stands_alone : Option Addr} {an_stands_alone : Option Addr} {sl_stands_alone : Array (Option Value)} {oc_stands_alone : Value} {kV_stands_alone : Value} {dc_stands_alone : Value} {pm_stands_alone : Value} {cd_stands_alone : Value} {ct_stands_alone : Value} {f_first_fault : Addr} {od_first_fault : Option Addr} {an_first_fault : Option Addr} {sl_first_fault : Array (Option Value)} {oc_first_fault : Value} {kV_first_fault : Value} {dc_first_fault : Value} {pm_first_fault : Value} {cd_first_fault : Value} {ct_first_fault : Value} {f_forms_in : Addr} {od_forms_in : Option Addr} {an_forms_in : Option Addr} {sl_forms_in : Array (Option Value)} {oc_forms_in : Value} {kV_forms_in : Value} {dc_forms_in : Value} {pm_forms_in : Value} {cd_forms_in : Value} {ct_forms_in : Value} {f_law_parts : Addr} {od_law_parts : Option Addr} {an_law_parts : Option Addr} {sl_law_parts : Array (Option Value)} {oc_law_parts : Value} {kV_law_parts : Value} {dc_law_parts : Value} {pm_law_parts : Value} {cd_law_parts : Value} {ct_law_parts : Value} {f_law_atoms : Addr} {od_law_atoms : Option Addr} {an_law_atoms : Option Addr} {sl_law_atoms : Array (Option Value)} {oc_law_atoms : Value} {kV_law_atoms : Value} {dc_law_atoms : Value} {pm_law_atoms : Value} {cd_law_atoms : Value} {ct_law_atoms : Value} {f_law : Addr} {od_law : Option Addr} {an_law : Option Addr} {sl_law : Array (Option Value)} {oc_law : Value} {kV_law : Value} {dc_law : Value} {pm_law : Value} {cd_law : Value} {ct_law : Value} {CL : Addr} {f_LI : Addr} {od_LI : Option Addr} {an_LI : Option Addr} {sl_LI : Array (Option Value)} {oc_LI : Value} {kV_LI : Value} {dc_LI : Value} {pm_LI : Value} {cd_LI : Value} {ct_LI : Value} {f_Letter_form : Addr} {od_Letter_form : Option Addr} {an_Letter_form : Option Addr} {sl_Letter_form : Array (Option Value)} {oc_Letter_form : Value} {kV_Letter_form : Value} {dc_Letter_form : Value} {pm_Letter_form : Value} {cd_Letter_form : Value} {ct_Letter_form : Value} {f_Letter_written : Addr} {od_Letter_written : Option Addr} {an_Letter_written : Option Addr} {sl_Letter_written : Array (Option Value)} {oc_Letter_written : Value} {kV_Letter_written : Value} {dc_Letter_written : Value} {pm_Letter_written : Value} {cd_Letter_written : Value} {ct_Letter_written : Value} {f_Letter___add__ : Addr} {od_Letter___add__ : Option Addr} {an_Letter___add__ : Option Addr} {sl_Letter___add__ : Array (Option Value)} {oc_Letter___add__ : Value} {kV_Letter___add__ : Value} {dc_Letter___add__ : Value} {pm_Letter___add__ : Value} {cd_Letter___add__ : Value} {ct_Letter___add__ : Value} {f_Letter___mul__ : Addr} {od_Letter___mul__ : Option Addr} {an_Letter___mul__ : Option Addr} {sl_Letter___mul__ : Array (Option Value)} {oc_Letter___mul__ : Value} {kV_Letter___mul__ : Value} {dc_Letter___mul__ : Value} {pm_Letter___mul__ : Value} {cd_Letter___mul__ : Value} {ct_Letter___mul__ : Value} {f_Letter___xor__ : Addr} {od_Letter___xor__ : Option Addr} {an_Letter___xor__ : Option Addr} {sl_Letter___xor__ : Array (Option Value)} {oc_Letter___xor__ : Value} {kV_Letter___xor__ : Value} {dc_Letter___xor__ : Value} {pm_Letter___xor__ : Value} {cd_Letter___xor__ : Value} {ct_Letter___xor__ : Value} {f_Letter___invert__ : Addr} {od_Letter___invert__ : Option Addr} {an_Letter___invert__ : Option Addr} {sl_Letter___invert__ : Array (Option Value)} {oc_Letter___invert__ : Value} {kV_Letter___invert__ : Value} {dc_Letter___invert__ : Value} {pm_Letter___invert__ : Value} {cd_Letter___invert__ : Value} {ct_Letter___invert__ : Value} {f_Letter___pos__ : Addr} {od_Letter___pos__ : Option Addr} {an_Letter___pos__ : Option Addr} {sl_Letter___pos__ : Array (Option Value)} {oc_Letter___pos__ : Value} {kV_Letter___pos__ : Value} {dc_Letter___pos__ : Value} {pm_Letter___pos__ : Value} {cd_Letter___pos__ : Value} {ct_Letter___pos__ : Value} {f_Letter___neg__ : Addr} {od_Letter___neg__ : Option Addr} {an_Letter___neg__ : Option Addr} {sl_Letter___neg__ : Array (Option Value)} {oc_Letter___neg__ : Value} {kV_Letter___neg__ : Value} {dc_Letter___neg__ : Value} {pm_Letter___neg__ : Value} {cd_Letter___neg__ : Value} {ct_Letter___neg__ : Value} {f_Letter___eq__ : Addr} {od_Letter___eq__ : Option Addr} {an_Letter___eq__ : Option Addr} {sl_Letter___eq__ : Array (Option Value)} {oc_Letter___eq__ : Value} {kV_Letter___eq__ : Value} {dc_Letter___eq__ : Value} {pm_Letter___eq__ : Value} {cd_Letter___eq__ : Value} {ct_Letter___eq__ : Value} {f_Letter___lt__ : Addr} {od_Letter___lt__ : Option Addr} {an_Letter___lt__ : Option Addr} {sl_Letter___lt__ : Array (Option Value)} {oc_Letter___lt__ : Value} {kV_Letter___lt__ : Value} {dc_Letter___lt__ : Value} {pm_Letter___lt__ : Value} {cd_Letter___lt__ : Value} {ct_Letter___lt__ : Value} {f_Letter___le__ : Addr} {od_Letter___le__ : Option Addr} {an_Letter___le__ : Option Addr} {sl_Letter___le__ : Array (Option Value)} {oc_Letter___le__ : Value} {kV_Letter___le__ : Value} {dc_Letter___le__ : Value} {pm_Letter___le__ : Value} {cd_Letter___le__ : Value} {ct_Letter___le__ : Value} {f_Letter___gt__ : Addr} {od_Letter___gt__ : Option Addr} {an_Letter___gt__ : Option Addr} {sl_Letter___gt__ : Array (Option Value)} {oc_Letter___gt__ : Value} {kV_Letter___gt__ : Value} {dc_Letter___gt__ : Value} {pm_Letter___gt__ : Value} {cd_Letter___gt__ : Value} {ct_Letter___gt__ : Value} {f_Letter___ge__ : Addr} {od_Letter___ge__ : Option Addr} {an_Letter___ge__ : Option Addr} {sl_Letter___ge__ : Array (Option Value)} {oc_Letter___ge__ : Value} {kV_Letter___ge__ : Value} {dc_Letter___ge__ : Value} {pm_Letter___ge__ : Value} {cd_Letter___ge__ : Value} {ct_Letter___ge__ : Value} {f_Letter_unknowns : Addr} {od_Letter_unknowns : Option Addr} {an_Letter_unknowns : Option Addr} {sl_Letter_unknowns : Array (Option Value)} {oc_Letter_unknowns : Value} {kV_Letter_unknowns : Value} {dc_Letter_unknowns : Value} {pm_Letter_unknowns : Value} {cd_Letter_unknowns : Value} {ct_Letter_unknowns : Value} {f_Letter_names : Addr} {od_Letter_names : Option Addr} {an_Letter_names : Option Addr} {sl_Letter_names : Array (Option Value)} {oc_Letter_names : Value} {kV_Letter_names : Value} {dc_Letter_names : Value} {pm_Letter_names : Value} {cd_Letter_names : Value} {ct_Letter_names : Value} {f_Letter___contains__ : Addr} {od_Letter___contains__ : Option Addr} {an_Letter___contains__ : Option Addr} {sl_Letter___contains__ : Array (Option Value)} {oc_Letter___contains__ : Value} {kV_Letter___contains__ : Value} {dc_Letter___contains__ : Value} {pm_Letter___contains__ : Value} {cd_Letter___contains__ : Value} {ct_Letter___contains__ : Value} {f_Letter___len__ : Addr} {od_Letter___len__ : Option Addr} {an_Letter___len__ : Option Addr} {sl_Letter___len__ : Array (Option Value)} {oc_Letter___len__ : Value} {kV_Letter___len__ : Value} {dc_Letter___len__ : Value} {pm_Letter___len__ : Value} {cd_Letter___len__ : Value} {ct_Letter___len__ : Value} {CR : Addr} {C_BadAtom : Addr} {f_BadAtom : Addr} {nm_BadAtom : Str} {q_BadAtom : Str} {N_BadAtom : Addr} {bs_BadAtom : List Value} {sn_BadAtom : List Str} {sub_BadAtom : List Value} {ab_BadAtom : Bool} {col_BadAtom : Option Bool} {dd_BadAtom : Option Addr} {m0_BadAtom : Option Value} {m1_BadAtom : Option Value} {m2_BadAtom : Option Value} {m3_BadAtom : Option Value} {m5_BadAtom : Option Value} {od_BadAtom : Option Addr} {an_BadAtom : Option Addr} {sl_BadAtom : Array (Option Value)} {oc_BadAtom : Value} {kV_BadAtom : Value} {dc_BadAtom : Value} {pm_BadAtom : Value} {cd_BadAtom : Value} {ct_BadAtom : Value} {C_BadKey : Addr} {f_BadKey : Addr} {nm_BadKey : Str} {q_BadKey : Str} {N_BadKey : Addr} {bs_BadKey : List Value} {sn_BadKey : List Str} {sub_BadKey : List Value} {ab_BadKey : Bool} {col_BadKey : Option Bool} {dd_BadKey : Option Addr} {m0_BadKey : Option Value} {m1_BadKey : Option Value} {m2_BadKey : Option Value} {m3_BadKey : Option Value} {m5_BadKey : Option Value} {od_BadKey : Option Addr} {an_BadKey : Option Addr} {sl_BadKey : Array (Option Value)} {oc_BadKey : Value} {kV_BadKey : Value} {dc_BadKey : Value} {pm_BadKey : Value} {cd_BadKey : Value} {ct_BadKey : Value} {tk_SMALL : Tok} {tk_CAPITALS : Tok} {tk_DIGITS : Tok} {a_c_ATOMS : Addr} {od_c_ATOMS : Option Addr} {n_c_ATOMS : Nat} {sl_c_ATOMS : Array (Option Value)} {tk_ATOMS0 : Tok} {tk_ATOMS1 : Tok} {tk_ATOMS2 : Tok} {a_c_KEYS : Addr} {od_c_KEYS : Option Addr} {n_c_KEYS : Nat} {sl_c_KEYS : Array (Option Value)} {tk_KEYS0 : Tok} {tk_KEYS1 : Tok}
    (a_law_stream : PySem.W.nsIn K mainGlobals "_law_stream" = some (some (.ref f_law_stream)))
    (l_law_stream : K.lookup f_law_stream = some ⟨oc_law_stream, od_law_stream, .func (PySem.W.fnOf "_law_stream" "_law_stream" (defArgs s_law_stream) (defBody s_law_stream) (defScope s_law_stream) .none kV_law_stream dc_law_stream pm_law_stream an_law_stream cd_law_stream ct_law_stream), sl_law_stream⟩)
    (c_law_stream : PySem.W.codeIn K cd_law_stream "_law_stream" = true)
    (k_law_stream : PySem.W.keepIn K (.ref f_law_stream) = true)
    (a_law_draw : PySem.W.nsIn K mainGlobals "_law_draw" = some (some (.ref f_law_draw)))
    (l_law_draw : K.lookup f_law_draw = some ⟨oc_law_draw, od_law_draw, .func (PySem.W.fnOf "_law_draw" "_law_draw" (defArgs s_law_draw) (defBody s_law_draw) (defScope s_law_draw) .none kV_law_draw dc_law_draw pm_law_draw an_law_draw cd_law_draw ct_law_draw), sl_law_draw⟩)
    (c_law_draw : PySem.W.codeIn K cd_law_draw "_law_draw" = true)
    (k_law_draw : PySem.W.keepIn K (.ref f_law_draw) = true)
    (a_law_pick : PySem.W.nsIn K mainGlobals "_law_pick" = some (some (.ref f_law_pick)))
    (l_law_pick : K.lookup f_law_pick = some ⟨oc_law_pick, od_law_pick, .func (PySem.W.fnOf "_law_pick" "_law_pick" (defArgs s_law_pick) (defBody s_law_pick) (defScope s_law_pick) .none kV_law_pick dc_law_pick pm_law_pick an_law_pick cd_law_pick ct_law_pick), sl_law_pick⟩)
    (c_law_pick : PySem.W.codeIn K cd_law_pick "_law_pick" = true)
    (k_law_pick : PySem.W.keepIn K (.ref f_law_pick) = true)
    (a_law_word : PySem.W.nsIn K mainGlobals "_law_word" = some (some (.ref f_law_word)))
    (l_law_word : K.lookup f_law_word = some ⟨oc_law_word, od_law_word, .func (PySem.W.fnOf "_law_word" "_law_word" (defArgs s_law_word) (defBody s_law_word) (defScope s_law_word) .none kV_law_word dc_law_word pm_law_word an_law_word cd_law_word ct_law_word), sl_law_word⟩)
    (c_law_word : PySem.W.codeIn K cd_law_word "_law_word" = true)
    (k_law_word : PySem.W.keepIn K (.ref f_law_word) = true)
    (a_law_name : PySem.W.nsIn K mainGlobals "_law_name" = some (some (.ref f_law_name)))
    (l_law_name : K.lookup f_law_name = some ⟨oc_law_name, od_law_name, .func (PySem.W.fnOf "_law_name" "_law_name" (defArgs s_law_name) (defBody s_law_name) (defScope s_law_name) .none kV_law_name dc_law_name pm_law_name an_law_name cd_law_name ct_law_name), sl_law_name⟩)
    (c_law_name : PySem.W.codeIn K cd_law_name "_law_name" = true)
    (k_law_name : PySem.W.keepIn K (.ref f_law_name) = true)
    (a_made_of : PySem.W.nsIn K mainGlobals "made_of" = some (some (.ref f_made_of)))
    (l_made_of : K.lookup f_made_of = some ⟨oc_made_of, od_made_of, .func (PySem.W.fnOf "made_of" "made_of" (defArgs s_made_of) (defBody s_made_of) (defScope s_made_of) .none kV_made_of dc_made_of pm_made_of an_made_of cd_made_of ct_made_of), sl_made_of⟩)
    (c_made_of : PySem.W.codeIn K cd_made_of "made_of" = true)
    (k_made_of : PySem.W.keepIn K (.ref f_made_of) = true)
    (a_is_word : PySem.W.nsIn K mainGlobals "is_word" = some (some (.ref f_is_word)))
    (l_is_word : K.lookup f_is_word = some ⟨oc_is_word, od_is_word, .func (PySem.W.fnOf "is_word" "is_word" (defArgs s_is_word) (defBody s_is_word) (defScope s_is_word) .none kV_is_word dc_is_word pm_is_word an_is_word cd_is_word ct_is_word), sl_is_word⟩)
    (c_is_word : PySem.W.codeIn K cd_is_word "is_word" = true)
    (k_is_word : PySem.W.keepIn K (.ref f_is_word) = true)
    (a_is_name : PySem.W.nsIn K mainGlobals "is_name" = some (some (.ref f_is_name)))
    (l_is_name : K.lookup f_is_name = some ⟨oc_is_name, od_is_name, .func (PySem.W.fnOf "is_name" "is_name" (defArgs s_is_name) (defBody s_is_name) (defScope s_is_name) .none kV_is_name dc_is_name pm_is_name an_is_name cd_is_name ct_is_name), sl_is_name⟩)
    (c_is_name : PySem.W.codeIn K cd_is_name "is_name" = true)
    (k_is_name : PySem.W.keepIn K (.ref f_is_name) = true)
    (a_is_unknown : PySem.W.nsIn K mainGlobals "is_unknown" = some (some (.ref f_is_unknown)))
    (l_is_unknown : K.lookup f_is_unknown = some ⟨oc_is_unknown, od_is_unknown, .func (PySem.W.fnOf "is_unknown" "is_unknown" (defArgs s_is_unknown) (defBody s_is_unknown) (defScope s_is_unknown) .none kV_is_unknown dc_is_unknown pm_is_unknown an_is_unknown cd_is_unknown ct_is_unknown), sl_is_unknown⟩)
    (c_is_unknown : PySem.W.codeIn K cd_is_unknown "is_unknown" = true)
    (k_is_unknown : PySem.W.keepIn K (.ref f_is_unknown) = true)
    (a_atom_form : PySem.W.nsIn K mainGlobals "atom_form" = some (some (.ref f_atom_form)))
    (l_atom_form : K.lookup f_atom_form = some ⟨oc_atom_form, od_atom_form, .func (PySem.W.fnOf "atom_form" "atom_form" (defArgs s_atom_form) (defBody s_atom_form) (defScope s_atom_form) .none kV_atom_form dc_atom_form pm_atom_form an_atom_form cd_atom_form ct_atom_form), sl_atom_form⟩)
    (c_atom_form : PySem.W.codeIn K cd_atom_form "atom_form" = true)
    (k_atom_form : PySem.W.keepIn K (.ref f_atom_form) = true)
    (a_atom_text : PySem.W.nsIn K mainGlobals "atom_text" = some (some (.ref f_atom_text)))
    (l_atom_text : K.lookup f_atom_text = some ⟨oc_atom_text, od_atom_text, .func (PySem.W.fnOf "atom_text" "atom_text" (defArgs s_atom_text) (defBody s_atom_text) (defScope s_atom_text) .none kV_atom_text dc_atom_text pm_atom_text an_atom_text cd_atom_text ct_atom_text), sl_atom_text⟩)
    (c_atom_text : PySem.W.codeIn K cd_atom_text "atom_text" = true)
    (k_atom_text : PySem.W.keepIn K (.ref f_atom_text) = true)
    (a_form_text : PySem.W.nsIn K mainGlobals "form_text" = some (some (.ref f_form_text)))
    (l_form_text : K.lookup f_form_text = some ⟨oc_form_text, od_form_text, .func (PySem.W.fnOf "form_text" "form_text" (defArgs s_form_text) (defBody s_form_text) (defScope s_form_text) .none kV_form_text dc_form_text pm_form_text an_form_text cd_form_text ct_form_text), sl_form_text⟩)
    (c_form_text : PySem.W.codeIn K cd_form_text "form_text" = true)
    (k_form_text : PySem.W.keepIn K (.ref f_form_text) = true)
    (a_law_atom : PySem.W.nsIn K mainGlobals "_law_atom" = some (some (.ref f_law_atom)))
    (l_law_atom : K.lookup f_law_atom = some ⟨oc_law_atom, od_law_atom, .func (PySem.W.fnOf "_law_atom" "_law_atom" (defArgs s_law_atom) (defBody s_law_atom) (defScope s_law_atom) .none kV_law_atom dc_law_atom pm_law_atom an_law_atom cd_law_atom ct_law_atom), sl_law_atom⟩)
    (c_law_atom : PySem.W.codeIn K cd_law_atom "_law_atom" = true)
    (k_law_atom : PySem.W.keepIn K (.ref f_law_atom) = true)
    (a_law_form : PySem.W.nsIn K mainGlobals "_law_form" = some (some (.ref f_law_form)))
    (l_law_form : K.lookup f_law_form = some ⟨oc_law_form, od_law_form, .func (PySem.W.fnOf "_law_form" "_law_form" (defArgs s_law_form) (defBody s_law_form) (defScope s_law_form) .none kV_law_form dc_law_form pm_law_form an_law_form cd_law_form ct_law_form), sl_law_form⟩)
    (c_law_form : PySem.W.codeIn K cd_law_form "_law_form" = true)
    (k_law_form : PySem.W.keepIn K (.ref f_law_form) = true)
    (a_law_letter : PySem.W.nsIn K mainGlobals "_law_letter" = some (some (.ref f_law_letter)))
    (l_law_letter : K.lookup f_law_letter = some ⟨oc_law_letter, od_law_letter, .func (PySem.W.fnOf "_law_letter" "_law_letter" (defArgs s_law_letter) (defBody s_law_letter) (defScope s_law_letter) .none kV_law_letter dc_law_letter pm_law_letter an_law_letter cd_law_letter ct_law_letter), sl_law_letter⟩)
    (c_law_letter : PySem.W.codeIn K cd_law_letter "_law_letter" = true)
    (k_law_letter : PySem.W.keepIn K (.ref f_law_letter) = true)
    (a_is_atom : PySem.W.nsIn K mainGlobals "is_atom" = some (some (.ref f_is_atom)))
    (l_is_atom : K.lookup f_is_atom = some ⟨oc_is_atom, od_is_atom, .func (PySem.W.fnOf "is_atom" "is_atom" (defArgs s_is_atom) (defBody s_is_atom) (defScope s_is_atom) .none kV_is_atom dc_is_atom pm_is_atom an_is_atom cd_is_atom ct_is_atom), sl_is_atom⟩)
    (c_is_atom : PySem.W.codeIn K cd_is_atom "is_atom" = true)
    (k_is_atom : PySem.W.keepIn K (.ref f_is_atom) = true)
    (a_stands_alone : PySem.W.nsIn K mainGlobals "stands_alone" = some (some (.ref f_stands_alone)))
    (l_stands_alone : K.lookup f_stands_alone = some ⟨oc_stands_alone, od_stands_alone, .func (PySem.W.fnOf "stands_alone" "stands_alone" (defArgs s_stands_alone) (defBody s_stands_alone) (defScope s_stands_alone) .none kV_stands_alone dc_stands_alone pm_stands_alone an_stands_alone cd_stands_alone ct_stands_alone), sl_stands_alone⟩)
    (c_stands_alone : PySem.W.codeIn K cd_stands_alone "stands_alone" = true)
    (k_stands_alone : PySem.W.keepIn K (.ref f_stands_alone) = true)
    (a_first_fault : PySem.W.nsIn K mainGlobals "first_fault" = some (some (.ref f_first_fault)))
    (l_first_fault : K.lookup f_first_fault = some ⟨oc_first_fault, od_first_fault, .func (PySem.W.fnOf "first_fault" "first_fault" (defArgs s_first_fault) (defBody s_first_fault) (defScope s_first_fault) .none kV_first_fault dc_first_fault pm_first_fault an_first_fault cd_first_fault ct_first_fault), sl_first_fault⟩)
    (c_first_fault : PySem.W.codeIn K cd_first_fault "first_fault" = true)
    (k_first_fault : PySem.W.keepIn K (.ref f_first_fault) = true)
    (a_forms_in : PySem.W.nsIn K mainGlobals "forms_in" = some (some (.ref f_forms_in)))
    (l_forms_in : K.lookup f_forms_in = some ⟨oc_forms_in, od_forms_in, .func (PySem.W.fnOf "forms_in" "forms_in" (defArgs s_forms_in) (defBody s_forms_in) (defScope s_forms_in) .none kV_forms_in dc_forms_in pm_forms_in an_forms_in cd_forms_in ct_forms_in), sl_forms_in⟩)
    (c_forms_in : PySem.W.codeIn K cd_forms_in "forms_in" = true)
    (k_forms_in : PySem.W.keepIn K (.ref f_forms_in) = true)
    (a_law_parts : PySem.W.nsIn K mainGlobals "_law_parts" = some (some (.ref f_law_parts)))
    (l_law_parts : K.lookup f_law_parts = some ⟨oc_law_parts, od_law_parts, .func (PySem.W.fnOf "_law_parts" "_law_parts" (defArgs s_law_parts) (defBody s_law_parts) (defScope s_law_parts) .none kV_law_parts dc_law_parts pm_law_parts an_law_parts cd_law_parts ct_law_parts), sl_law_parts⟩)
    (c_law_parts : PySem.W.codeIn K cd_law_parts "_law_parts" = true)
    (k_law_parts : PySem.W.keepIn K (.ref f_law_parts) = true)
    (a_law_atoms : PySem.W.nsIn K mainGlobals "_law_atoms" = some (some (.ref f_law_atoms)))
    (l_law_atoms : K.lookup f_law_atoms = some ⟨oc_law_atoms, od_law_atoms, .func (PySem.W.fnOf "_law_atoms" "_law_atoms" (defArgs s_law_atoms) (defBody s_law_atoms) (defScope s_law_atoms) .none kV_law_atoms dc_law_atoms pm_law_atoms an_law_atoms cd_law_atoms ct_law_atoms), sl_law_atoms⟩)
    (c_law_atoms : PySem.W.codeIn K cd_law_atoms "_law_atoms" = true)
    (k_law_atoms : PySem.W.keepIn K (.ref f_law_atoms) = true)
    (a_law : PySem.W.nsIn K mainGlobals "law" = some (some (.ref f_law)))
    (l_law : K.lookup f_law = some ⟨oc_law, od_law, .func (PySem.W.fnOf "law" "law" (defArgs s_law) (defBody s_law) (defScope s_law) .none kV_law dc_law pm_law an_law cd_law ct_law), sl_law⟩)
    (c_law : PySem.W.codeIn K cd_law "law" = true)
    (k_law : PySem.W.keepIn K (.ref f_law) = true)
    (aCL : PySem.W.nsIn K mainGlobals "Letter" = some (some (.ref CL)))
    (pg : PySem.W.plainGet K CL Str.empty = true)
    (hd : PySem.W.hasDictIn K CL = true)
    (po : PySem.W.plainOver K CL = true)
    (sa : PySem.W.findIn K (.ref CL) "__setattr__" = some (some (.builtin "object.__setattr__")))
    (mk : PySem.W.makesIn K CL = true)
    (kc : PySem.W.keepIn K (.ref CL) = true)
    (nS : PySem.W.findIn K (.ref CL) "shape" = some none)
    (aLI : PySem.W.findIn K (.ref CL) "__init__" = some (some (.ref f_LI)))
    (iLI : PySem.W.isFn K (.ref f_LI) = true)
    (l_LI : K.lookup f_LI = some ⟨oc_LI, od_LI, .func (PySem.W.fnOf "__init__" "Letter.__init__" (defArgs s_Letter___init__) (defBody s_Letter___init__) (defScope s_Letter___init__) .none kV_LI dc_LI pm_LI an_LI cd_LI ct_LI), sl_LI⟩)
    (c_LI : PySem.W.codeIn K cd_LI "Letter.__init__" = true)
    (k_LI : PySem.W.keepIn K (.ref f_LI) = true)
    (lc1 : PySem.W.selfFirst K CL = true)
    (lc2 : PySem.W.findIn K (.ref CL) "__class__" = some (some (.builtin "object.__class__")))
    (lc3 : PySem.W.specialIn K (.builtin "object.__class__") "__get__" = some (some (.builtin "getset_descriptor.__get__")))
    (lc4 : PySem.W.takesIn K (.builtin "object.__class__") = some true)
    (lc5 : PySem.W.mroIn K CL (.type "object") = some true)
    (a_Letter_form : PySem.W.findIn K (.ref CL) "form" = some (some (.ref f_Letter_form)))
    (i_Letter_form : PySem.W.isFn K (.ref f_Letter_form) = true)
    (l_Letter_form : K.lookup f_Letter_form = some ⟨oc_Letter_form, od_Letter_form, .func (PySem.W.fnOf "form" "Letter.form" (defArgs s_Letter_form) (defBody s_Letter_form) (defScope s_Letter_form) .none kV_Letter_form dc_Letter_form pm_Letter_form an_Letter_form cd_Letter_form ct_Letter_form), sl_Letter_form⟩)
    (c_Letter_form : PySem.W.codeIn K cd_Letter_form "Letter.form" = true)
    (k_Letter_form : PySem.W.keepIn K (.ref f_Letter_form) = true)
    (a_Letter_written : PySem.W.findIn K (.ref CL) "written" = some (some (.ref f_Letter_written)))
    (i_Letter_written : PySem.W.isFn K (.ref f_Letter_written) = true)
    (l_Letter_written : K.lookup f_Letter_written = some ⟨oc_Letter_written, od_Letter_written, .func (PySem.W.fnOf "written" "Letter.written" (defArgs s_Letter_written) (defBody s_Letter_written) (defScope s_Letter_written) .none kV_Letter_written dc_Letter_written pm_Letter_written an_Letter_written cd_Letter_written ct_Letter_written), sl_Letter_written⟩)
    (c_Letter_written : PySem.W.codeIn K cd_Letter_written "Letter.written" = true)
    (k_Letter_written : PySem.W.keepIn K (.ref f_Letter_written) = true)
    (a_Letter___add__ : PySem.W.findIn K (.ref CL) "__add__" = some (some (.ref f_Letter___add__)))
    (i_Letter___add__ : PySem.W.isFn K (.ref f_Letter___add__) = true)
    (l_Letter___add__ : K.lookup f_Letter___add__ = some ⟨oc_Letter___add__, od_Letter___add__, .func (PySem.W.fnOf "__add__" "Letter.__add__" (defArgs s_Letter___add__) (defBody s_Letter___add__) (defScope s_Letter___add__) .none kV_Letter___add__ dc_Letter___add__ pm_Letter___add__ an_Letter___add__ cd_Letter___add__ ct_Letter___add__), sl_Letter___add__⟩)
    (c_Letter___add__ : PySem.W.codeIn K cd_Letter___add__ "Letter.__add__" = true)
    (k_Letter___add__ : PySem.W.keepIn K (.ref f_Letter___add__) = true)
    (a_Letter___mul__ : PySem.W.findIn K (.ref CL) "__mul__" = some (some (.ref f_Letter___mul__)))
    (i_Letter___mul__ : PySem.W.isFn K (.ref f_Letter___mul__) = true)
    (l_Letter___mul__ : K.lookup f_Letter___mul__ = some ⟨oc_Letter___mul__, od_Letter___mul__, .func (PySem.W.fnOf "__mul__" "Letter.__mul__" (defArgs s_Letter___mul__) (defBody s_Letter___mul__) (defScope s_Letter___mul__) .none kV_Letter___mul__ dc_Letter___mul__ pm_Letter___mul__ an_Letter___mul__ cd_Letter___mul__ ct_Letter___mul__), sl_Letter___mul__⟩)
    (c_Letter___mul__ : PySem.W.codeIn K cd_Letter___mul__ "Letter.__mul__" = true)
    (k_Letter___mul__ : PySem.W.keepIn K (.ref f_Letter___mul__) = true)
    (a_Letter___xor__ : PySem.W.findIn K (.ref CL) "__xor__" = some (some (.ref f_Letter___xor__)))
    (i_Letter___xor__ : PySem.W.isFn K (.ref f_Letter___xor__) = true)
    (l_Letter___xor__ : K.lookup f_Letter___xor__ = some ⟨oc_Letter___xor__, od_Letter___xor__, .func (PySem.W.fnOf "__xor__" "Letter.__xor__" (defArgs s_Letter___xor__) (defBody s_Letter___xor__) (defScope s_Letter___xor__) .none kV_Letter___xor__ dc_Letter___xor__ pm_Letter___xor__ an_Letter___xor__ cd_Letter___xor__ ct_Letter___xor__), sl_Letter___xor__⟩)
    (c_Letter___xor__ : PySem.W.codeIn K cd_Letter___xor__ "Letter.__xor__" = true)
    (k_Letter___xor__ : PySem.W.keepIn K (.ref f_Letter___xor__) = true)
    (a_Letter___invert__ : PySem.W.findIn K (.ref CL) "__invert__" = some (some (.ref f_Letter___invert__)))
    (i_Letter___invert__ : PySem.W.isFn K (.ref f_Letter___invert__) = true)
    (l_Letter___invert__ : K.lookup f_Letter___invert__ = some ⟨oc_Letter___invert__, od_Letter___invert__, .func (PySem.W.fnOf "__invert__" "Letter.__invert__" (defArgs s_Letter___invert__) (defBody s_Letter___invert__) (defScope s_Letter___invert__) .none kV_Letter___invert__ dc_Letter___invert__ pm_Letter___invert__ an_Letter___invert__ cd_Letter___invert__ ct_Letter___invert__), sl_Letter___invert__⟩)
    (c_Letter___invert__ : PySem.W.codeIn K cd_Letter___invert__ "Letter.__invert__" = true)
    (k_Letter___invert__ : PySem.W.keepIn K (.ref f_Letter___invert__) = true)
    (a_Letter___pos__ : PySem.W.findIn K (.ref CL) "__pos__" = some (some (.ref f_Letter___pos__)))
    (i_Letter___pos__ : PySem.W.isFn K (.ref f_Letter___pos__) = true)
    (l_Letter___pos__ : K.lookup f_Letter___pos__ = some ⟨oc_Letter___pos__, od_Letter___pos__, .func (PySem.W.fnOf "__pos__" "Letter.__pos__" (defArgs s_Letter___pos__) (defBody s_Letter___pos__) (defScope s_Letter___pos__) .none kV_Letter___pos__ dc_Letter___pos__ pm_Letter___pos__ an_Letter___pos__ cd_Letter___pos__ ct_Letter___pos__), sl_Letter___pos__⟩)
    (c_Letter___pos__ : PySem.W.codeIn K cd_Letter___pos__ "Letter.__pos__" = true)
    (k_Letter___pos__ : PySem.W.keepIn K (.ref f_Letter___pos__) = true)
    (a_Letter___neg__ : PySem.W.findIn K (.ref CL) "__neg__" = some (some (.ref f_Letter___neg__)))
    (i_Letter___neg__ : PySem.W.isFn K (.ref f_Letter___neg__) = true)
    (l_Letter___neg__ : K.lookup f_Letter___neg__ = some ⟨oc_Letter___neg__, od_Letter___neg__, .func (PySem.W.fnOf "__neg__" "Letter.__neg__" (defArgs s_Letter___neg__) (defBody s_Letter___neg__) (defScope s_Letter___neg__) .none kV_Letter___neg__ dc_Letter___neg__ pm_Letter___neg__ an_Letter___neg__ cd_Letter___neg__ ct_Letter___neg__), sl_Letter___neg__⟩)
    (c_Letter___neg__ : PySem.W.codeIn K cd_Letter___neg__ "Letter.__neg__" = true)
    (k_Letter___neg__ : PySem.W.keepIn K (.ref f_Letter___neg__) = true)
    (a_Letter___eq__ : PySem.W.findIn K (.ref CL) "__eq__" = some (some (.ref f_Letter___eq__)))
    (i_Letter___eq__ : PySem.W.isFn K (.ref f_Letter___eq__) = true)
    (l_Letter___eq__ : K.lookup f_Letter___eq__ = some ⟨oc_Letter___eq__, od_Letter___eq__, .func (PySem.W.fnOf "__eq__" "Letter.__eq__" (defArgs s_Letter___eq__) (defBody s_Letter___eq__) (defScope s_Letter___eq__) .none kV_Letter___eq__ dc_Letter___eq__ pm_Letter___eq__ an_Letter___eq__ cd_Letter___eq__ ct_Letter___eq__), sl_Letter___eq__⟩)
    (c_Letter___eq__ : PySem.W.codeIn K cd_Letter___eq__ "Letter.__eq__" = true)
    (k_Letter___eq__ : PySem.W.keepIn K (.ref f_Letter___eq__) = true)
    (a_Letter___lt__ : PySem.W.findIn K (.ref CL) "__lt__" = some (some (.ref f_Letter___lt__)))
    (i_Letter___lt__ : PySem.W.isFn K (.ref f_Letter___lt__) = true)
    (l_Letter___lt__ : K.lookup f_Letter___lt__ = some ⟨oc_Letter___lt__, od_Letter___lt__, .func (PySem.W.fnOf "__lt__" "Letter.__lt__" (defArgs s_Letter___lt__) (defBody s_Letter___lt__) (defScope s_Letter___lt__) .none kV_Letter___lt__ dc_Letter___lt__ pm_Letter___lt__ an_Letter___lt__ cd_Letter___lt__ ct_Letter___lt__), sl_Letter___lt__⟩)
    (c_Letter___lt__ : PySem.W.codeIn K cd_Letter___lt__ "Letter.__lt__" = true)
    (k_Letter___lt__ : PySem.W.keepIn K (.ref f_Letter___lt__) = true)
    (a_Letter___le__ : PySem.W.findIn K (.ref CL) "__le__" = some (some (.ref f_Letter___le__)))
    (i_Letter___le__ : PySem.W.isFn K (.ref f_Letter___le__) = true)
    (l_Letter___le__ : K.lookup f_Letter___le__ = some ⟨oc_Letter___le__, od_Letter___le__, .func (PySem.W.fnOf "__le__" "Letter.__le__" (defArgs s_Letter___le__) (defBody s_Letter___le__) (defScope s_Letter___le__) .none kV_Letter___le__ dc_Letter___le__ pm_Letter___le__ an_Letter___le__ cd_Letter___le__ ct_Letter___le__), sl_Letter___le__⟩)
    (c_Letter___le__ : PySem.W.codeIn K cd_Letter___le__ "Letter.__le__" = true)
    (k_Letter___le__ : PySem.W.keepIn K (.ref f_Letter___le__) = true)
    (a_Letter___gt__ : PySem.W.findIn K (.ref CL) "__gt__" = some (some (.ref f_Letter___gt__)))
    (i_Letter___gt__ : PySem.W.isFn K (.ref f_Letter___gt__) = true)
    (l_Letter___gt__ : K.lookup f_Letter___gt__ = some ⟨oc_Letter___gt__, od_Letter___gt__, .func (PySem.W.fnOf "__gt__" "Letter.__gt__" (defArgs s_Letter___gt__) (defBody s_Letter___gt__) (defScope s_Letter___gt__) .none kV_Letter___gt__ dc_Letter___gt__ pm_Letter___gt__ an_Letter___gt__ cd_Letter___gt__ ct_Letter___gt__), sl_Letter___gt__⟩)
    (c_Letter___gt__ : PySem.W.codeIn K cd_Letter___gt__ "Letter.__gt__" = true)
    (k_Letter___gt__ : PySem.W.keepIn K (.ref f_Letter___gt__) = true)
    (a_Letter___ge__ : PySem.W.findIn K (.ref CL) "__ge__" = some (some (.ref f_Letter___ge__)))
    (i_Letter___ge__ : PySem.W.isFn K (.ref f_Letter___ge__) = true)
    (l_Letter___ge__ : K.lookup f_Letter___ge__ = some ⟨oc_Letter___ge__, od_Letter___ge__, .func (PySem.W.fnOf "__ge__" "Letter.__ge__" (defArgs s_Letter___ge__) (defBody s_Letter___ge__) (defScope s_Letter___ge__) .none kV_Letter___ge__ dc_Letter___ge__ pm_Letter___ge__ an_Letter___ge__ cd_Letter___ge__ ct_Letter___ge__), sl_Letter___ge__⟩)
    (c_Letter___ge__ : PySem.W.codeIn K cd_Letter___ge__ "Letter.__ge__" = true)
    (k_Letter___ge__ : PySem.W.keepIn K (.ref f_Letter___ge__) = true)
    (a_Letter_unknowns : PySem.W.findIn K (.ref CL) "unknowns" = some (some (.ref f_Letter_unknowns)))
    (i_Letter_unknowns : PySem.W.isFn K (.ref f_Letter_unknowns) = true)
    (l_Letter_unknowns : K.lookup f_Letter_unknowns = some ⟨oc_Letter_unknowns, od_Letter_unknowns, .func (PySem.W.fnOf "unknowns" "Letter.unknowns" (defArgs s_Letter_unknowns) (defBody s_Letter_unknowns) (defScope s_Letter_unknowns) .none kV_Letter_unknowns dc_Letter_unknowns pm_Letter_unknowns an_Letter_unknowns cd_Letter_unknowns ct_Letter_unknowns), sl_Letter_unknowns⟩)
    (c_Letter_unknowns : PySem.W.codeIn K cd_Letter_unknowns "Letter.unknowns" = true)
    (k_Letter_unknowns : PySem.W.keepIn K (.ref f_Letter_unknowns) = true)
    (a_Letter_names : PySem.W.findIn K (.ref CL) "names" = some (some (.ref f_Letter_names)))
    (i_Letter_names : PySem.W.isFn K (.ref f_Letter_names) = true)
    (l_Letter_names : K.lookup f_Letter_names = some ⟨oc_Letter_names, od_Letter_names, .func (PySem.W.fnOf "names" "Letter.names" (defArgs s_Letter_names) (defBody s_Letter_names) (defScope s_Letter_names) .none kV_Letter_names dc_Letter_names pm_Letter_names an_Letter_names cd_Letter_names ct_Letter_names), sl_Letter_names⟩)
    (c_Letter_names : PySem.W.codeIn K cd_Letter_names "Letter.names" = true)
    (k_Letter_names : PySem.W.keepIn K (.ref f_Letter_names) = true)
    (a_Letter___contains__ : PySem.W.findIn K (.ref CL) "__contains__" = some (some (.ref f_Letter___contains__)))
    (i_Letter___contains__ : PySem.W.isFn K (.ref f_Letter___contains__) = true)
    (l_Letter___contains__ : K.lookup f_Letter___contains__ = some ⟨oc_Letter___contains__, od_Letter___contains__, .func (PySem.W.fnOf "__contains__" "Letter.__contains__" (defArgs s_Letter___contains__) (defBody s_Letter___contains__) (defScope s_Letter___contains__) .none kV_Letter___contains__ dc_Letter___contains__ pm_Letter___contains__ an_Letter___contains__ cd_Letter___contains__ ct_Letter___contains__), sl_Letter___contains__⟩)
    (c_Letter___contains__ : PySem.W.codeIn K cd_Letter___contains__ "Letter.__contains__" = true)
    (k_Letter___contains__ : PySem.W.keepIn K (.ref f_Letter___contains__) = true)
    (a_Letter___len__ : PySem.W.findIn K (.ref CL) "__len__" = some (some (.ref f_Letter___len__)))
    (i_Letter___len__ : PySem.W.isFn K (.ref f_Letter___len__) = true)
    (l_Letter___len__ : K.lookup f_Letter___len__ = some ⟨oc_Letter___len__, od_Letter___len__, .func (PySem.W.fnOf "__len__" "Letter.__len__" (defArgs s_Letter___len__) (defBody s_Letter___len__) (defScope s_Letter___len__) .none kV_Letter___len__ dc_Letter___len__ pm_Letter___len__ an_Letter___len__ cd_Letter___len__ ct_Letter___len__), sl_Letter___len__⟩)
    (c_Letter___len__ : PySem.W.codeIn K cd_Letter___len__ "Letter.__len__" = true)
    (k_Letter___len__ : PySem.W.keepIn K (.ref f_Letter___len__) = true)
    (aC_BadAtom : PySem.W.nsIn K mainGlobals "BadAtom" = some (some (.ref C_BadAtom)))
    (xC_BadAtom : K.lookup C_BadAtom = some (excClassObj nm_BadAtom q_BadAtom C_BadAtom N_BadAtom bs_BadAtom [.ref CR, .type "ValueError", .type "Exception", .type "BaseException", .type "object"] true sn_BadAtom sub_BadAtom ab_BadAtom col_BadAtom dd_BadAtom m0_BadAtom m1_BadAtom m2_BadAtom m3_BadAtom m5_BadAtom "ValueError.__new__"))
    (sa_BadAtom : PySem.W.findIn K (.ref C_BadAtom) "__setattr__" = some (some (.builtin "object.__setattr__")))
    (ga_BadAtom : PySem.W.findIn K (.ref C_BadAtom) "__getattribute__" = some (some (.builtin "BaseException.__getattribute__")))
    (gg_BadAtom : PySem.W.findIn K (.ref C_BadAtom) "__getattr__" = some none)
    (kC_BadAtom : PySem.W.keepIn K (.ref C_BadAtom) = true)
    (eC_BadAtom : PySem.W.subIn K (.ref C_BadAtom) (.type "BaseException") = some true)
    (tC_BadAtom : PySem.W.typeIn K (.ref C_BadAtom) = some (.type "type"))
    (hC_BadAtom : PySem.W.hasDictIn K C_BadAtom = true)
    (iC_BadAtom : PySem.W.isClsIn K C_BadAtom = true)
    (sC_BadAtom : PySem.W.subIn K (.ref C_BadAtom) (.ref C_BadAtom) = some true)
    (nb_BadAtom : PySem.W.findIn K (.ref C_BadAtom) "text" = some none)
    (aI_BadAtom : PySem.W.findIn K (.ref C_BadAtom) "__init__" = some (some (.ref f_BadAtom)))
    (tI_BadAtom : PySem.W.typeIn K (.ref f_BadAtom) = some (.type "function"))
    (l_BadAtom : K.lookup f_BadAtom = some ⟨oc_BadAtom, od_BadAtom, .func (PySem.W.fnOf "__init__" "BadAtom.__init__" (defArgs s_BadAtom___init__) (defBody s_BadAtom___init__) (defScope s_BadAtom___init__) .none kV_BadAtom dc_BadAtom pm_BadAtom an_BadAtom cd_BadAtom ct_BadAtom), sl_BadAtom⟩)
    (c_BadAtom : PySem.W.codeIn K cd_BadAtom "BadAtom.__init__" = true)
    (k_BadAtom : PySem.W.keepIn K (.ref f_BadAtom) = true)
    (aC_BadKey : PySem.W.nsIn K mainGlobals "BadKey" = some (some (.ref C_BadKey)))
    (xC_BadKey : K.lookup C_BadKey = some (excClassObj nm_BadKey q_BadKey C_BadKey N_BadKey bs_BadKey [.ref CR, .type "ValueError", .type "Exception", .type "BaseException", .type "object"] true sn_BadKey sub_BadKey ab_BadKey col_BadKey dd_BadKey m0_BadKey m1_BadKey m2_BadKey m3_BadKey m5_BadKey "ValueError.__new__"))
    (sa_BadKey : PySem.W.findIn K (.ref C_BadKey) "__setattr__" = some (some (.builtin "object.__setattr__")))
    (ga_BadKey : PySem.W.findIn K (.ref C_BadKey) "__getattribute__" = some (some (.builtin "BaseException.__getattribute__")))
    (gg_BadKey : PySem.W.findIn K (.ref C_BadKey) "__getattr__" = some none)
    (kC_BadKey : PySem.W.keepIn K (.ref C_BadKey) = true)
    (eC_BadKey : PySem.W.subIn K (.ref C_BadKey) (.type "BaseException") = some true)
    (tC_BadKey : PySem.W.typeIn K (.ref C_BadKey) = some (.type "type"))
    (hC_BadKey : PySem.W.hasDictIn K C_BadKey = true)
    (iC_BadKey : PySem.W.isClsIn K C_BadKey = true)
    (sC_BadKey : PySem.W.subIn K (.ref C_BadKey) (.ref C_BadKey) = some true)
    (nb_BadKey : PySem.W.findIn K (.ref C_BadKey) "key" = some none)
    (aI_BadKey : PySem.W.findIn K (.ref C_BadKey) "__init__" = some (some (.ref f_BadKey)))
    (tI_BadKey : PySem.W.typeIn K (.ref f_BadKey) = some (.type "function"))
    (l_BadKey : K.lookup f_BadKey = some ⟨oc_BadKey, od_BadKey, .func (PySem.W.fnOf "__init__" "BadKey.__init__" (defArgs s_BadKey___init__) (defBody s_BadKey___init__) (defScope s_BadKey___init__) .none kV_BadKey dc_BadKey pm_BadKey an_BadKey cd_BadKey ct_BadKey), sl_BadKey⟩)
    (c_BadKey : PySem.W.codeIn K cd_BadKey "BadKey.__init__" = true)
    (k_BadKey : PySem.W.keepIn K (.ref f_BadKey) = true)
    (z_abs : PySem.W.nsIn K mainGlobals "abs" = some none)
    (z_all : PySem.W.nsIn K mainGlobals "all" = some none)
    (z_any : PySem.W.nsIn K mainGlobals "any" = some none)
    (z_int : PySem.W.nsIn K mainGlobals "int" = some none)
    (z_isinstance : PySem.W.nsIn K mainGlobals "isinstance" = some none)
    (z_len : PySem.W.nsIn K mainGlobals "len" = some none)
    (z_max : PySem.W.nsIn K mainGlobals "max" = some none)
    (z_range : PySem.W.nsIn K mainGlobals "range" = some none)
    (z_set : PySem.W.nsIn K mainGlobals "set" = some none)
    (z_sorted : PySem.W.nsIn K mainGlobals "sorted" = some none)
    (z_str : PySem.W.nsIn K mainGlobals "str" = some none)
    (z_tuple : PySem.W.nsIn K mainGlobals "tuple" = some none)
    (s_c_SMALL : PySem.W.nsIn K mainGlobals "SMALL" = some (some (.str "abcdefghijklmnopqrstuvwxyz" tk_SMALL)))
    (s_c_CAPITALS : PySem.W.nsIn K mainGlobals "CAPITALS" = some (some (.str "ABCDEFGHIJKLMNOPQRSTUVWXYZ" tk_CAPITALS)))
    (s_c_DIGITS : PySem.W.nsIn K mainGlobals "DIGITS" = some (some (.str "0123456789" tk_DIGITS)))
    (s_c_ATOMS : PySem.W.nsIn K mainGlobals "ATOMS" = some (some (.ref a_c_ATOMS)))
    (l_c_ATOMS : K.lookup a_c_ATOMS = some ⟨.type "tuple", od_c_ATOMS, .seq #[.str "word" tk_ATOMS0, .str "name" tk_ATOMS1, .str "unknown" tk_ATOMS2] n_c_ATOMS, sl_c_ATOMS⟩)
    (s_c_KEYS : PySem.W.nsIn K mainGlobals "KEYS" = some (some (.ref a_c_KEYS)))
    (l_c_KEYS : K.lookup a_c_KEYS = some ⟨.type "tuple", od_c_KEYS, .seq #[.str "open" tk_KEYS0, .str "own" tk_KEYS1] n_c_KEYS, sl_c_KEYS⟩) :
    ∃ fd : FuncData, (∀ (s : Shared) (v : Value), BindsTo s fd ⟨[v], []⟩ [("_law_script", v)]) ∧ ∀ base : Heap, K.In base → base.Ns mainGlobals mg → FnOk l.prog w K mg base (L2.CX l.prog w) 17 fa fd ["_law_script"] (spLaw K) := by
  have e := hfa.symm.trans (PySem.W.mg_of X G a_law)
  cases e
  have T : Bl K mg := ⟨PySem.W.mg_none_of X G z_abs, PySem.W.mg_none_of X G z_all, PySem.W.mg_none_of X G z_any, PySem.W.mg_none_of X G z_int, PySem.W.mg_none_of X G z_isinstance, PySem.W.mg_none_of X G z_len, PySem.W.mg_none_of X G z_max, PySem.W.mg_none_of X G z_range, PySem.W.mg_none_of X G z_set, PySem.W.mg_none_of X G z_sorted, PySem.W.mg_none_of X G z_str, PySem.W.mg_none_of X G z_tuple, ⟨_, PySem.W.mg_of X G s_c_SMALL, ⟨_, rfl⟩⟩, ⟨_, PySem.W.mg_of X G s_c_CAPITALS, ⟨_, rfl⟩⟩, ⟨_, PySem.W.mg_of X G s_c_DIGITS, ⟨_, rfl⟩⟩, ⟨_, PySem.W.mg_of X G s_c_ATOMS, fun H => .inr ⟨_, _, _, l_c_ATOMS, rfl, rfl, by rw [sizeLine_eq]; show 3 ≤ 16777216; decide, (.cons ⟨_, rfl⟩ (.cons ⟨_, rfl⟩ (.cons ⟨_, rfl⟩ .nil)))⟩⟩, ⟨_, PySem.W.mg_of X G s_c_KEYS, fun H => .inr ⟨_, _, _, l_c_KEYS, rfl, rfl, by rw [sizeLine_eq]; show 2 ≤ 16777216; decide, (.cons ⟨_, rfl⟩ (.cons ⟨_, rfl⟩ .nil))⟩⟩⟩
  have F_law_stream := fun_mk (st := s_law_stream) l_law_stream c_law_stream k_law_stream
  have D_law_stream : Df K mg "_law_stream" s_law_stream p_law_stream := ⟨f_law_stream, _, F_law_stream, PySem.W.mg_of X G a_law_stream, F_law_stream.binds (ps := p_law_stream) fun _ _ _ _ _ _ us hl => match us, hl with | [_, _], _ => rfl⟩
  have F_law_draw := fun_mk (st := s_law_draw) l_law_draw c_law_draw k_law_draw
  have D_law_draw : Df K mg "_law_draw" s_law_draw p_law_draw := ⟨f_law_draw, _, F_law_draw, PySem.W.mg_of X G a_law_draw, F_law_draw.binds (ps := p_law_draw) fun _ _ _ _ _ _ us hl => match us, hl with | [_, _], _ => rfl⟩
  have F_law_pick := fun_mk (st := s_law_pick) l_law_pick c_law_pick k_law_pick
  have D_law_pick : Df K mg "_law_pick" s_law_pick p_law_pick := ⟨f_law_pick, _, F_law_pick, PySem.W.mg_of X G a_law_pick, F_law_pick.binds (ps := p_law_pick) fun _ _ _ _ _ _ us hl => match us, hl with | [_, _], _ => rfl⟩
  have F_law_word := fun_mk (st := s_law_word) l_law_word c_law_word k_law_word
  have D_law_word : Df K mg "_law_word" s_law_word p_law_word := ⟨f_law_word, _, F_law_word, PySem.W.mg_of X G a_law_word, F_law_word.binds (ps := p_law_word) fun _ _ _ _ _ _ us hl => match us, hl with | [_], _ => rfl⟩
  have F_law_name := fun_mk (st := s_law_name) l_law_name c_law_name k_law_name
  have D_law_name : Df K mg "_law_name" s_law_name p_law_name := ⟨f_law_name, _, F_law_name, PySem.W.mg_of X G a_law_name, F_law_name.binds (ps := p_law_name) fun _ _ _ _ _ _ us hl => match us, hl with | [_], _ => rfl⟩
  have F_made_of := fun_mk (st := s_made_of) l_made_of c_made_of k_made_of
  have D_made_of : Df K mg "made_of" s_made_of p_made_of := ⟨f_made_of, _, F_made_of, PySem.W.mg_of X G a_made_of, F_made_of.binds (ps := p_made_of) fun _ _ _ _ _ _ us hl => match us, hl with | [_, _], _ => rfl⟩
  have F_is_word := fun_mk (st := s_is_word) l_is_word c_is_word k_is_word
  have D_is_word : Df K mg "is_word" s_is_word p_is_word := ⟨f_is_word, _, F_is_word, PySem.W.mg_of X G a_is_word, F_is_word.binds (ps := p_is_word) fun _ _ _ _ _ _ us hl => match us, hl with | [_], _ => rfl⟩
  have F_is_name := fun_mk (st := s_is_name) l_is_name c_is_name k_is_name
  have D_is_name : Df K mg "is_name" s_is_name p_is_name := ⟨f_is_name, _, F_is_name, PySem.W.mg_of X G a_is_name, F_is_name.binds (ps := p_is_name) fun _ _ _ _ _ _ us hl => match us, hl with | [_], _ => rfl⟩
  have F_is_unknown := fun_mk (st := s_is_unknown) l_is_unknown c_is_unknown k_is_unknown
  have D_is_unknown : Df K mg "is_unknown" s_is_unknown p_is_unknown := ⟨f_is_unknown, _, F_is_unknown, PySem.W.mg_of X G a_is_unknown, F_is_unknown.binds (ps := p_is_unknown) fun _ _ _ _ _ _ us hl => match us, hl with | [_], _ => rfl⟩
  have F_atom_form := fun_mk (st := s_atom_form) l_atom_form c_atom_form k_atom_form
  have D_atom_form : Df K mg "atom_form" s_atom_form p_atom_form := ⟨f_atom_form, _, F_atom_form, PySem.W.mg_of X G a_atom_form, F_atom_form.binds (ps := p_atom_form) fun _ _ _ _ _ _ us hl => match us, hl with | [_], _ => rfl⟩
  have F_atom_text := fun_mk (st := s_atom_text) l_atom_text c_atom_text k_atom_text
  have D_atom_text : Df K mg "atom_text" s_atom_text p_atom_text := ⟨f_atom_text, _, F_atom_text, PySem.W.mg_of X G a_atom_text, F_atom_text.binds (ps := p_atom_text) fun _ _ _ _ _ _ us hl => match us, hl with | [_], _ => rfl⟩
  have F_form_text := fun_mk (st := s_form_text) l_form_text c_form_text k_form_text
  have D_form_text : Df K mg "form_text" s_form_text p_form_text := ⟨f_form_text, _, F_form_text, PySem.W.mg_of X G a_form_text, F_form_text.binds (ps := p_form_text) fun _ _ _ _ _ _ us hl => match us, hl with | [_], _ => rfl⟩
  have F_law_atom := fun_mk (st := s_law_atom) l_law_atom c_law_atom k_law_atom
  have D_law_atom : Df K mg "_law_atom" s_law_atom p_law_atom := ⟨f_law_atom, _, F_law_atom, PySem.W.mg_of X G a_law_atom, F_law_atom.binds (ps := p_law_atom) fun _ _ _ _ _ _ us hl => match us, hl with | [_, _], _ => rfl⟩
  have F_law_form := fun_mk (st := s_law_form) l_law_form c_law_form k_law_form
  have D_law_form : Df K mg "_law_form" s_law_form p_law_form := ⟨f_law_form, _, F_law_form, PySem.W.mg_of X G a_law_form, F_law_form.binds (ps := p_law_form) fun _ _ _ _ _ _ us hl => match us, hl with | [_, _, _], _ => rfl⟩
  have F_law_letter := fun_mk (st := s_law_letter) l_law_letter c_law_letter k_law_letter
  have D_law_letter : Df K mg "_law_letter" s_law_letter p_law_letter := ⟨f_law_letter, _, F_law_letter, PySem.W.mg_of X G a_law_letter, F_law_letter.binds (ps := p_law_letter) fun _ _ _ _ _ _ us hl => match us, hl with | [_], _ => rfl⟩
  have F_is_atom := fun_mk (st := s_is_atom) l_is_atom c_is_atom k_is_atom
  have D_is_atom : Df K mg "is_atom" s_is_atom p_is_atom := ⟨f_is_atom, _, F_is_atom, PySem.W.mg_of X G a_is_atom, F_is_atom.binds (ps := p_is_atom) fun _ _ _ _ _ _ us hl => match us, hl with | [_, _], _ => rfl⟩
  have F_stands_alone := fun_mk (st := s_stands_alone) l_stands_alone c_stands_alone k_stands_alone
  have D_stands_alone : Df K mg "stands_alone" s_stands_alone p_stands_alone := ⟨f_stands_alone, _, F_stands_alone, PySem.W.mg_of X G a_stands_alone, F_stands_alone.binds (ps := p_stands_alone) fun _ _ _ _ _ _ us hl => match us, hl with | [_], _ => rfl⟩
  have F_first_fault := fun_mk (st := s_first_fault) l_first_fault c_first_fault k_first_fault
  have D_first_fault : Df K mg "first_fault" s_first_fault p_first_fault := ⟨f_first_fault, _, F_first_fault, PySem.W.mg_of X G a_first_fault, F_first_fault.binds (ps := p_first_fault) fun _ _ _ _ _ _ us hl => match us, hl with | [_], _ => rfl⟩
  have F_forms_in := fun_mk (st := s_forms_in) l_forms_in c_forms_in k_forms_in
  have D_forms_in : Df K mg "forms_in" s_forms_in p_forms_in := ⟨f_forms_in, _, F_forms_in, PySem.W.mg_of X G a_forms_in, F_forms_in.binds (ps := p_forms_in) fun _ _ _ _ _ _ us hl => match us, hl with | [_], _ => rfl⟩
  have F_law_parts := fun_mk (st := s_law_parts) l_law_parts c_law_parts k_law_parts
  have D_law_parts : Df K mg "_law_parts" s_law_parts p_law_parts := ⟨f_law_parts, _, F_law_parts, PySem.W.mg_of X G a_law_parts, F_law_parts.binds (ps := p_law_parts) fun _ _ _ _ _ _ us hl => match us, hl with | [_], _ => rfl⟩
  have F_law_atoms := fun_mk (st := s_law_atoms) l_law_atoms c_law_atoms k_law_atoms
  have D_law_atoms : Df K mg "_law_atoms" s_law_atoms p_law_atoms := ⟨f_law_atoms, _, F_law_atoms, PySem.W.mg_of X G a_law_atoms, F_law_atoms.binds (ps := p_law_atoms) fun _ _ _ _ _ _ us hl => match us, hl with | [_, _], _ => rfl⟩
  have F_law := fun_mk (st := s_law) l_law c_law k_law
  have F_LI := fun_mk (st := s_Letter___init__) l_LI c_LI k_LI
  have L : Lt K mg CL := ⟨⟨pg, hd, po, sa⟩, nS, PySem.W.mg_of X G aCL⟩
  have b_LI := F_LI.binds (ps := p_Letter___init__) fun _ _ _ _ _ _ us hl => match us, hl with | [_, _], _ => rfl
  have LC : Lc K CL := ⟨lc1, ⟨L.cl, lc2, lc3, lc4, lc5, if_pos (beq_self_eq_true (Value.ref CL))⟩⟩
  have F_Letter_form := fun_mk (st := s_Letter_form) l_Letter_form c_Letter_form k_Letter_form
  have D_Letter_form : Dm K CL "form" "Letter.form" s_Letter_form p_Letter_form := ⟨f_Letter_form, _, F_Letter_form, ⟨a_Letter_form, i_Letter_form, k_Letter_form⟩, F_Letter_form.binds (ps := p_Letter_form) fun _ _ _ _ _ _ us hl => match us, hl with | [_], _ => rfl⟩
  have F_Letter_written := fun_mk (st := s_Letter_written) l_Letter_written c_Letter_written k_Letter_written
  have D_Letter_written : Dm K CL "written" "Letter.written" s_Letter_written p_Letter_written := ⟨f_Letter_written, _, F_Letter_written, ⟨a_Letter_written, i_Letter_written, k_Letter_written⟩, F_Letter_written.binds (ps := p_Letter_written) fun _ _ _ _ _ _ us hl => match us, hl with | [_], _ => rfl⟩
  have F_Letter___add__ := fun_mk (st := s_Letter___add__) l_Letter___add__ c_Letter___add__ k_Letter___add__
  have D_Letter___add__ : Dm K CL "__add__" "Letter.__add__" s_Letter___add__ p_Letter___add__ := ⟨f_Letter___add__, _, F_Letter___add__, ⟨a_Letter___add__, i_Letter___add__, k_Letter___add__⟩, F_Letter___add__.binds (ps := p_Letter___add__) fun _ _ _ _ _ _ us hl => match us, hl with | [_, _], _ => rfl⟩
  have F_Letter___mul__ := fun_mk (st := s_Letter___mul__) l_Letter___mul__ c_Letter___mul__ k_Letter___mul__
  have D_Letter___mul__ : Dm K CL "__mul__" "Letter.__mul__" s_Letter___mul__ p_Letter___mul__ := ⟨f_Letter___mul__, _, F_Letter___mul__, ⟨a_Letter___mul__, i_Letter___mul__, k_Letter___mul__⟩, F_Letter___mul__.binds (ps := p_Letter___mul__) fun _ _ _ _ _ _ us hl => match us, hl with | [_, _], _ => rfl⟩
  have F_Letter___xor__ := fun_mk (st := s_Letter___xor__) l_Letter___xor__ c_Letter___xor__ k_Letter___xor__
  have D_Letter___xor__ : Dm K CL "__xor__" "Letter.__xor__" s_Letter___xor__ p_Letter___xor__ := ⟨f_Letter___xor__, _, F_Letter___xor__, ⟨a_Letter___xor__, i_Letter___xor__, k_Letter___xor__⟩, F_Letter___xor__.binds (ps := p_Letter___xor__) fun _ _ _ _ _ _ us hl => match us, hl with | [_, _], _ => rfl⟩
  have F_Letter___invert__ := fun_mk (st := s_Letter___invert__) l_Letter___invert__ c_Letter___invert__ k_Letter___invert__
  have D_Letter___invert__ : Dm K CL "__invert__" "Letter.__invert__" s_Letter___invert__ p_Letter___invert__ := ⟨f_Letter___invert__, _, F_Letter___invert__, ⟨a_Letter___invert__, i_Letter___invert__, k_Letter___invert__⟩, F_Letter___invert__.binds (ps := p_Letter___invert__) fun _ _ _ _ _ _ us hl => match us, hl with | [_], _ => rfl⟩
  have F_Letter___pos__ := fun_mk (st := s_Letter___pos__) l_Letter___pos__ c_Letter___pos__ k_Letter___pos__
  have D_Letter___pos__ : Dm K CL "__pos__" "Letter.__pos__" s_Letter___pos__ p_Letter___pos__ := ⟨f_Letter___pos__, _, F_Letter___pos__, ⟨a_Letter___pos__, i_Letter___pos__, k_Letter___pos__⟩, F_Letter___pos__.binds (ps := p_Letter___pos__) fun _ _ _ _ _ _ us hl => match us, hl with | [_], _ => rfl⟩
  have F_Letter___neg__ := fun_mk (st := s_Letter___neg__) l_Letter___neg__ c_Letter___neg__ k_Letter___neg__
  have D_Letter___neg__ : Dm K CL "__neg__" "Letter.__neg__" s_Letter___neg__ p_Letter___neg__ := ⟨f_Letter___neg__, _, F_Letter___neg__, ⟨a_Letter___neg__, i_Letter___neg__, k_Letter___neg__⟩, F_Letter___neg__.binds (ps := p_Letter___neg__) fun _ _ _ _ _ _ us hl => match us, hl with | [_], _ => rfl⟩
  have F_Letter___eq__ := fun_mk (st := s_Letter___eq__) l_Letter___eq__ c_Letter___eq__ k_Letter___eq__
  have D_Letter___eq__ : Dm K CL "__eq__" "Letter.__eq__" s_Letter___eq__ p_Letter___eq__ := ⟨f_Letter___eq__, _, F_Letter___eq__, ⟨a_Letter___eq__, i_Letter___eq__, k_Letter___eq__⟩, F_Letter___eq__.binds (ps := p_Letter___eq__) fun _ _ _ _ _ _ us hl => match us, hl with | [_, _], _ => rfl⟩
  have F_Letter___lt__ := fun_mk (st := s_Letter___lt__) l_Letter___lt__ c_Letter___lt__ k_Letter___lt__
  have D_Letter___lt__ : Dm K CL "__lt__" "Letter.__lt__" s_Letter___lt__ p_Letter___lt__ := ⟨f_Letter___lt__, _, F_Letter___lt__, ⟨a_Letter___lt__, i_Letter___lt__, k_Letter___lt__⟩, F_Letter___lt__.binds (ps := p_Letter___lt__) fun _ _ _ _ _ _ us hl => match us, hl with | [_, _], _ => rfl⟩
  have F_Letter___le__ := fun_mk (st := s_Letter___le__) l_Letter___le__ c_Letter___le__ k_Letter___le__
  have D_Letter___le__ : Dm K CL "__le__" "Letter.__le__" s_Letter___le__ p_Letter___le__ := ⟨f_Letter___le__, _, F_Letter___le__, ⟨a_Letter___le__, i_Letter___le__, k_Letter___le__⟩, F_Letter___le__.binds (ps := p_Letter___le__) fun _ _ _ _ _ _ us hl => match us, hl with | [_, _], _ => rfl⟩
  have F_Letter___gt__ := fun_mk (st := s_Letter___gt__) l_Letter___gt__ c_Letter___gt__ k_Letter___gt__
  have D_Letter___gt__ : Dm K CL "__gt__" "Letter.__gt__" s_Letter___gt__ p_Letter___gt__ := ⟨f_Letter___gt__, _, F_Letter___gt__, ⟨a_Letter___gt__, i_Letter___gt__, k_Letter___gt__⟩, F_Letter___gt__.binds (ps := p_Letter___gt__) fun _ _ _ _ _ _ us hl => match us, hl with | [_, _], _ => rfl⟩
  have F_Letter___ge__ := fun_mk (st := s_Letter___ge__) l_Letter___ge__ c_Letter___ge__ k_Letter___ge__
  have D_Letter___ge__ : Dm K CL "__ge__" "Letter.__ge__" s_Letter___ge__ p_Letter___ge__ := ⟨f_Letter___ge__, _, F_Letter___ge__, ⟨a_Letter___ge__, i_Letter___ge__, k_Letter___ge__⟩, F_Letter___ge__.binds (ps := p_Letter___ge__) fun _ _ _ _ _ _ us hl => match us, hl with | [_, _], _ => rfl⟩
  have F_Letter_unknowns := fun_mk (st := s_Letter_unknowns) l_Letter_unknowns c_Letter_unknowns k_Letter_unknowns
  have D_Letter_unknowns : Dm K CL "unknowns" "Letter.unknowns" s_Letter_unknowns p_Letter_unknowns := ⟨f_Letter_unknowns, _, F_Letter_unknowns, ⟨a_Letter_unknowns, i_Letter_unknowns, k_Letter_unknowns⟩, F_Letter_unknowns.binds (ps := p_Letter_unknowns) fun _ _ _ _ _ _ us hl => match us, hl with | [_], _ => rfl⟩
  have F_Letter_names := fun_mk (st := s_Letter_names) l_Letter_names c_Letter_names k_Letter_names
  have D_Letter_names : Dm K CL "names" "Letter.names" s_Letter_names p_Letter_names := ⟨f_Letter_names, _, F_Letter_names, ⟨a_Letter_names, i_Letter_names, k_Letter_names⟩, F_Letter_names.binds (ps := p_Letter_names) fun _ _ _ _ _ _ us hl => match us, hl with | [_], _ => rfl⟩
  have F_Letter___contains__ := fun_mk (st := s_Letter___contains__) l_Letter___contains__ c_Letter___contains__ k_Letter___contains__
  have D_Letter___contains__ : Dm K CL "__contains__" "Letter.__contains__" s_Letter___contains__ p_Letter___contains__ := ⟨f_Letter___contains__, _, F_Letter___contains__, ⟨a_Letter___contains__, i_Letter___contains__, k_Letter___contains__⟩, F_Letter___contains__.binds (ps := p_Letter___contains__) fun _ _ _ _ _ _ us hl => match us, hl with | [_, _], _ => rfl⟩
  have F_Letter___len__ := fun_mk (st := s_Letter___len__) l_Letter___len__ c_Letter___len__ k_Letter___len__
  have D_Letter___len__ : Dm K CL "__len__" "Letter.__len__" s_Letter___len__ p_Letter___len__ := ⟨f_Letter___len__, _, F_Letter___len__, ⟨a_Letter___len__, i_Letter___len__, k_Letter___len__⟩, F_Letter___len__.binds (ps := p_Letter___len__) fun _ _ _ _ _ _ us hl => match us, hl with | [_], _ => rfl⟩
  have F_BadAtom := fun_mk (st := s_BadAtom___init__) l_BadAtom c_BadAtom k_BadAtom
  have b_BadAtom := F_BadAtom.binds (ps := p_BadAtom___init__) fun _ _ _ _ _ _ us hl => match us, hl with | [_, _], _ => rfl
  have F_BadKey := fun_mk (st := s_BadKey___init__) l_BadKey c_BadKey k_BadKey
  have b_BadKey := F_BadKey.binds (ps := p_BadKey___init__) fun _ _ _ _ _ _ us hl => match us, hl with | [_, _], _ => rfl
  refine ⟨PySem.W.fnOf "law" "law" (defArgs s_law) (defBody s_law) (defScope s_law) .none kV_law dc_law pm_law an_law cd_law ct_law, fun s v => .of_eq rfl, fun base _ _ => ?_⟩
  have c1 := ca_stream (P := l.prog) (w := w) (base := base) T D_law_stream
  have c2 := ca_draw (P := l.prog) (w := w) (base := base) T D_law_draw
  have c3 := ca_pick T D_law_pick c2
  have c4 := ca_word T D_law_word c2
  have c5 := ca_name T D_law_name c2
  have c6 := ca_made_of (P := l.prog) (w := w) (base := base) T D_made_of
  have c7 := ca_is_word T D_is_word c6
  have c8 := ca_is_name T D_is_name c6
  have c9 := ca_is_unknown T D_is_unknown c6
  have c10 := ca_atom_form T D_atom_form c7 c8 c9
  have c11 := ca_atom_text (P := l.prog) (w := w) (base := base) T D_atom_text
  have c12 := ca_form_text T D_form_text c11
  have eI_BadAtom : FnOk l.prog w K mg base (L2.CX l.prog w) 1 f_BadAtom _ ["self", "text"] (spErr K "text") := fnX F_BadAtom sc_BadAtom___init__ (fun vs H Q E h => by obtain ⟨_, _, _, rfl, _⟩ := h; rfl) (BodyN.x (err_body (C := C_BadAtom) rfl sc_BadAtom___init__ (Or.inl rfl) (Or.inl rfl) (by decide) (by decide)))
  have er_BadAtom : Er l.prog w K mg base 1 "BadAtom" C_BadAtom "text" := ⟨⟨f_BadAtom, _, _, eI_BadAtom, aI_BadAtom, tI_BadAtom, b_BadAtom⟩, ⟨⟨_, _, _, _, _, _, _, _, _, _, _, _, _, _, _, xC_BadAtom, rfl⟩, sa_BadAtom, eC_BadAtom, tC_BadAtom, kC_BadAtom⟩, nb_BadAtom, PySem.W.mg_of X G aC_BadAtom, ⟨ga_BadAtom, gg_BadAtom, eC_BadAtom, hC_BadAtom⟩, PySem.W.exm_ref eC_BadAtom hC_BadAtom tC_BadAtom sC_BadAtom⟩
  have ck : Ck l.prog w K mg base 4 "Letter" CL (spInit2 CL C_BadAtom) := ⟨f_LI, _, _, ⟨mk, aLI, iLI, kc⟩, fnX F_LI sc_Letter___init__ init_len (bd_init T L c10 er_BadAtom), PySem.W.mg_of X G aCL, b_LI⟩
  have m1 := cm_form (P := l.prog) (w := w) (mg := mg) (base := base) D_Letter_form L
  have m2 := cm_written T D_Letter_written L c12
  have eI_BadKey : FnOk l.prog w K mg base (L2.CX l.prog w) 1 f_BadKey _ ["self", "key"] (spErr K "key") := fnX F_BadKey sc_BadKey___init__ (fun vs H Q E h => by obtain ⟨_, _, _, rfl, _⟩ := h; rfl) (BodyN.x (err_body (C := C_BadKey) rfl sc_BadKey___init__ (Or.inl rfl) (Or.inl rfl) (by decide) (by decide)))
  have er_BadKey : Er l.prog w K mg base 1 "BadKey" C_BadKey "key" := ⟨⟨f_BadKey, _, _, eI_BadKey, aI_BadKey, tI_BadKey, b_BadKey⟩, ⟨⟨_, _, _, _, _, _, _, _, _, _, _, _, _, _, _, xC_BadKey, rfl⟩, sa_BadKey, eC_BadKey, tC_BadKey, kC_BadKey⟩, nb_BadKey, PySem.W.mg_of X G aC_BadKey, ⟨ga_BadKey, gg_BadKey, eC_BadKey, hC_BadKey⟩, PySem.W.exm_ref eC_BadKey hC_BadKey tC_BadKey sC_BadKey⟩
  have n1 := cm_add T L LC D_Letter___add__ ck
  have n2 := cm_mul T L LC D_Letter___mul__ ck
  have n3 := cm_xor T L LC D_Letter___xor__ ck er_BadKey
  have n4 := cm_invert T L D_Letter___invert__ ck
  have n5 := cm_pos T L D_Letter___pos__ ck
  have n6 := cm_neg T L D_Letter___neg__ ck
  have d1 := ca_atom T D_law_atom c2 c3 c4 c5
  have d2 := ca_form T D_law_form c2 d1
  have d3 := ca_letter T L LC D_law_letter ck n1 n2 n3 n4 n5 n6
  have ff := ca_forms_in (P := l.prog) (w := w) (base := base) T D_forms_in
  have mu := cm_unknowns T L D_Letter_unknowns ff
  have mn := cm_names T L D_Letter_names ff
  have mc := cm_contains T L LC D_Letter___contains__ ff
  have ml := cm_len T L D_Letter___len__ ff
  have lp := ca_partsX (P := l.prog) (w := w) (base := base) T D_law_parts 9
  have la := ca_law_atoms T D_law_atoms lp
  exact fn_law T L LC F_law c1 (d2 5) (d3 9) lp la mu mn mc ml
theorem walk {l : PySem.W.OpenLaw} {q : Program} {loose : List Str} {XP : (Str → Option Value) → Heap → Prop} {YP : World → Heap → Prop} {d : DefRec} {K : Params → PySem.W.Frag} (hn : l.most = some 63) (hdf : d.params.defaults = [])
    (hY : ∀ (w : World) (h : Heap), YP w h → (K w.params).In h)
    (F : ∀ (w : World) (mg : Str → Option Value) (fa : Addr) (h : Heap), (K w.params).In h → h.Ns mainGlobals mg → mg d.name = some (.ref fa) →
      ∃ fd : FuncData, (∀ (s : Shared) (u : Value), BindsTo s fd ⟨[u], []⟩ [("_law_script", u)]) ∧ ∀ base : Heap, (K w.params).In base → base.Ns mainGlobals mg → FnOk l.prog w (K w.params) mg base (L2.CX l.prog w) 17 fa fd ["_law_script"] (spLaw (K w.params))) :
    PySem.W.WalkO q loose XP YP l.row.toRowW d [] (fun f vs => PySem.call f vs) :=
  L2.walk_of (n := 63) (k := 17) (x := "_law_script") (CX := fun w => L2.CX l.prog w) (sp := fun w => spLaw (K w.params)) hn (by decide) hdf ⟨rfl, by decide, by decide⟩ hY F (fun _ _ a ns hl _ hS => ⟨a, ns, rfl, hS, hl, fun _ => rfl⟩) fun _ _ _ _ _ z => by
    obtain ⟨_, _, _, _, _, _, _, _, _, _, _, _, y⟩ := z
    exact y
end Op
open PySem PySem.W PyProof.Rows in
set_option maxRecDepth 100000 in
set_option maxHeartbeats 0 in
theorem PySem.Challenge.cw_openroads_k06_parts_of_letters_holds : PySem.Challenge.rw_openroads_k06_parts_of_letters.Holds := by
  w_on; o_law; k_head; (case hw => w_witness2)
  k_fill
  refine Op.walk (l := PySem.Challenge.rw_openroads_k06_parts_of_letters) rfl rfl (fun w h Y => PySem.W.kIn_of Y) ?F
  case F =>
    intro w mg fa h KX G hmg
    refine' Op.all_mk KX G hmg ?a_law_stream ?l_law_stream ?c_law_stream ?k_law_stream ?a_law_draw ?l_law_draw ?c_law_draw ?k_law_draw ?a_law_pick ?l_law_pick ?c_law_pick ?k_law_pick ?a_law_word ?l_law_word ?c_law_word ?k_law_word ?a_law_name ?l_law_name ?c_law_name ?k_law_name ?a_made_of ?l_made_of ?c_made_of ?k_made_of ?a_is_word ?l_is_word ?c_is_word ?k_is_word ?a_is_name ?l_is_name ?c_is_name ?k_is_name ?a_is_unknown ?l_is_unknown ?c_is_unknown ?k_is_unknown ?a_atom_form ?l_atom_form ?c_atom_form ?k_atom_form ?a_atom_text ?l_atom_text ?c_atom_text ?k_atom_text ?a_form_text ?l_form_text ?c_form_text ?k_form_text ?a_law_atom ?l_law_atom ?c_law_atom ?k_law_atom ?a_law_form ?l_law_form ?c_law_form ?k_law_form ?a_law_letter ?l_law_letter ?c_law_letter ?k_law_letter ?a_is_atom ?l_is_atom ?c_is_atom ?k_is_atom ?a_stands_alone ?l_stands_alone ?c_stands_alone ?k_stands_alone ?a_first_fault ?l_first_fault ?c_first_fault ?k_first_fault ?a_forms_in ?l_forms_in ?c_forms_in ?k_forms_in ?a_law_parts ?l_law_parts ?c_law_parts ?k_law_parts ?a_law_atoms ?l_law_atoms ?c_law_atoms ?k_law_atoms ?a_law ?l_law ?c_law ?k_law ?aCL ?pg ?hd ?po ?sa ?mk ?kc ?nS ?aLI ?iLI ?l_LI ?c_LI ?k_LI ?lc1 ?lc2 ?lc3 ?lc4 ?lc5 ?a_Letter_form ?i_Letter_form ?l_Letter_form ?c_Letter_form ?k_Letter_form ?a_Letter_written ?i_Letter_written ?l_Letter_written ?c_Letter_written ?k_Letter_written ?a_Letter___add__ ?i_Letter___add__ ?l_Letter___add__ ?c_Letter___add__ ?k_Letter___add__ ?a_Letter___mul__ ?i_Letter___mul__ ?l_Letter___mul__ ?c_Letter___mul__ ?k_Letter___mul__ ?a_Letter___xor__ ?i_Letter___xor__ ?l_Letter___xor__ ?c_Letter___xor__ ?k_Letter___xor__ ?a_Letter___invert__ ?i_Letter___invert__ ?l_Letter___invert__ ?c_Letter___invert__ ?k_Letter___invert__ ?a_Letter___pos__ ?i_Letter___pos__ ?l_Letter___pos__ ?c_Letter___pos__ ?k_Letter___pos__ ?a_Letter___neg__ ?i_Letter___neg__ ?l_Letter___neg__ ?c_Letter___neg__ ?k_Letter___neg__ ?a_Letter___eq__ ?i_Letter___eq__ ?l_Letter___eq__ ?c_Letter___eq__ ?k_Letter___eq__ ?a_Letter___lt__ ?i_Letter___lt__ ?l_Letter___lt__ ?c_Letter___lt__ ?k_Letter___lt__ ?a_Letter___le__ ?i_Letter___le__ ?l_Letter___le__ ?c_Letter___le__ ?k_Letter___le__ ?a_Letter___gt__ ?i_Letter___gt__ ?l_Letter___gt__ ?c_Letter___gt__ ?k_Letter___gt__ ?a_Letter___ge__ ?i_Letter___ge__ ?l_Letter___ge__ ?c_Letter___ge__ ?k_Letter___ge__ ?a_Letter_unknowns ?i_Letter_unknowns ?l_Letter_unknowns ?c_Letter_unknowns ?k_Letter_unknowns ?a_Letter_names ?i_Letter_names ?l_Letter_names ?c_Letter_names ?k_Letter_names ?a_Letter___contains__ ?i_Letter___contains__ ?l_Letter___contains__ ?c_Letter___contains__ ?k_Letter___contains__ ?a_Letter___len__ ?i_Letter___len__ ?l_Letter___len__ ?c_Letter___len__ ?k_Letter___len__ ?aC_BadAtom ?xC_BadAtom ?sa_BadAtom ?ga_BadAtom ?gg_BadAtom ?kC_BadAtom ?eC_BadAtom ?tC_BadAtom ?hC_BadAtom ?iC_BadAtom ?sC_BadAtom ?nb_BadAtom ?aI_BadAtom ?tI_BadAtom ?l_BadAtom ?c_BadAtom ?k_BadAtom ?aC_BadKey ?xC_BadKey ?sa_BadKey ?ga_BadKey ?gg_BadKey ?kC_BadKey ?eC_BadKey ?tC_BadKey ?hC_BadKey ?iC_BadKey ?sC_BadKey ?nb_BadKey ?aI_BadKey ?tI_BadKey ?l_BadKey ?c_BadKey ?k_BadKey ?z_abs ?z_all ?z_any ?z_int ?z_isinstance ?z_len ?z_max ?z_range ?z_set ?z_sorted ?z_str ?z_tuple ?s_c_SMALL ?s_c_CAPITALS ?s_c_DIGITS ?s_c_ATOMS ?l_c_ATOMS ?s_c_KEYS ?l_c_KEYS
    (case a_law_stream => k_is)
    (case l_law_stream => k_is)
    (case c_law_stream => k_is)
    (case k_law_stream => k_is)
    (case a_law_draw => k_is)
    (case l_law_draw => k_is)
    (case c_law_draw => k_is)
    (case k_law_draw => k_is)
    (case a_law_pick => k_is)
    (case l_law_pick => k_is)
    (case c_law_pick => k_is)
    (case k_law_pick => k_is)
    (case a_law_word => k_is)
    (case l_law_word => k_is)
    (case c_law_word => k_is)
    (case k_law_word => k_is)
    (case a_law_name => k_is)
    (case l_law_name => k_is)
    (case c_law_name => k_is)
    (case k_law_name => k_is)
    (case a_made_of => k_is)
    (case l_made_of => k_is)
    (case c_made_of => k_is)
    (case k_made_of => k_is)
    (case a_is_word => k_is)
    (case l_is_word => k_is)
    (case c_is_word => k_is)
    (case k_is_word => k_is)
    (case a_is_name => k_is)
    (case l_is_name => k_is)
    (case c_is_name => k_is)
    (case k_is_name => k_is)
    (case a_is_unknown => k_is)
    (case l_is_unknown => k_is)
    (case c_is_unknown => k_is)
    (case k_is_unknown => k_is)
    (case a_atom_form => k_is)
    (case l_atom_form => k_is)
    (case c_atom_form => k_is)
    (case k_atom_form => k_is)
    (case a_atom_text => k_is)
    (case l_atom_text => k_is)
    (case c_atom_text => k_is)
    (case k_atom_text => k_is)
    (case a_form_text => k_is)
    (case l_form_text => k_is)
    (case c_form_text => k_is)
    (case k_form_text => k_is)
    (case a_law_atom => k_is)
    (case l_law_atom => k_is)
    (case c_law_atom => k_is)
    (case k_law_atom => k_is)
    (case a_law_form => k_is)
    (case l_law_form => k_is)
    (case c_law_form => k_is)
    (case k_law_form => k_is)
    (case a_law_letter => k_is)
    (case l_law_letter => k_is)
    (case c_law_letter => k_is)
    (case k_law_letter => k_is)
    (case a_is_atom => k_is)
    (case l_is_atom => k_is)
    (case c_is_atom => k_is)
    (case k_is_atom => k_is)
    (case a_stands_alone => k_is)
    (case l_stands_alone => k_is)
    (case c_stands_alone => k_is)
    (case k_stands_alone => k_is)
    (case a_first_fault => k_is)
    (case l_first_fault => k_is)
    (case c_first_fault => k_is)
    (case k_first_fault => k_is)
    (case a_forms_in => k_is)
    (case l_forms_in => k_is)
    (case c_forms_in => k_is)
    (case k_forms_in => k_is)
    (case a_law_parts => k_is)
    (case l_law_parts => k_is)
    (case c_law_parts => k_is)
    (case k_law_parts => k_is)
    (case a_law_atoms => k_is)
    (case l_law_atoms => k_is)
    (case c_law_atoms => k_is)
    (case k_law_atoms => k_is)
    (case a_law => k_is)
    (case l_law => k_is)
    (case c_law => k_is)
    (case k_law => k_is)
    (case aCL => k_is)
    (case pg => k_is)
    (case hd => k_is)
    (case po => k_is)
    (case sa => k_is)
    (case mk => k_is)
    (case kc => k_is)
    (case nS => k_is)
    (case aLI => k_is)
    (case iLI => k_is)
    (case l_LI => k_is)
    (case c_LI => k_is)
    (case k_LI => k_is)
    (case lc1 => k_is)
    (case lc2 => k_is)
    (case lc3 => k_is)
    (case lc4 => k_is)
    (case lc5 => k_is)
    (case a_Letter_form => k_is)
    (case i_Letter_form => k_is)
    (case l_Letter_form => k_is)
    (case c_Letter_form => k_is)
    (case k_Letter_form => k_is)
    (case a_Letter_written => k_is)
    (case i_Letter_written => k_is)
    (case l_Letter_written => k_is)
    (case c_Letter_written => k_is)
    (case k_Letter_written => k_is)
    (case a_Letter___add__ => k_is)
    (case i_Letter___add__ => k_is)
    (case l_Letter___add__ => k_is)
    (case c_Letter___add__ => k_is)
    (case k_Letter___add__ => k_is)
    (case a_Letter___mul__ => k_is)
    (case i_Letter___mul__ => k_is)
    (case l_Letter___mul__ => k_is)
    (case c_Letter___mul__ => k_is)
    (case k_Letter___mul__ => k_is)
    (case a_Letter___xor__ => k_is)
    (case i_Letter___xor__ => k_is)
    (case l_Letter___xor__ => k_is)
    (case c_Letter___xor__ => k_is)
    (case k_Letter___xor__ => k_is)
    (case a_Letter___invert__ => k_is)
    (case i_Letter___invert__ => k_is)
    (case l_Letter___invert__ => k_is)
    (case c_Letter___invert__ => k_is)
    (case k_Letter___invert__ => k_is)
    (case a_Letter___pos__ => k_is)
    (case i_Letter___pos__ => k_is)
    (case l_Letter___pos__ => k_is)
    (case c_Letter___pos__ => k_is)
    (case k_Letter___pos__ => k_is)
    (case a_Letter___neg__ => k_is)
    (case i_Letter___neg__ => k_is)
    (case l_Letter___neg__ => k_is)
    (case c_Letter___neg__ => k_is)
    (case k_Letter___neg__ => k_is)
    (case a_Letter___eq__ => k_is)
    (case i_Letter___eq__ => k_is)
    (case l_Letter___eq__ => k_is)
    (case c_Letter___eq__ => k_is)
    (case k_Letter___eq__ => k_is)
    (case a_Letter___lt__ => k_is)
    (case i_Letter___lt__ => k_is)
    (case l_Letter___lt__ => k_is)
    (case c_Letter___lt__ => k_is)
    (case k_Letter___lt__ => k_is)
    (case a_Letter___le__ => k_is)
    (case i_Letter___le__ => k_is)
    (case l_Letter___le__ => k_is)
    (case c_Letter___le__ => k_is)
    (case k_Letter___le__ => k_is)
    (case a_Letter___gt__ => k_is)
    (case i_Letter___gt__ => k_is)
    (case l_Letter___gt__ => k_is)
    (case c_Letter___gt__ => k_is)
    (case k_Letter___gt__ => k_is)
    (case a_Letter___ge__ => k_is)
    (case i_Letter___ge__ => k_is)
    (case l_Letter___ge__ => k_is)
    (case c_Letter___ge__ => k_is)
    (case k_Letter___ge__ => k_is)
    (case a_Letter_unknowns => k_is)
    (case i_Letter_unknowns => k_is)
    (case l_Letter_unknowns => k_is)
    (case c_Letter_unknowns => k_is)
    (case k_Letter_unknowns => k_is)
    (case a_Letter_names => k_is)
    (case i_Letter_names => k_is)
    (case l_Letter_names => k_is)
    (case c_Letter_names => k_is)
    (case k_Letter_names => k_is)
    (case a_Letter___contains__ => k_is)
    (case i_Letter___contains__ => k_is)
    (case l_Letter___contains__ => k_is)
    (case c_Letter___contains__ => k_is)
    (case k_Letter___contains__ => k_is)
    (case a_Letter___len__ => k_is)
    (case i_Letter___len__ => k_is)
    (case l_Letter___len__ => k_is)
    (case c_Letter___len__ => k_is)
    (case k_Letter___len__ => k_is)
    (case aC_BadAtom => k_is)
    (case xC_BadAtom => k_is)
    (case sa_BadAtom => k_is)
    (case ga_BadAtom => k_is)
    (case gg_BadAtom => k_is)
    (case kC_BadAtom => k_is)
    (case eC_BadAtom => k_is)
    (case tC_BadAtom => k_is)
    (case hC_BadAtom => k_is)
    (case iC_BadAtom => k_is)
    (case sC_BadAtom => k_is)
    (case nb_BadAtom => k_is)
    (case aI_BadAtom => k_is)
    (case tI_BadAtom => k_is)
    (case l_BadAtom => k_is)
    (case c_BadAtom => k_is)
    (case k_BadAtom => k_is)
    (case aC_BadKey => k_is)
    (case xC_BadKey => k_is)
    (case sa_BadKey => k_is)
    (case ga_BadKey => k_is)
    (case gg_BadKey => k_is)
    (case kC_BadKey => k_is)
    (case eC_BadKey => k_is)
    (case tC_BadKey => k_is)
    (case hC_BadKey => k_is)
    (case iC_BadKey => k_is)
    (case sC_BadKey => k_is)
    (case nb_BadKey => k_is)
    (case aI_BadKey => k_is)
    (case tI_BadKey => k_is)
    (case l_BadKey => k_is)
    (case c_BadKey => k_is)
    (case k_BadKey => k_is)
    (case z_abs => k_is)
    (case z_all => k_is)
    (case z_any => k_is)
    (case z_int => k_is)
    (case z_isinstance => k_is)
    (case z_len => k_is)
    (case z_max => k_is)
    (case z_range => k_is)
    (case z_set => k_is)
    (case z_sorted => k_is)
    (case z_str => k_is)
    (case z_tuple => k_is)
    (case s_c_SMALL => k_is)
    (case s_c_CAPITALS => k_is)
    (case s_c_DIGITS => k_is)
    (case s_c_ATOMS => k_is)
    (case l_c_ATOMS => k_is)
    (case s_c_KEYS => k_is)
    (case l_c_KEYS => k_is)
