import PyProof.Rows.All
import Wide.All
import OpenK.AllK
import Wide.FinOn
import KE.KStateDown
import Lean
import HandS.ForExc
import HandS.More
import HandS.Defaults
import HandS.Head0
import HandS.Head1
import HandS.Head2
import HandS.HeadEnd
import HandS.HeadHook1
import HandS.HeadHook2
import HandS.HeadHook3
import HandS.HeadHook4
import HandS.ForMost
import HandS.ExcInit
import HandS.ExcValue
import HandS.IsInst
import KE.KExcIs
import HandS.Walk
import HandS.NoneIn
import KE.KDictZip
import HandS.ListItems
import HandS.DictEq
import HandS.ListEq
import HandS.DeepEq
import HandS.Text
import HandS.SetFor
import HandS.Wide
import PyProof.StrLawsRepr
import PyProof.FitsInt
import HandS.Style
import HandS.FStr
import PyProof.StrOps2
import HandS.ReplaceLit
import HandS.ReplaceDef
import HandS.ReplaceList
import HandS.SortOrd
import HandS.DictTup
import PyProof.Rows.SortWalk
import HandS.RevRange
import KE.KDictPairs
import KE.KRevSl
import HandS.Codes
import HandS.Small
import PySem.Challenge.RW_tagless_k87_documents_as_texts
set_option Elab.async false
set_option linter.all false
set_option maxRecDepth 100000
set_option maxHeartbeats 0
namespace K00
open PySem PySem.Spec PyProof.Rows L2
def top (i : Nat) : Stmt := PySem.Challenge.pw_tagless_k87_documents_as_texts.main.body.getD i (.Pass ⟨0, 0, 0, 0⟩)
def errs : List Str := ["NoDocument", "BadText"]
def looseN : List Str := (["TaglessError", "NoDocument", "BadText", "LETTERS", "LONGEST_NAME", "is_name", "sort_of", "inner_parts", "parts_of", "is_document", "alike", "paired_parts", "same", "DIGITS", "check_document", "MARKS", "WORDS", "leaf_text", "outer_text", "text_of"] : List Str) ++ (["show_document", "string_end", "token_end", "tokens_of", "unquoted", "leaves_in", "wholes_in", "read_loosely", "documents_in", "read_document", "_law_pot", "_law_take", "_law_of", "_law_unlike", "_law_flat", "_law_writ", "_law_strange", "_law_thing", "_law_turned", "_law_right"] : List Str)
abbrev sInit : Stmt := match top 1 with
  | .ClassDef (body := b) .. => b.getD 0 (.Pass ⟨0, 0, 0, 0⟩)
  | _ => .Pass ⟨0, 0, 0, 0⟩
def dF (i : Nat) (x : Str) : He.DefD := ⟨(x, none), x, x, defArgs (top i), defBody (top i), defScope (top i), [], []⟩
def fn : List He.DefD := [dF 7 "is_name", dF 8 "sort_of", dF 9 "inner_parts", dF 10 "parts_of", dF 11 "is_document", dF 12 "alike", dF 13 "paired_parts", dF 14 "same", dF 17 "check_document", dF 21 "leaf_text", dF 22 "outer_text", dF 23 "text_of", dF 24 "show_document", dF 25 "string_end", dF 26 "token_end", dF 27 "tokens_of", dF 28 "unquoted", dF 29 "leaves_in", dF 30 "wholes_in", dF 31 "read_loosely", dF 32 "documents_in", dF 33 "read_document", dF 35 "_law_pot", dF 36 "_law_take", dF 37 "_law_of", dF 38 "_law_unlike", dF 39 "_law_flat", dF 40 "_law_writ", dF 41 "_law_strange", dF 42 "_law_thing", dF 43 "_law_turned", dF 44 "_law_right", dF 45 "law",
  ⟨("TaglessError", some "__init__"), "__init__", "TaglessError.__init__", defArgs sInit, defBody sInit, defScope sInit, [], []⟩]
def freeN : List Str := ["len", "isinstance", "all", "list", "max", "min", "range", "abs", "int", "repr", "zip", "bool", "str", "dict", "ValueError", "sorted", "tuple", "sum", "reversed"]
def fa : List He.Fa := (fn.take 33).map (fun d => He.Fa.glo d.name) ++ (freeN.map He.Fa.free ++ [.str "LETTERS" "abcdefghijklmnopqrstuvwxyz", .int "LONGEST_NAME" 8, .str "DIGITS" "0123456789", .str "MARKS" "[]{},: ", .glo "WORDS"])
/-- what is asked of an error's class at C -/
def eqB {α : Type} [DecidableEq α] (a b : α) : Bool := decide (a = b)
def clsB (K : PySem.W.Frag) (C : Addr) : Bool := match K.lookup C with
  | some ⟨.type t, _, .cls cd, sl⟩ => (match cd.mro, sl.toList with
    | .ref C' :: bm, [_, _, _, _, some (.builtin n), _] => eqB t "type" && (C' == C && (n == "ValueError.__new__" && (!cd.hasDel && (cd.hasDict && PySem.HandSPX.refsVE bm))))
    | _, _ => false)
  | _ => false
def fI (K : PySem.W.Frag) : Addr := He.ma K (He.ga K "TaglessError") "__init__"
def errB (K : PySem.W.Frag) (x : Str) : Bool :=
  let C := He.ga K x
  He.eqO (PySem.W.nsIn K mainGlobals x) (some (some (.ref C))) && (clsB K C &&
  (He.eqO (PySem.W.findIn K (.ref C) "__setattr__") (some (some (.builtin "object.__setattr__"))) &&
  (He.eqO (PySem.W.findIn K (.ref C) "__getattribute__") (some (some (.builtin "BaseException.__getattribute__"))) &&
  (He.eqO (PySem.W.findIn K (.ref C) "__getattr__") (some none) &&
  (He.eqO (PySem.W.findIn K (.ref C) "value") (some none) &&
  (He.eqO (PySem.W.findIn K (.ref C) "__init__") (some (some (.ref (fI K)))) &&
  (He.eqO (PySem.W.findIn K (.ref C) "__class__") (some (some (.builtin "object.__class__"))) &&
  (PySem.W.keepIn K (.ref C) &&
  (eqB (PySem.W.subIn K (.ref C) (.type "BaseException")) (some true) &&
  (eqB (PySem.W.typeIn K (.ref C)) (some (.type "type")) &&
  (PySem.W.hasDictIn K C && eqB (PySem.W.mroIn K C (.type "object")) (some true))))))))))))
def kinB (K : PySem.W.Frag) : Bool :=
  errs.all (fun x => errs.all fun y => eqB (PySem.W.kitOne K (.ref (He.ga K x)) (.ref (He.ga K y))) (some (x == y))) &&
  (errs.all (fun x => eqB (PySem.W.kitOne K (.ref (He.ga K x)) (.ref (He.ga K "TaglessError"))) (some true)) &&
   errs.all (fun x => eqB (PySem.W.kitOne K (.ref (He.ga K x)) (.type "ValueError")) (some true)))
/-- WORDS: its keys, its values -/
def wdT : List Str := ["-", "yes", "no"]
def wdB (K : PySem.W.Frag) : Bool :=
  eqB (PySem.W.nsIn K (He.ga K "WORDS") "-") (some (some .none)) && (eqB (PySem.W.nsIn K (He.ga K "WORDS") "yes") (some (some (.bool true))) && eqB (PySem.W.nsIn K (He.ga K "WORDS") "no") (some (some (.bool false))))
def ckB (K : PySem.W.Frag) : Bool :=
  wdB K && (errs.all (errB K) && (kinB K && (He.eqO (PySem.W.nsIn K mainGlobals "TaglessError") (some (some (.ref (He.ga K "TaglessError")))) &&
  (eqB (PySem.W.typeIn K (.ref (fI K))) (some (.type "function")) &&
  (errs.all (fun x => eqB (PySem.W.exmOne K (.ref (He.ga K x)) (.ref (He.ga K "TaglessError"))) (some true)) &&
  (eqB (PySem.W.specialIn K (.builtin "object.__class__") "__get__") (some (some (.builtin "getset_descriptor.__get__"))) &&
  (eqB (PySem.W.takesIn K (.builtin "object.__class__")) (some true) &&
  (match K.lookup 1 with
    | some ⟨.type t, _, _, _⟩ => eqB t "dict"
    | _ => false))))))))
def obK (K : PySem.W.Frag) : He.AlD := (ckB K && (He.obsD fa fn K).1, (He.obsD fa fn K).2)
abbrev Al : Type := He.AlD × Option (List (Option (Str × Int)))
def chW (K : PySem.W.Frag) : Option (List (Option (Str × Int))) := He.dicW K (He.ga K "WORDS")
def chV (w : World) : Option (List (Option (Str × Int))) := some (He.keysIn w.params wdT)
structure Says (h : Heap) (w : World) (K : PySem.W.Frag) : Prop where
  ck : ckB K = true
  d : He.SaysD fa fn K
  ch : He.dicW K (He.ga K "WORDS") = some (He.keysIn w.params wdT)
/-- the part of the heap that the facts speak of -/
def asK (g : Addr → Option Obj) : List Addr :=
  let K0 := He.frG g [mainGlobals]
  let fs := (fn.take 33).map fun d => He.ga K0 d.name
  let cs := (["TaglessError", "NoDocument", "BadText", "WORDS"] : List Str).map (He.ga K0)
  1 :: mainGlobals :: (He.growD g (He.growD g fs) ++ He.growD g (He.growD g (He.growD g (He.growD g cs))))
def obG (g : Addr → Option Obj) : Al :=
  let K := He.frT g (asK g)
  (obK K, chW K)
theorem says_of {g : Addr → Option Obj} {h : Heap} {w : World} (eg : g = h.get?) (e : obG g = (He.valD fn, chV w)) : Says h w (He.frT g (asK g)) := by
  have e0 : obK (He.frT g (asK g)) = He.valD fn := congrArg (fun z : Al => z.1) e
  have e1 : (ckB (He.frT g (asK g)) && (He.obsD fa fn (He.frT g (asK g))).1) = true := congrArg (fun z : He.AlD => z.1) e0
  have e2 : (He.obsD fa fn (He.frT g (asK g))).2 = fn.map He.DefD.val := congrArg (fun z : He.AlD => z.2) e0
  obtain ⟨h1, h2⟩ := He.ba e1
  exact ⟨h1, Prod.ext h2 e2, congrArg (fun z : Al => z.2) e⟩
abbrev R : PySem.W.OpenRow := PySem.W.OpenLaw.row PySem.Challenge.rw_tagless_k87_documents_as_texts
def hk : PySem.W.Hook where
  α := Al
  obs := fun s => obG s.heap.get?
  val := fun w => (He.valD fn, chV w)
  says := fun w h => ∃ K : PySem.W.Frag, K.In h ∧ Says h w K
  of := fun _ _ e => ⟨_, He.frT_in, says_of rfl e⟩
  keeps := fun _ _ _ ⟨K, hK, c⟩ k => ⟨K, PySem.W.Frag.In.keeps hK k, ⟨c.ck, c.d, c.ch⟩⟩
def ob (s : PySem.W.SharedT) : Al := obG (HandSHeadRun.getT s)
theorem ob_eq (s : PySem.W.SharedT) : ob s = hk.obs s.abs := by
  have e : HandSHeadRun.getT s = s.abs.heap.get? := funext (HandSHeadRun.getT_eq s)
  show obG (HandSHeadRun.getT s) = obG s.abs.heap.get?
  rw [e]
end K00
set_option Elab.async false
set_option linter.all false
set_option maxRecDepth 100000
set_option maxHeartbeats 0
namespace K00
open PySem PySem.Spec PyProof.Rows L2
theorem run_false (w : World) : HandSHeadRun.RunEq R (PySem.W.view R.prog [45]) hk ob 20000 looseN (w.withFollow "special-get-raises" false) := by
  intro os
  kernel_rfl
end K00
set_option Elab.async false
set_option linter.all false
set_option maxRecDepth 100000
set_option maxHeartbeats 0
namespace K00
open PySem PySem.Spec PyProof.Rows L2
theorem run_true (w : World) : HandSHeadRun.RunEq R (PySem.W.view R.prog [45]) hk ob 20000 looseN (w.withFollow "special-get-raises" true) := by
  intro os
  kernel_rfl
end K00
set_option Elab.async false
set_option linter.all false
set_option maxRecDepth 100000
set_option maxHeartbeats 0
namespace K00
open PySem PySem.Spec PyProof.Rows L2
theorem run (w : World) : HandSHeadRun.RunEq R (PySem.W.view R.prog [45]) hk ob 20000 looseN w := by
  have key : ∀ (b : Bool) (w : World), HandSHeadRun.RunEq R (PySem.W.view R.prog [45]) hk ob 20000 looseN (w.withFollow "special-get-raises" b) := by
    intro b w
    cases b
    · exact run_false w
    · exact run_true w
  have := key (w.params.followText "special-get-raises") w
  rwa [World.withFollow_self] at this
end K00
set_option Elab.async false
set_option linter.all false
set_option maxRecDepth 100000
/-! K00Math: what k00 says of data, in plain Lean: what is a document, how many parts, going through parts in breadth. -/
namespace K00
open PySem
def LET : Str := "abcdefghijklmnopqrstuvwxyz"
def nameB (s : Str) : Bool := decide (1 ≤ s.length) && (decide (s.length ≤ 8) && s.cps.toList.all fun c => LET.cps.toList.contains c)
def keyB : PyData → Bool
  | .str s => nameB s
  | _ => false
mutual
def isOne : PyData → Bool
  | .none => true
  | .bool _ => true
  | .int _ => true
  | .str _ => true
  | .tuple _ => false
  | .list xs => isOneL xs
  | .dict kvs => isOneK kvs
def isOneL : List PyData → Bool
  | [] => true
  | x :: r => isOne x && isOneL r
def isOneK : List (PyData × PyData) → Bool
  | [] => true
  | (k, v) :: r => (keyB k && isOne v) && isOneK r
end
mutual
def cnt : PyData → Nat
  | .none => 1
  | .bool _ => 1
  | .int _ => 1
  | .str _ => 1
  | .tuple _ => 1
  | .list xs => 1 + cntL xs
  | .dict kvs => 1 + cntK kvs
def cntL : List PyData → Nat
  | [] => 0
  | x :: r => cnt x + cntL r
def cntK : List (PyData × PyData) → Nat
  | [] => 0
  | (_, v) :: r => cnt v + cntK r
end
def kids : PyData → List PyData
  | .list xs => xs
  | .dict kvs => kvs.map (·.2)
  | _ => []
def sortB : PyData → Bool
  | .tuple _ => false
  | .dict kvs => kvs.all fun p => keyB p.1
  | _ => true
theorem cntL_eq : ∀ xs : List PyData, cntL xs = (xs.map cnt).sum
  | [] => by simp [cntL]
  | x :: r => by simp [cntL, cntL_eq r]
theorem cntK_eq : ∀ xs : List (PyData × PyData), cntK xs = ((xs.map (·.2)).map cnt).sum
  | [] => by simp [cntK]
  | (k, v) :: r => by simp [cntK, cntK_eq r]
theorem cnt_kids (d : PyData) : cnt d = 1 + ((kids d).map cnt).sum := by
  cases d with
  | list xs => simp only [cnt, kids, cntL_eq]
  | dict kvs => simp only [cnt, kids, cntK_eq]
  | _ => simp [cnt, kids]
theorem isOneL_eq : ∀ xs : List PyData, isOneL xs = xs.all isOne
  | [] => by simp [isOneL]
  | x :: r => by simp [isOneL, isOneL_eq r]
theorem isOneK_eq : ∀ xs : List (PyData × PyData), isOneK xs = ((xs.all fun p => keyB p.1) && (xs.map (·.2)).all isOne)
  | [] => by simp [isOneK]
  | (k, v) :: r => by
    simp only [isOneK, isOneK_eq r, List.all_cons, List.map_cons]
    cases keyB k <;> cases isOne v <;> simp
theorem isOne_kids (d : PyData) : isOne d = (sortB d && (kids d).all isOne) := by
  cases d with
  | list xs => simp [isOne, sortB, kids, isOneL_eq]
  | dict kvs => simp only [isOne, sortB, kids, isOneK_eq]
  | _ => simp [isOne, sortB, kids]
/-- the parts that a walk in breadth has seen, and those that it still has to see -/
structure Wide (root : PyData) (i : Nat) (ps : List PyData) : Prop where
  le : i ≤ ps.length
  many : i + ((ps.drop i).map cnt).sum = cnt root
  one : ((ps.take i).all sortB && (ps.drop i).all isOne) = isOne root
theorem Wide.start (d : PyData) : Wide d 0 [d] := ⟨Nat.zero_le _, by simp, by simp⟩
theorem Wide.step {root d : PyData} {i : Nat} {ps : List PyData} (w : Wide root i ps) (h : ps[i]? = some d) : Wide root (i + 1) (ps ++ kids d) := by
  obtain ⟨hi, hd⟩ := List.getElem?_eq_some_iff.mp h
  have e1 : ps.drop i = d :: ps.drop (i + 1) := by rw [List.drop_eq_getElem_cons hi, hd]
  have e2 : ps.take (i + 1) = ps.take i ++ [d] := by rw [← List.take_append_getElem hi, hd]
  have e3 : (ps ++ kids d).drop (i + 1) = ps.drop (i + 1) ++ kids d := List.drop_append_of_le_length (by omega)
  have e4 : (ps ++ kids d).take (i + 1) = ps.take (i + 1) := List.take_append_of_le_length (by omega)
  obtain ⟨_, h2, h3⟩ := w
  refine ⟨by rw [List.length_append]; omega, ?_, ?_⟩
  · rw [e3, List.map_append, List.sum_append]
    rw [e1, List.map_cons, List.sum_cons, cnt_kids d] at h2
    omega
  · rw [e3, e4, e2, ← h3, e1]
    simp only [List.all_append, List.all_cons, List.all_nil, Bool.and_true]
    rw [isOne_kids d]
    generalize (ps.take i).all sortB = a
    generalize (ps.drop (i + 1)).all isOne = b
    generalize sortB d = c
    generalize (kids d).all isOne = e
    cases a <;> cases b <;> cases c <;> cases e <;> rfl
theorem Wide.done {root : PyData} {i : Nat} {ps : List PyData} (w : Wide root i ps) (h : ps.length ≤ i) : ps.length = cnt root ∧ ps.all sortB = isOne root := by
  obtain ⟨h1, h2, h3⟩ := w
  have e : i = ps.length := Nat.le_antisymm h1 h
  subst e
  rw [List.drop_length] at h2 h3
  rw [List.take_length] at h3
  exact ⟨by simpa using h2, by simpa using h3⟩
theorem cnt_pos (d : PyData) : 1 ≤ cnt d := by rw [cnt_kids]; omega
theorem Wide.left {root : PyData} {i : Nat} {ps : List PyData} (w : Wide root i ps) : i ≤ cnt root := by have := w.many; omega
theorem Wide.lt {root : PyData} {i : Nat} {ps : List PyData} (w : Wide root i ps) (h : i < ps.length) : i < cnt root := by
  have e1 : ps.drop i = ps[i] :: ps.drop (i + 1) := List.drop_eq_getElem_cons h
  have q := w.many
  rw [e1, List.map_cons, List.sum_cons] at q
  have := cnt_pos ps[i]
  omega
theorem Wide.len {root : PyData} {i : Nat} {ps : List PyData} (w : Wide root i ps) : ps.length ≤ cnt root := by
  have q := w.many
  have l : ∀ xs : List PyData, xs.length ≤ (xs.map cnt).sum := by
    intro xs
    induction xs with
    | nil => simp
    | cons x r ih =>
      rw [List.map_cons, List.sum_cons, List.length_cons]
      have := cnt_pos x
      omega
  have z := l (ps.drop i)
  rw [List.length_drop] at z
  have := w.le
  omega
end K00
set_option Elab.async false
set_option linter.all false
set_option maxRecDepth 100000
set_option maxHeartbeats 4000000
/-! K00B: the errors of the program as values: made by a call, read, asked by isinstance, raised. -/
namespace K00
open PySem PySem.W PySem.Calls PyProof.Rows PySem.HandSPX
/-! ### the text of __init__ -/
def iA (p1 p2 : Pos) : Arguments :=
  { posonlyargs := [], args := [{ arg := "self", annotation := none, pos := p1 }, { arg := "value", annotation := none, pos := p2 }], vararg := none, kwonlyargs := [], kw_defaults := [], kwarg := none, defaults := [] }
def iB (q1 q2 q3 q4 : Pos) : List Stmt := [.Assign [.Attribute (.Name "self" q1) "value" q2] (.Name "value" q3) q4]
def iS : Scope := { kind := .function, names := [(PySem.Str.ofString "self", .local), (PySem.Str.ofString "value", .local)], isGenerator := false, isCoroutine := false, more := [] }
/-- what the written part says of an error's class at C and of the __init__ that it has from above -/
structure ErrT (K : Frag) (C fI : Addr) : Prop where
  cls : ∃ nm q N bs bm sn sub ab col dd k0 k1 k2 k3 k5, K.lookup C = some (excClassObj nm q C N bs bm true sn sub ab col dd k0 k1 k2 k3 k5 "ValueError.__new__") ∧ refsVE bm = true
  sa : findIn K (.ref C) "__setattr__" = some (some (.builtin "object.__setattr__"))
  ga : findIn K (.ref C) "__getattribute__" = some (some (.builtin "BaseException.__getattribute__"))
  gg : findIn K (.ref C) "__getattr__" = some none
  noN : findIn K (.ref C) "value" = some none
  iC : findIn K (.ref C) "__init__" = some (some (.ref fI))
  cl : findIn K (.ref C) "__class__" = some (some (.builtin "object.__class__"))
  kC : keepIn K (.ref C) = true
  exC : subIn K (.ref C) (.type "BaseException") = some true
  tyC : typeIn K (.ref C) = some (.type "type")
  hdC : hasDictIn K C = true
  ob : mroIn K C (.type "object") = some true
structure InitT (K : Frag) (fI : Addr) : Prop where
  tI : typeIn K (.ref fI) = some (.type "function")
  gt : specialIn K (.builtin "object.__class__") "__get__" = some (some (.builtin "getset_descriptor.__get__"))
  tk : takesIn K (.builtin "object.__class__") = some true
  fn : ∃ (oc : Value) (od : Option Addr) (doc pm : Value) (an : Option Addr) (cdv ct : Value) (osl : Array (Option Value)) (p1 p2 q1 q2 q3 q4 : Pos) (kV : Value),
    K.lookup fI = some ⟨oc, od, .func (fnOf "__init__" "TaglessError.__init__" (iA p1 p2) (iB q1 q2 q3 q4) iS .none kV doc pm an cdv ct), osl⟩ ∧ codeIn K cdv "TaglessError.__init__" = true
theorem one_size (v : Value) : [v].length ≤ sizeLine := by
  rw [sizeLine_eq]
  exact (by decide : 1 ≤ 16777216)
theorem ldC {M : Model} {s : Shared} {name : Str} {scope : Scope} {L a : Addr} {cd : Value} {m : Str → Option Value} {x : Str} {pos : Pos} {v : Value} {Q : Value → Shared → Prop} {A : Around} {E : Value → Shared → Prop} (hn : s.heap.Ns L m) (hv : m x = some v) (h : Q v s)
    (hk : scope.kind = .function := by rfl) (hl : (envOfC name scope L a cd).kindOf x = some .local := by rfl) (hd : (x == ("__debug__" : Str)) = false := by decide) :
    wpAny M A (eval (.Name x pos) (envOfC name scope L a cd)) Q E s := wpAny_Name (wpAny_loadName_local hk hl hn hv h) hd
/-- the object of an error with its own dict -/
def errO (C t0 dx : Addr) : Obj := { cls := .ref C, dict := some dx, data := .fields #[.ref t0, .none, .none, .none, .bool false, .none] }
structure InitEnd (h h' : Heap) (x C dx t1 : Addr) (v : Value) : Prop where
  keep : ∀ b o, b ≠ x → h.get? b = some o → h'.get? b = some o
  obj : h'.get? x = some (errO C t1 dx)
  dbig : h.objs.size ≤ dx
  dne : dx ≠ x
  ns : h'.Ns1 dx (fun y => if y = "value" then some v else none)
structure OwnMade (h h' : Heap) (e C d : Addr) (v : Value) : Prop where
  keep : ∀ b o, h.get? b = some o → h'.get? b = some o
  new : h.objs.size ≤ e
  obj : ∃ t0, h'.get? e = some (errO C t0 d)
  dbig : h.objs.size ≤ d
  dne : d ≠ e
  ns : h'.Ns1 d (fun y => if y = "value" then some v else none)
section
variable {prog : Program} {w : World} {A : Around} {E : Value → Shared → Prop} {R : Result → Shared → Prop} {s : Shared} {K : Frag} {C fI : Addr}
theorem err_init (T : ErrT K C fI) (T0 : InitT K fI) {x t0 : Addr} {v : Value} (X : K.In s.heap) (hlim : s.heap.NoLimit) (hx : s.heap.get? x = some (excO C t0)) (hroom : A.depth < recursionLimit)
    (hq : ∀ h' tk dx, InitEnd s.heap h' x C dx t0 v → R (.ok (.ret .none)) { s with heap := h', toks := tk }) :
    codeAny (model prog w) A (.call (.ref fI) ⟨[.ref x, v], []⟩) R s := by
  obtain ⟨oc, od, doc, pm, an, cdv, ct, osl, p1, p2, q1, q2, q3, q4, kV, ho, hcd⟩ := T0.fn
  obtain ⟨nm, q, N, bs, bm, sn, sub, ab, col, dd, k0, k1, k2, k3, k5, hC, hbm⟩ := T.cls
  have hcl : clsIn K C = some { name := nm, bases := bs, mro := .ref C :: bm, ns := N, qualname := q, hasDict := true, slotNames := sn, subclasses := sub, abstract := ab, collection := col, hasDel := false } := by unfold clsIn; rw [hC] <;> rfl
  refine Att.call_fn (binds := [("self", .ref x), ("value", v)]) X hlim ho hcd hroom (BindsTo.of_eq (by first | rfl | with_unfolding_all rfl)) (by first | rfl | decide | with_unfolding_all rfl) (fun s₁ IC => ?_) rfl rfl rfl
  obtain ⟨h₁, tk₁, rfl⟩ := IC.toInCall.same
  have k : ∀ b o, s.heap.get? b = some o → h₁.get? b = some o := IC.toInCall.keep
  have hn := IC.toInCall.ns
  have hxL : s.heap.objs.size ≠ x := Nat.ne_of_gt (Heap.lt_size hx)
  have X₁ : K.In h₁ := X.keeps k
  have hx₁ := k _ _ hx
  show wpAny _ _ (execs _ _) _ _ _
  refine wpAny_execs_cons (plainObj_wpAny_Assign_Attribute ?_)
  refine ldC (v := v) hn (by first | rfl | with_unfolding_all rfl | kernel_rfl) (ldC (v := .ref x) hn (by first | rfl | with_unfolding_all rfl | kernel_rfl) ?_)
  refine set_plain X₁ (ox := excO C t0) (od := none) ⟨hx₁, rfl, rfl, trivial⟩ T.sa ?_
  refine exc_osa X₁ hx₁ hcl (show refsVE (.ref C :: bm) = true from hbm) rfl T.noN (fun h₃ tk₃ dx k₃ dn dne hx₃ hn₃ => ?_)
  show wpAny _ _ (execs _ _) _ _ _
  have z : s.heap.objs.size < h₁.objs.size := hn.lt
  exact wpAny_execs_nil (hq h₃ tk₃ dx ⟨fun b o hb e => k₃ b o hb (k b o e), hx₃, Nat.le_of_lt (Nat.lt_of_lt_of_le z dn), dne, hn₃⟩)
theorem err_made (T : ErrT K C fI) (T0 : InitT K fI) {v : Value} (X : K.In s.heap) (hlim : s.heap.NoLimit) (hroom : A.depth + 1 < recursionLimit)
    (hq : ∀ h' tk e d, OwnMade s.heap h' e C d v → R (.ok (.ret (.ref e))) { s with heap := h', toks := tk }) :
    codeAny (model prog w) A (.call (.ref C) ⟨[v], []⟩) R s := by
  obtain ⟨nm, q, N, bs, bm, sn, sub, ab, col, dd, k0, k1, k2, k3, k5, hC, hbm⟩ := T.cls
  obtain ⟨hp, g, dr, tk, os⟩ := s
  have k : ∀ b o, hp.get? b = some o → ((hp.push (kdv_tup [v])).push (excO C hp.objs.size)).get? b = some o := fun b o e => Heap.get?_push_of_some _ (Heap.get?_push_of_some _ e)
  have hget : ((hp.push (kdv_tup [v])).push (excO C hp.objs.size)).get? (hp.objs.size + 1) = some (excO C hp.objs.size) := by heap_get
  refine call_own F.excBase_ValueError (fun X => refsVE_contains X bm hbm) (X _ _ hC) (looks_findIn X T.iC) (fun self => bind_fn X self T0.tI) (one_size v) ?_
  refine err_init (s := ⟨(hp.push (kdv_tup [v])).push (excO C hp.objs.size), g, dr, tk, os⟩) T T0 (X.keeps k) (hlim.keeps k) hget ?_ fun h' tk' dx ⟨k', hx, dn, dne, hns⟩ => ?_
  · show A.depth + 1 < recursionLimit
    exact hroom
  · have old : ∀ b o, hp.get? b = some o → h'.get? b = some o := fun b o e => k' b o (Nat.ne_of_lt (Nat.lt_succ_of_lt (Heap.lt_size e))) (k b o e)
    have z : hp.objs.size + 1 + 1 ≤ dx := by
      first
        | (simpa only [Heap.size_push] using dn)
        | exact dn
        | (have q := dn; rw [Heap.size_push, Heap.size_push] at q; exact q)
    exact ⟨rfl, hq h' tk' (hp.objs.size + 1) dx ⟨old, Nat.le_succ _, ⟨_, hx⟩, Nat.le_trans (Nat.le_trans (Nat.le_succ _) (Nat.le_succ _)) z, dne, hns⟩⟩
end
end K00
namespace K00
open PySem PySem.Spec PyProof.Rows L2
theorem relO_val {v : V} {v' : Value} (r : RelV v v') (f : Str) : RelO (List.lookup f [(("value" : Str), v)]) (if f = "value" then some v' else none) := by
  by_cases hw : f = "value"
  · subst hw
    rw [if_pos rfl]
    have q : List.lookup ("value" : Str) [(("value" : Str), v)] = some v := by simp [List.lookup]
    rw [q]
    exact r
  · rw [if_neg hw]
    have qw : (f == ("value" : Str)) = false := by simpa using hw
    have q2 : List.lookup f [(("value" : Str), v)] = none := by simp [List.lookup, qw]
    rw [q2]
    trivial
/-- u is an error of the class at C that holds v -/
def IsErr (H : Hp) (C : Addr) (v u : V) : Prop := ∃ e d : Addr, u = .ref e ∧ H e = some (exo e C (some d)) ∧ H d = some (.xd [(("value" : Str), v)])
theorem IsErr.same {H H' : Hp} {C : Addr} {v u : V} (h : IsErr H C v u) (k : Same H H') : IsErr H' C v u := by
  obtain ⟨e, d, h1, h2, h3⟩ := h
  exact ⟨e, d, h1, k _ _ h2, k _ _ h3⟩
section
variable {X : Cx} {C fI : Addr}
/-- C(e) as a value -/
def tErr (C : Addr) (ta : TA) : TE := fun σ H Q => ta σ H fun vs H1 => ∃ v, vs = [v] ∧ ∀ (u : V) (H2 : Hp), Same H1 H2 → IsErr H2 C v u → Q u H2
theorem pe_err {x : Str} {e : Expr} {ta : TA} {p pos : Pos} {k : Nat} (T : ErrT X.K C fI) (T0 : InitT X.K fI) (gC : X.mg x = some (.ref C)) (hr : Room k X.A) (ha : PA X [e] ta) (hg : Gl X x := by rfl)
    (hdb : (x == ("__debug__" : Str)) = false := by decide)
    (hs : starEach (e :: []) X.env = (false, eval e X.env) :: starEach [] X.env := by rfl) (hpl : (backTo pos (starEach [] X.env)).any (·.1) = false := by rfl) :
    PE X (.Call (.Name x p) [e] [] pos) (tErr C ta) := by
  refine ⟨fun pins s σ H Q I h => ?_⟩
  refine wpAny_Call_Name_kw (ld_glob I hg gC ?_ hdb)
  refine PySem.W.callWith_K (h₀ := X.base) I.ok.mod.kin T.kC (thn (ha.run pos pins s σ H _ I h) fun us s1 hh => ?_) hs hpl
  obtain ⟨vs, H1, I1, r1, v, ev, q1⟩ := hh
  subst ev
  refine ⟨I1.kIn, ?_⟩
  cases r1 with
  | cons rv rn =>
    rename_i v' us'
    cases rn
    show wpAny _ _ (call (.ref C) [v']) _ _ _
    have hlim := I1.nolimit
    obtain ⟨hp, g, dr, tk, os⟩ := s1
    refine wpAny_call (err_made T T0 I1.kIn hlim (by have := hr.dp; omega) fun h' tk' e d M => ?_)
    obtain ⟨t0, hoe⟩ := M.obj
    have hns := M.ns
    obtain ⟨G', g1, g2⟩ := restrict h' fun b => decide (b ≠ e)
    have gk : ∀ b, b ≠ e → G'.get? b = h'.get? b := fun b hb => g1 b (decide_eq_true hb)
    have ge : G'.get? e = none := g2 e (by simp)
    have old : ∀ b o, hp.get? b = some o → G'.get? b = some o := fun b o q => (gk b (Nat.ne_of_lt (Nat.lt_of_lt_of_le (Heap.lt_size q) M.new))).trans (M.keep b o q)
    have ob : ObjOk X.prog X.w (upd H1 d (.xd [(("value" : Str), v)])) G' d (.xd [(("value" : Str), v)]) :=
      ⟨_, hns.at (fun o q => (gk d M.dne).trans q), fun f => relO_val rv f⟩
    have J : Inv X pins σ (upd H1 d (.xd [(("value" : Str), v)])) ⟨G', g, dr, tk', os⟩ := I1.laid (t' := tk') old M.dbig ob
    have he1 : H1 e = none := I1.hok.fresh M.new
    have hd1 : H1 d = none := I1.hok.fresh M.dbig
    have hen : (upd H1 d (.xd [(("value" : Str), v)])) e = none := by rw [upd_ne (Ne.symm M.dne)]; exact he1
    have kk : ∀ b u, G'.get? b = some u → h'.get? b = some u := fun b u q => by
      by_cases hb : b = e
      · rw [hb, ge] at q; cases q
      · exact (gk b hb).symm.trans q
    have J2 : Inv X pins σ (upd (upd H1 d (.xd [(("value" : Str), v)])) e (exo e C (some d))) ⟨h', g, dr, tk', os⟩ :=
      Inv.laidN (t' := tk') J kk ge hen (exo_ok hoe)
    refine ⟨.ref e, _, J2, rfl, q1 _ _ (fun b o q => ?_) ⟨e, d, rfl, upd_same, ?_⟩⟩
    · rw [upd_ne (ne_of_none q he1), upd_ne (ne_of_none q hd1)]
      exact q
    · rw [upd_ne M.dne]
      exact upd_same
end
end K00
set_option Elab.async false
set_option linter.all false
set_option maxRecDepth 100000
set_option maxHeartbeats 4000000
/-! K00C: an error that is raised, caught, and kept under another name. -/
namespace K00
open PySem PySem.Spec L2
section
variable {X : Cx} {C fI : Addr}
/-- C(e), to be raised: its own dict d, new, holds the value -/
def tMkErr (C : Addr) (ta : TA) : L2.St → Hp → XK → Prop := fun σ H Q => ta σ H fun vs H1 => ∃ v, vs = [v] ∧ ∀ d, H1 d = none → Q (.ref C) (some d) (upd H1 d (.xd [(("value" : Str), v)]))
theorem pmk_err {x : Str} {e : Expr} {ta : TA} {p pos : Pos} {k : Nat} (T : ErrT X.K C fI) (T0 : InitT X.K fI) (gC : X.mg x = some (.ref C)) (hr : Room k X.A) (ha : PA X [e] ta) (hg : Gl X x := by rfl)
    (hdb : (x == ("__debug__" : Str)) = false := by decide)
    (hs : starEach (e :: []) X.env = (false, eval e X.env) :: starEach [] X.env := by rfl) (hpl : (backTo pos (starEach [] X.env)).any (·.1) = false := by rfl) :
    PMk X (.Call (.Name x p) [e] [] pos) (tMkErr C ta) := by
  intro pins s σ H Q I h
  refine wpAny_Call_Name_kw (ld_glob I hg gC ?_ hdb)
  refine PySem.W.callWith_K (h₀ := X.base) I.ok.mod.kin T.kC (thn (ha.run pos pins s σ H _ I h) fun us s1 hh => ?_) hs hpl
  obtain ⟨vs, H1, I1, r1, v, ev, q1⟩ := hh
  subst ev
  refine ⟨I1.kIn, ?_⟩
  cases r1 with
  | cons rv rn =>
    rename_i v' us'
    cases rn
    show wpAny _ _ (call (.ref C) [v']) _ _ _
    have hlim := I1.nolimit
    obtain ⟨hp, g, dr, tk, os⟩ := s1
    refine wpAny_call (err_made T T0 I1.kIn hlim (by have := hr.dp; omega) fun h' tk' e d M => ?_)
    show MkP X pins σ Q (.ref e) ⟨h', g, dr, tk', os⟩
    obtain ⟨t0, hoe⟩ := M.obj
    have hns := M.ns
    obtain ⟨G', g1, g2⟩ := restrict h' fun b => decide (b ≠ e)
    have gk : ∀ b, b ≠ e → G'.get? b = h'.get? b := fun b hb => g1 b (decide_eq_true hb)
    have ge : G'.get? e = none := g2 e (by simp)
    have old : ∀ b o, hp.get? b = some o → G'.get? b = some o := fun b o q => (gk b (Nat.ne_of_lt (Nat.lt_of_lt_of_le (Heap.lt_size q) M.new))).trans (M.keep b o q)
    have ob : ObjOk X.prog X.w (upd H1 d (.xd [(("value" : Str), v)])) G' d (.xd [(("value" : Str), v)]) :=
      ⟨_, hns.at (fun o q => (gk d M.dne).trans q), fun f => relO_val rv f⟩
    have J : Inv X pins σ (upd H1 d (.xd [(("value" : Str), v)])) ⟨G', g, dr, tk', os⟩ := I1.laid (t' := tk') old M.dbig ob
    refine ⟨e, _, _, ⟨G', g, dr, tk', os⟩, _, .ref C, some d, rfl, J, fun b o q => ?_, ge, hoe, ⟨rfl, rfl⟩, rfl, rfl, ?_, rfl, I1.bare, raises_own T.exC T.tyC, q1 d (I1.hok.fresh M.dbig)⟩
    · by_cases hb : b = e
      · have q' : G'.get? b = some o := q
        rw [hb, ge] at q'; cases q'
      · exact (gk b hb).symm.trans q
    · rw [upd_ne (Ne.symm M.dne)]
      exact I1.hok.fresh M.new
end
/-- at a: an exception of this class with this dict, whatever happened to it in the air -/
def erk (a : Addr) (cls : Value) (d : Option Addr) : HO := .ext fun h => ∃ (oe : Obj) (vs : Array Value), h.get? a = some oe ∧ Zc cls d oe ∧ oe.data = .fields vs
theorem erk_ok {P : Program} {w : World} {H : Hp} {h : Heap} {a : Addr} {cls : Value} {d : Option Addr} {oe : Obj} {vs : Array Value} (e : h.get? a = some oe) (z : Zc cls d oe) (f : oe.data = .fields vs) : ObjOk P w H h a (erk a cls d) :=
  ⟨⟨oe, vs, e, z, f⟩, ⟨oe, e⟩, fun _ _ ⟨o, v, q, r⟩ k => ⟨o, v, k o q, r⟩⟩
theorem erk_at {P : Program} {w : World} {H : Hp} {h : Heap} {a : Addr} {cls : Value} {d : Option Addr} (hok : HOk P w H h) (e : H a = some (erk a cls d)) : ∃ (oe : Obj) (vs : Array Value), h.get? a = some oe ∧ Zc cls d oe ∧ oe.data = .fields vs := by
  have x : ObjOk P w H h a (.ext fun h => ∃ (oe : Obj) (vs : Array Value), h.get? a = some oe ∧ Zc cls d oe ∧ oe.data = .fields vs) := hok a _ e
  exact x.1
section
variable {X : Cx} {pins : List (Addr × Obj)} {σ : L2.St} {H : Hp} {s : Shared}
/-- an object that came since the entry, and was not tracked, is tracked from here on -/
theorem track {a : Addr} {o : HO} (I : L2.Inv X pins σ H s) (hn : H a = none) (h0 : X.s_0.heap.get? a = none) (hL : a ≠ X.env.locals) (hC : ∀ y c, X.env.cells.lookup y = some c → c ≠ a)
    (hp : ∀ p ∈ X.pn ++ pins, p.1 ≠ a) (new : ObjOk X.prog X.w (upd H a o) s.heap a o) : L2.Inv X pins σ (upd H a o) s := by
  have other : ∀ {b : Addr} {u : HO}, H b = some u → b ≠ a := fun e => ne_of_none e hn
  have old : ∀ {b : Addr} {u : Obj}, X.s_0.heap.get? b = some u → b ≠ a := fun e z => by rw [z, h0] at e; cases e
  exact {
    ok := I.ok, os := I.os, bare := I.bare, loc := I.loc, cell := I.cell, len := I.len
    base := { keep := I.base.keep, slot := I.base.slot, there := I.base.there
              free := fun b u e n x => (upd_ne (old e)).trans (I.base.free b u e n x)
              tups := fun b xs e => (upd_ne (other (I.base.tups b xs e))).trans (I.base.tups b xs e)
              frzs := fun b u v e => (upd_ne (other (I.base.frzs b u v e))).trans (I.base.frzs b u v e)
              tbls := fun b ps e => by
                obtain ⟨m, q⟩ := I.base.tbls b ps e
                exact ⟨m, (upd_ne (other q)).trans q⟩ }
    free := (upd_ne (Ne.symm hL)).trans I.free
    freeC := fun y c e => (upd_ne (hC y c e)).trans (I.freeC y c e)
    pin := fun p q => by
      obtain ⟨e1, e2, e3⟩ := I.pin p q
      exact ⟨e1, (upd_ne (hp p q)).trans e2, e3⟩
    hok := fun b u e => by
      by_cases hb : b = a
      · subst hb
        rw [upd_same] at e
        cases e
        exact new
      · rw [upd_ne hb] at e
        exact (I.hok b u e).stay (fun _ _ _ z => z) (fun _ z => (upd_ne (other z)).trans z) (fun _ _ z => (upd_ne (other z)).trans z) }
theorem into_suite (a : Addr) (I : L2.Inv X pins σ H s) : L2.Inv (X.suite a (X.pn ++ pins)) [] σ H s :=
  { ok := I.ok.suite a _, os := I.os, bare := I.bare, base := I.base, loc := I.loc, cell := I.cell, free := I.free, freeC := I.freeC, pin := fun p q => I.pin p (by simpa using q), hok := I.hok, len := I.len }
theorem out_of_suite {a : Addr} (ok : X.Ok) (I : L2.Inv (X.suite a (X.pn ++ pins)) [] σ H s) : L2.Inv X pins σ H s :=
  { ok := ok, os := I.os, bare := I.bare, base := I.base, loc := I.loc, cell := I.cell, free := I.free, freeC := I.freeC, pin := fun p q => I.pin p (by simpa using q), hok := I.hok, len := I.len }
/-- the wish of such a clause: the error is tracked at a, its name in slot i while the suite runs -/
def wKept (K : PySem.W.Frag) (c : Value) (i : Nat) (ts : TS) (D : Ends) : WX := fun cls d σ H =>
  PySem.W.exmOne K cls c = some true ∧ ∀ a, H a = none →
    ts { nx := fun σ' H' => D.nx (σ'.set i none) H', rt := D.rt, bk := fun σ' H' => D.bk (σ'.set i none) H', ct := fun σ' H' => D.ct (σ'.set i none) H' } (σ.set i (some (.ref a))) (upd H a (erk a cls d))
end
section
variable {X : Cx} {x n : Str} {c : Value} {i : Nat} {body suite : List Stmt} {b₀ : Stmt} {np pos pos' : Pos} {tb : WX → TS} {ts : TS}
theorem ps_try_keep (hs : X.stack = X.env :: X.outer) (hf : X.env.frame = some X.env.locals) (hex : X.ex = []) (hN : X.N.Nodup) (hi : X.N[i]? = some n) (hln : X.env.kindOf n = some .local) (hc : Names X x c)
    (hb : ∀ (W : WX) (pn : List (Addr × Obj)) (xe : Value → Shared → Prop), Takes (X.tr pn xe) W → PassesOwn (model X.prog X.w) X.A X.env xe → PSs (X.tr pn xe) body (tb W))
    (hsu : ∀ (a : Addr) (pn : List (Addr × Obj)), PSs (X.suite a pn) (b₀ :: suite) ts) :
    PS X (.Try body [.ExceptHandler (some (.Name x np)) (some n) (b₀ :: suite) pos'] [] [] pos) (fun D σ H => tb (wKept X.K c i ts D) D σ H) := by
  constructor
  intro pins s σ H D I reads
  have ok := I.ok
  have frames : X.A.frames = some (X.env :: X.outer) := ok.frames.trans (congrArg some hs)
  refine wpAny_Try_except (wpAny_mono ((hb (wKept X.K c i ts D) (X.pn ++ pins) _ ?caught PassesOwn.looking).run [] s σ H D (I.toTry _) reads) ?through fun _ _ z => z)
  case through =>
    intro f s1 done
    match f, done with
    | .next, ⟨σ1, H1, J, q⟩ => exact wpAny_execs_nil ⟨σ1, H1, J.ofTry ok, q⟩
    | .brk, ⟨σ1, H1, J, q⟩ => exact ⟨σ1, H1, J.ofTry ok, q⟩
    | .cont, ⟨σ1, H1, J, q⟩ => exact ⟨σ1, H1, J.ofTry ok, q⟩
    | .ret u, ⟨v, σ1, H1, J, r, q⟩ => exact ⟨v, σ1, H1, J.ofTry ok, r, q⟩
  case caught =>
    rintro u s1 ⟨a, B, sI, pins', σ1, H1, cls, d, rfl, Jt, nb, up, sky, na, os, bare, hmatch, hsuite⟩
    have J : L2.Inv X pins σ1 H1 sI := Jt.ofTry ok
    have sky' : Sky B (X.env :: X.outer) a (Zc cls d) X.env.locals s1.heap := hs ▸ sky
    show wpAny (model X.prog X.w) X.A (noteFrame (.ref a) X.env) _ _ _
    refine Sky.land Zc.steady frames hf sky' ?_
    intro h3 fl3 up3
    have J3 := J.landed (s' := { s1 with heap := h3 }) nb fl3.1 (up.trans up3) os bare
    obtain ⟨oe3, vs3, he3, hz3, hd3⟩ := fl3.there
    have notFrame : a ∉ frs (X.env :: X.outer) := fun hm => by
      obtain ⟨_, o', e', noFields⟩ := fl3.2.2.1.mem hm
      rw [he3] at e'
      cases e'
      exact noFields _ hd3
    have notLocals : a ≠ X.env.locals := fun z => notFrame (List.mem_filterMap.mpr ⟨X.env, List.mem_cons_self, hf.trans (congrArg some z.symm)⟩)
    have newB : B.get? a = none := fl3.2.1
    have newI : ∀ o, sI.heap.get? a ≠ some o := fun o e => by
      have z := nb a o e (by rw [hs]; exact notFrame)
      rw [newB] at z
      cases z
    refine wpAny_handleBy_cons (codeAny_handlers_test ?_) (by intro q; cases q)
    have typed : PySem.W.Looks (model X.prog X.w) h3 (typeOf (.ref a)) cls := fun A Q E s k q => wpAny_typeOf_ref (k _ _ he3) (by rw [hz3.1]; exact q)
    have matches_ := PySem.W.exm_one (M := model X.prog X.w) J3.kIn typed hmatch
    have named : ∀ {Q : Value → Shared → Prop} {E : Value → Shared → Prop}, Q c { s1 with heap := h3 } →
        wpAny (model X.prog X.w) (X.A.mark (some (.ref a))) (eval (.Name x np) X.env) Q E { s1 with heap := h3 } := by
      intro Q E q
      obtain ⟨g, dbg, m | ⟨m, bv, nn⟩⟩ := hc
      · exact ld_glob (X := X.suite a (X.pn ++ pins)) (into_suite a J3) g m q dbg
      · exact ld_blt (X := X.suite a (X.pn ++ pins)) (into_suite a J3) g m bv q nn dbg
    refine named (matches_.here (codeAny_handlers_suite_as (HandSPX.lands_againZ fl3 ?_)))
    intro h4 fl4 up4
    have J4 := J.landed (s' := { s1 with heap := h4 }) nb fl4.1 ((up.trans up3).trans up4) os bare
    obtain ⟨oe4, vs4, he4, hz4, hd4⟩ := fl4.there
    have T4 : L2.Inv X pins σ1 (upd H1 a (erk a cls d)) { s1 with heap := h4 } := by
      refine track J4 na ?_ notLocals (fun y cc e z => ?_) (fun p q z => ?_) (erk_ok he4 hz4 hd4)
      · cases e : X.s_0.heap.get? a with
        | none => rfl
        | some o =>
          obtain ⟨o', e'⟩ := J.base.there a o e (by rw [hex]; exact fun z => nomatch z)
          exact absurd e' (newI o')
      · obtain ⟨v, o, e1, _⟩ := J.cell y cc e
        rw [z] at e1
        exact newI o e1
      · have e1 := (J.pin p q).1
        rw [z] at e1
        exact newI _ e1
    refine store_ok (X := X.suite a (X.pn ++ pins)) (v := .ref a) (into_suite a T4) hN hi (.inl hln) rfl ?_ (.inr hln)
    intro s5 S5
    refine wpAny_mono ((hsu a (X.pn ++ pins)).run [] s5 _ _ _ S5 (hsuite a na)) ?_ fun _ _ z => z.elim
    intro f s6 done
    have leave : ∀ {σ6 : L2.St} {H6 : Hp} {Q : Shared → Prop}, L2.Inv (X.suite a (X.pn ++ pins)) [] σ6 H6 s6 → (∀ s7, L2.Inv X pins (σ6.set i none) H6 s7 → Q s7) →
        wpAny (model X.prog X.w) X.A (do bindName X.env n .none; unbindBehindTheSuite X.env n pos') (fun _ s7 => Q s7) X.xe s6 := fun S6 q => gone_ok (out_of_suite ok S6) hN hi hln q
    match f, done with
    | .next, ⟨_, _, S6, q⟩ => exact leave S6 fun s7 J7 => ⟨_, _, J7, q⟩
    | .brk, ⟨_, _, S6, q⟩ => exact leave S6 fun s7 J7 => ⟨_, _, J7, q⟩
    | .cont, ⟨_, _, S6, q⟩ => exact leave S6 fun s7 J7 => ⟨_, _, J7, q⟩
    | .ret u, ⟨v, _, _, S6, r, q⟩ => exact leave S6 fun s7 J7 => ⟨v, _, _, J7, r, q⟩
end
end K00
set_option Elab.async false
set_option linter.all false
set_option maxRecDepth 100000
set_option maxHeartbeats 4000000
namespace K00
open PySem PySem.Spec L2
def kD : Key → PyData
  | .inl i => .int i
  | .inr y => .str y
/-- the dict {None: 1} at a -/
def ndO (P : Program) (w : World) (a : Addr) : HO := .ext fun h => (a == sysModules) = false ∧ ∃ t, h.DictOf (noneKind P w) a [((none : Option Key), Value.int 1 t)]
theorem ndO_ok {P : Program} {w : World} {H : Hp} {h : Heap} {a : Addr} {t : Tok} (hs : (a == sysModules) = false) (d : h.DictOf (noneKind P w) a [((none : Option Key), Value.int 1 t)]) : ObjOk P w H h a (ndO P w a) := by
  refine ⟨⟨hs, t, d⟩, ?_, ?_⟩
  · obtain ⟨o, _, _, e, _⟩ := d
    exact ⟨o, e⟩
  · rintro h1 h2 ⟨z, t', o, es, ep, e, r⟩ k
    exact ⟨z, t', o, es, ep, k o e, r⟩
theorem ndO_at {P : Program} {w : World} {H : Hp} {h : Heap} {a : Addr} (hok : HOk P w H h) (e : H a = some (ndO P w a)) : (a == sysModules) = false ∧ ∃ t, h.DictOf (noneKind P w) a [((none : Option Key), Value.int 1 t)] := by
  have x : ObjOk P w H h a (.ext fun h => (a == sysModules) = false ∧ ∃ t, h.DictOf (noneKind P w) a [((none : Option Key), Value.int 1 t)]) := hok a _ e
  exact x.1
section
variable (P : Program) (w : World)
mutual
inductive Dat (H : Hp) : V → PyData → List Addr → Prop
  | non : Dat H .non .none []
  | bl (b : Bool) : Dat H (.bl b) (.bool b) []
  | int (i : Int) : Dat H (.int i) (.int i) []
  | str (x : Str) : Dat H (.str x) (.str x) []
  | lst {a : Addr} {xs : List V} {ds : List PyData} {as : List Addr} (h : H a = some (.lst xs)) (r : DatL H xs ds as) : Dat H (.ref a) (.list ds) (a :: as)
  | tup {a : Addr} {xs : List V} {ds : List PyData} {as : List Addr} (h : H a = some (.tup xs)) (r : DatL H xs ds as) : Dat H (.ref a) (.tuple ds) as
  | dic {a : Addr} {kvs : List (Key × V)} {es : List (PyData × PyData)} {as : List Addr} (h : H a = some (.dK kvs)) (r : DatK H kvs es as) : Dat H (.ref a) (.dict es) (a :: as)
  | nd {a : Addr} (h : H a = some (ndO P w a)) : Dat H (.ref a) (.dict [(.none, .int 1)]) [a]
inductive DatL (H : Hp) : List V → List PyData → List Addr → Prop
  | nil : DatL H [] [] []
  | cons {x : V} {xs : List V} {d : PyData} {ds : List PyData} {as bs : List Addr} (h : Dat H x d as) (r : DatL H xs ds bs) : DatL H (x :: xs) (d :: ds) (as ++ bs)
inductive DatK (H : Hp) : List (Key × V) → List (PyData × PyData) → List Addr → Prop
  | nil : DatK H [] [] []
  | cons {k : Key} {x : V} {kvs : List (Key × V)} {d : PyData} {es : List (PyData × PyData)} {as bs : List Addr} (h : Dat H x d as) (r : DatK H kvs es bs) : DatK H ((k, x) :: kvs) ((kD k, d) :: es) (as ++ bs)
end
end
section
variable {P : Program} {w : World}
mutual
theorem Dat.same {H H' : Hp} (k : ∀ b o, H b = some o → (∀ ps, o ≠ .tbl ps) → H' b = some o) : ∀ {x : V} {d : PyData} {as : List Addr}, Dat P w H x d as → Dat P w H' x d as
  | _, _, _, .non => .non
  | _, _, _, .bl b => .bl b
  | _, _, _, .int i => .int i
  | _, _, _, .str y => .str y
  | _, _, _, .lst h q => .lst (k _ _ h (fun _ z => nomatch z)) (DatL.same k q)
  | _, _, _, .tup h q => .tup (k _ _ h (fun _ z => nomatch z)) (DatL.same k q)
  | _, _, _, .dic h q => .dic (k _ _ h (fun _ z => nomatch z)) (DatK.same k q)
  | _, _, _, .nd h => .nd (k _ _ h (fun _ z => nomatch z))
theorem DatL.same {H H' : Hp} (k : ∀ b o, H b = some o → (∀ ps, o ≠ .tbl ps) → H' b = some o) : ∀ {xs : List V} {ds : List PyData} {as : List Addr}, DatL P w H xs ds as → DatL P w H' xs ds as
  | _, _, _, .nil => .nil
  | _, _, _, .cons h q => .cons (Dat.same k h) (DatL.same k q)
theorem DatK.same {H H' : Hp} (k : ∀ b o, H b = some o → (∀ ps, o ≠ .tbl ps) → H' b = some o) : ∀ {xs : List (Key × V)} {ds : List (PyData × PyData)} {as : List Addr}, DatK P w H xs ds as → DatK P w H' xs ds as
  | _, _, _, .nil => .nil
  | _, _, _, .cons h q => .cons (Dat.same k h) (DatK.same k q)
end
mutual
theorem Dat.ch {p : Addr} {H H' : Hp} (k : ∀ b o, b ≠ p → H b = some o → H' b = some o) (nt : ∀ xs, H p ≠ some (.tup xs)) : ∀ {x : V} {d : PyData} {as : List Addr}, Dat P w H x d as → p ∉ as → Dat P w H' x d as
  | _, _, _, .non, _ => .non
  | _, _, _, .bl b, _ => .bl b
  | _, _, _, .int i, _ => .int i
  | _, _, _, .str y, _ => .str y
  | _, _, _, .lst h q, n => .lst (k _ _ (fun e => n (e ▸ List.mem_cons_self)) h) (DatL.ch k nt q fun hm => n (List.mem_cons_of_mem _ hm))
  | _, _, _, .tup (a := a) h q, n => .tup (k _ _ (fun e => nt _ (e ▸ h)) h) (DatL.ch k nt q n)
  | _, _, _, .dic h q, n => .dic (k _ _ (fun e => n (e ▸ List.mem_cons_self)) h) (DatK.ch k nt q fun hm => n (List.mem_cons_of_mem _ hm))
  | _, _, _, .nd h, n => .nd (k _ _ (fun e => n (e ▸ List.mem_cons_self)) h)
theorem DatL.ch {p : Addr} {H H' : Hp} (k : ∀ b o, b ≠ p → H b = some o → H' b = some o) (nt : ∀ xs, H p ≠ some (.tup xs)) : ∀ {xs : List V} {ds : List PyData} {as : List Addr}, DatL P w H xs ds as → p ∉ as → DatL P w H' xs ds as
  | _, _, _, .nil, _ => .nil
  | _, _, _, .cons h q, n => .cons (Dat.ch k nt h fun hm => n (List.mem_append_left _ hm)) (DatL.ch k nt q fun hm => n (List.mem_append_right _ hm))
theorem DatK.ch {p : Addr} {H H' : Hp} (k : ∀ b o, b ≠ p → H b = some o → H' b = some o) (nt : ∀ xs, H p ≠ some (.tup xs)) : ∀ {xs : List (Key × V)} {ds : List (PyData × PyData)} {as : List Addr}, DatK P w H xs ds as → p ∉ as → DatK P w H' xs ds as
  | _, _, _, .nil, _ => .nil
  | _, _, _, .cons h q, n => .cons (Dat.ch k nt h fun hm => n (List.mem_append_left _ hm)) (DatK.ch k nt q fun hm => n (List.mem_append_right _ hm))
end
mutual
theorem Dat.old {H : Hp} : ∀ {x : V} {d : PyData} {as : List Addr} {b : Addr}, Dat P w H x d as → b ∈ as → ∃ D cs, Dat P w H (.ref b) D cs ∧ sizeOf D ≤ sizeOf d
  | _, _, _, _, .non, h => nomatch h
  | _, _, _, _, .bl _, h => nomatch h
  | _, _, _, _, .int _, h => nomatch h
  | _, _, _, _, .str _, h => nomatch h
  | _, _, _, _, .lst h q, hm => by
    rcases List.mem_cons.mp hm with e | hm
    · subst e
      exact ⟨_, _, .lst h q, Nat.le_refl _⟩
    · obtain ⟨D, cs, h1, h2⟩ := DatL.old q hm
      exact ⟨D, cs, h1, by simp only [PyData.list.sizeOf_spec]; omega⟩
  | _, _, _, _, .tup h q, hm => by
    obtain ⟨D, cs, h1, h2⟩ := DatL.old q hm
    exact ⟨D, cs, h1, by simp only [PyData.tuple.sizeOf_spec]; omega⟩
  | _, _, _, _, .dic h q, hm => by
    rcases List.mem_cons.mp hm with e | hm
    · subst e
      exact ⟨_, _, .dic h q, Nat.le_refl _⟩
    · obtain ⟨D, cs, h1, h2⟩ := DatK.old q hm
      exact ⟨D, cs, h1, by simp only [PyData.dict.sizeOf_spec]; omega⟩
  | _, _, _, b, .nd (a := a) h, hm => by
    have e : b = a := by simpa using hm
    subst e
    exact ⟨_, _, .nd h, Nat.le_refl _⟩
theorem DatL.old {H : Hp} : ∀ {xs : List V} {ds : List PyData} {as : List Addr} {b : Addr}, DatL P w H xs ds as → b ∈ as → ∃ D cs, Dat P w H (.ref b) D cs ∧ sizeOf D ≤ sizeOf ds
  | _, _, _, _, .nil, h => nomatch h
  | _, _, _, _, .cons h q, hm => by
    rcases List.mem_append.mp hm with hm | hm
    · obtain ⟨D, cs, h1, h2⟩ := Dat.old h hm
      exact ⟨D, cs, h1, by simp only [List.cons.sizeOf_spec]; omega⟩
    · obtain ⟨D, cs, h1, h2⟩ := DatL.old q hm
      exact ⟨D, cs, h1, by simp only [List.cons.sizeOf_spec]; omega⟩
theorem DatK.old {H : Hp} : ∀ {xs : List (Key × V)} {ds : List (PyData × PyData)} {as : List Addr} {b : Addr}, DatK P w H xs ds as → b ∈ as → ∃ D cs, Dat P w H (.ref b) D cs ∧ sizeOf D ≤ sizeOf ds
  | _, _, _, _, .nil, h => nomatch h
  | _, _, _, _, .cons h q, hm => by
    rcases List.mem_append.mp hm with hm | hm
    · obtain ⟨D, cs, h1, h2⟩ := Dat.old h hm
      exact ⟨D, cs, h1, by simp only [List.cons.sizeOf_spec, Prod.mk.sizeOf_spec]; omega⟩
    · obtain ⟨D, cs, h1, h2⟩ := DatK.old q hm
      exact ⟨D, cs, h1, by simp only [List.cons.sizeOf_spec]; omega⟩
end
theorem nd_ne {a : Addr} {kvs : List (Key × V)} : HO.dK kvs ≠ ndO P w a := fun z => by
  have z' : HO.dK kvs = HO.ext _ := z
  cases z'
mutual
theorem Dat.one {H : Hp} : ∀ {x : V} {d e : PyData} {as bs : List Addr}, Dat P w H x d as → Dat P w H x e bs → d = e
  | _, _, _, _, _, .non, h => by cases h; rfl
  | _, _, _, _, _, .bl b, h => by cases h; rfl
  | _, _, _, _, _, .int i, h => by cases h; rfl
  | _, _, _, _, _, .str y, h => by cases h; rfl
  | _, _, _, _, _, .lst h q, h' => by
    cases h' with
    | lst h2 q2 =>
      rw [h] at h2
      cases h2
      rw [DatL.one q q2]
    | tup h2 q2 => rw [h] at h2; cases h2
    | dic h2 q2 => rw [h] at h2; cases h2
    | nd h2 => rw [h] at h2; exact nomatch (Option.some.inj h2 : HO.lst _ = HO.ext _)
  | _, _, _, _, _, .tup h q, h' => by
    cases h' with
    | lst h2 q2 => rw [h] at h2; cases h2
    | tup h2 q2 =>
      rw [h] at h2
      cases h2
      rw [DatL.one q q2]
    | dic h2 q2 => rw [h] at h2; cases h2
    | nd h2 => rw [h] at h2; exact nomatch (Option.some.inj h2 : HO.tup _ = HO.ext _)
  | _, _, _, _, _, .dic h q, h' => by
    cases h' with
    | lst h2 q2 => rw [h] at h2; cases h2
    | tup h2 q2 => rw [h] at h2; cases h2
    | dic h2 q2 =>
      rw [h] at h2
      cases h2
      rw [DatK.one q q2]
    | nd h2 => rw [h] at h2; exact absurd (Option.some.inj h2) nd_ne
  | _, _, _, _, _, .nd h, h' => by
    cases h' with
    | lst h2 q2 => rw [h] at h2; exact nomatch (Option.some.inj h2 : HO.ext _ = HO.lst _)
    | tup h2 q2 => rw [h] at h2; exact nomatch (Option.some.inj h2 : HO.ext _ = HO.tup _)
    | dic h2 q2 => rw [h] at h2; exact absurd (Option.some.inj h2).symm nd_ne
    | nd h2 => rfl
theorem DatL.one {H : Hp} : ∀ {xs : List V} {ds es : List PyData} {as bs : List Addr}, DatL P w H xs ds as → DatL P w H xs es bs → ds = es
  | _, _, _, _, _, .nil, h => by cases h; rfl
  | _, _, _, _, _, .cons h q, h' => by
    cases h' with
    | cons h2 q2 => rw [Dat.one h h2, DatL.one q q2]
theorem DatK.one {H : Hp} : ∀ {xs : List (Key × V)} {ds es : List (PyData × PyData)} {as bs : List Addr}, DatK P w H xs ds as → DatK P w H xs es bs → ds = es
  | _, _, _, _, _, .nil, h => by cases h; rfl
  | _, _, _, _, _, .cons h q, h' => by
    cases h' with
    | cons h2 q2 => rw [Dat.one h h2, DatK.one q q2]
end
/-- no dict stands within its own values -/
theorem Dat.apart {H : Hp} {a : Addr} {kvs : List (Key × V)} {es : List (PyData × PyData)} {as : List Addr} (h : H a = some (.dK kvs)) (q : DatK P w H kvs es as) : a ∉ as := fun hm => by
  obtain ⟨D, cs, h1, h2⟩ := DatK.old q hm
  have e := Dat.one h1 (.dic h q)
  rw [e] at h2
  simp only [PyData.dict.sizeOf_spec] at h2
  omega
end
end K00
set_option Elab.async false
set_option linter.all false
set_option maxRecDepth 100000
set_option maxHeartbeats 4000000
namespace K00
open PySem PySem.Spec L2
/-- at 1 stands a dict of the module's start -/
def Sys (K : PySem.W.Frag) : Prop := ∃ o, K.lookup sysModules = some o ∧ o.cls = .type "dict"
theorem nk_none' {v : Value} (h : nkIs none v = true) : v = .none := nk_none h
section
variable {X : Cx} {pins : List (Addr × Obj)} {σ : L2.St} {H : Hp} {s : Shared}
mutual
theorem Dat.reads (I : L2.Inv X pins σ H s) (S : Sys X.K) : ∀ {x : V} {d : PyData} {as : List Addr} {u : Value}, Dat X.prog X.w H x d as → RelV x u → Reads s.heap u d as ∧ sysModules ∉ as
  | _, _, _, u, .non, r => by cases (show u = Value.none from r); exact ⟨.none, by simp⟩
  | _, _, _, u, .bl b, r => by cases (show u = Value.bool b from r); exact ⟨.bool b, by simp⟩
  | _, _, _, u, .int i, r => by obtain ⟨t, e⟩ := (show ∃ t, u = Value.int i t from r); cases e; exact ⟨.int i t, by simp⟩
  | _, _, _, u, .str y, r => by obtain ⟨t, e⟩ := (show ∃ t, u = Value.str y t from r); cases e; exact ⟨.str y t, by simp⟩
  | _, _, _, u, .lst (a := a) (xs := xs) h q, r => by
    cases (show u = Value.ref a from r)
    obtain ⟨_, its, n, rv, e⟩ := (show ObjOk X.prog X.w H s.heap a (.lst xs) from I.hok a _ h)
    obtain ⟨z, ns⟩ := DatL.reads I S q rv
    refine ⟨.list e rfl rfl (by simpa using z), fun hm => ?_⟩
    rcases List.mem_cons.mp hm with hm | hm
    · obtain ⟨o, ho, hc⟩ := S
      have e2 := I.kIn _ _ ho
      rw [hm, e] at e2
      rw [← Option.some.inj e2] at hc
      exact absurd hc (by intro z; injection z with z; exact absurd z (by decide))
    · exact ns hm
  | _, _, _, u, .tup (a := a) (xs := xs) h q, r => by
    cases (show u = Value.ref a from r)
    obtain ⟨_, its, rv, o, h1, h2, n, h3⟩ := (show ObjOk X.prog X.w H s.heap a (.tup xs) from I.hok a _ h)
    obtain ⟨z, ns⟩ := DatL.reads I S q rv
    exact ⟨.tuple h1 h2 h3 (by simpa using z), ns⟩
  | _, _, _, u, .dic (a := a) (kvs := kvs) h q, r => by
    cases (show u = Value.ref a from r)
    obtain ⟨_, hs, vs, kv, o, es, ep, h1, h2, h3, _, h5, _⟩ := (show ObjOk X.prog X.w H s.heap a (.dK kvs) from I.hok a _ h)
    obtain ⟨z1, z2, ns⟩ := DatK.reads I S q kv h5
    refine ⟨.dict (as := []) h1 h2.1 h3 z1 z2, fun hm => ?_⟩
    rcases List.mem_cons.mp hm with hm | hm
    · exact absurd hm.symm (beq_eq_false_iff_ne.mp hs)
    · exact ns hm
  | _, _, _, u, .nd (a := a) h, r => by
    cases (show u = Value.ref a from r)
    obtain ⟨hs, t, o, es, ep, h1, h2, h3, _, h5, _⟩ := ndO_at I.hok h
    obtain ⟨esl⟩ := es
    cases h5 with
    | @cons en kv' es' kvs' p1 p2 p3 =>
      cases p3
      have e1 : en.key = .none := nk_none' p1
      have e2 : en.val = Value.int 1 t := p2
      refine ⟨.dict (as := []) (bs := []) h1 h2.1 h3 ?_ ?_, fun hm => ?_⟩
      · show ReadsAll s.heap [en.key] [PyData.none] ([] ++ [])
        rw [e1]
        exact .cons .none .nil
      · show ReadsAll s.heap [en.val] [PyData.int 1] ([] ++ [])
        rw [e2]
        exact .cons (.int 1 t) .nil
      · have e : sysModules = a := by simpa using hm
        exact absurd e.symm (beq_eq_false_iff_ne.mp hs)
theorem DatL.reads (I : L2.Inv X pins σ H s) (S : Sys X.K) : ∀ {xs : List V} {ds : List PyData} {as : List Addr} {us : List Value}, DatL X.prog X.w H xs ds as → Vals xs us → ReadsAll s.heap us ds as ∧ sysModules ∉ as
  | _, _, _, _, .nil, r => by cases r; exact ⟨.nil, by simp⟩
  | _, _, _, _, .cons h q, r => by
    cases r with
    | cons r1 r2 =>
      obtain ⟨z1, n1⟩ := Dat.reads I S h r1
      obtain ⟨z2, n2⟩ := DatL.reads I S q r2
      exact ⟨.cons z1 z2, fun hm => by
        rcases List.mem_append.mp hm with hm | hm
        · exact n1 hm
        · exact n2 hm⟩
theorem DatK.reads (I : L2.Inv X pins σ H s) (S : Sys X.K) : ∀ {kvs : List (Key × V)} {ds : List (PyData × PyData)} {as : List Addr} {vs : List (Key × Value)} {es : List DictEntry}, DatK X.prog X.w H kvs ds as → KV kvs vs → Pairs (mixKind X.prog X.w) es vs →
    ReadsAll s.heap (es.map (·.key)) (ds.map (·.1)) [] ∧ ReadsAll s.heap (es.map (·.val)) (ds.map (·.2)) as ∧ sysModules ∉ as
  | _, _, _, _, _, .nil, r, p => by
    cases r
    cases p
    exact ⟨.nil, .nil, by simp⟩
  | _, _, _, _, _, .cons (k := k) (x := x) h q, r, p => by
    cases r with
    | @cons aa bb l1 l2 c t =>
      obtain ⟨k', u⟩ := bb
      obtain ⟨c1, c2⟩ := c
      have c1' : k = k' := c1
      subst c1'
      cases p with
      | @cons en kv' es' kvs' p1 p2 p3 =>
        obtain ⟨z1, n1⟩ := Dat.reads I S h (show RelV x u from c2)
        obtain ⟨y1, y2, n2⟩ := DatK.reads I S q t p3
        have p1' : keyIs k en.key = true := p1
        have p2' : en.val = u := p2
        refine ⟨?_, ?_, fun hm => ?_⟩
        · rcases keyIs_shape p1' with ⟨i, tt, rfl, ek⟩ | ⟨y, tt, rfl, ek⟩
          · show ReadsAll s.heap (en.key :: es'.map (·.key)) (PyData.int i :: _) ([] ++ [])
            rw [ek]
            exact .cons (.int i tt) y1
          · show ReadsAll s.heap (en.key :: es'.map (·.key)) (PyData.str y :: _) ([] ++ [])
            rw [ek]
            exact .cons (.str y tt) y1
        · show ReadsAll s.heap (en.val :: es'.map (·.val)) (_ :: _) _
          rw [p2']
          exact .cons z1 y2
        · rcases List.mem_append.mp hm with hm | hm
          · exact n1 hm
          · exact n2 hm
end
/-- data that repr shows within small bounds -/
def goodB (d : PyData) : Bool := d.showable && (Nat.ble d.shown.length 1000000 && Nat.ble d.depth 40)
def Data (P : Program) (w : World) (H : Hp) (x : V) (d : PyData) : Prop := ∃ as, Dat P w H x d as
def rRepr (P : Program) (w : World) : List V → Hp → VK → Prop := fun xs H Q => ∃ (x : V) (d : PyData), xs = [x] ∧ Data P w H x d ∧ goodB d = true ∧ Q (.str d.shown) H
theorem big1 {n : Nat} (h : n ≤ 1000000) : n ≤ sizeLine := Nat.le_trans h (by decide)
theorem call_repr (S : Sys X.K) (hg : X.A.guards = some []) (hu : X.A.units + 50 < cLine) : CallR X (.builtin "repr") (rRepr X.prog X.w) := by
  intro pins s σ H xs us Q I r h
  obtain ⟨x, d, rfl, ⟨as, hd⟩, hgd, q⟩ := h
  cases r with
  | cons r1 r2 =>
    cases r2
    obtain ⟨z, ns⟩ := hd.reads I S r1
    obtain ⟨g1, g2⟩ := He.ba hgd
    obtain ⟨g2, g3⟩ := He.ba g2
    have hsz : d.shown.length ≤ sizeLine := big1 (Nat.le_of_ble_eq_true g2)
    have g3' : d.depth ≤ 40 := Nat.le_of_ble_eq_true g3
    cases z with
    | none => exact PySem.P.repr_of_none ⟨.str _, H, I.tok _, ⟨_, by simp only [PyData.shown]; rfl⟩, q⟩
    | bool b => exact PySem.P.repr_of_bool ⟨.str _, H, I.tok _, ⟨_, by simp only [PyData.shown]; rfl⟩, q⟩
    | int i t => exact PySem.P.repr_of_int (by simpa [PyData.showable] using g1) ⟨.str _, H, I.tok _, ⟨_, by simp only [PyData.shown]; rfl⟩, q⟩
    | str y t => exact PySem.P.repr_of_str ⟨.str _, H, I.tok _, ⟨_, by simp only [PyData.shown]; rfl⟩, q⟩ (by simpa only [PyData.shown] using hsz)
    | list h1 h2 h3 h4 => exact repr_of_reads' (.list h1 h2 h3 h4) g1 (fun _ => ns) hg (by omega) (fun _ _ e => e) (fun h' u tk hk => ⟨.str _, H, I.kept (t' := tk) hk, ⟨_, rfl⟩, q⟩) hsz
    | tuple h1 h2 h3 h4 => exact repr_of_reads' (.tuple h1 h2 h3 h4) g1 (fun _ => ns) hg (by omega) (fun _ _ e => e) (fun h' u tk hk => ⟨.str _, H, I.kept (t' := tk) hk, ⟨_, rfl⟩, q⟩) hsz
    | dict h1 h2 h3 h4 h5 => exact repr_of_reads' (.dict h1 h2 h3 h4 h5) g1 (fun _ => ns) hg (by omega) (fun _ _ e => e) (fun h' u tk hk => ⟨.str _, H, I.kept (t' := tk) hk, ⟨_, rfl⟩, q⟩) hsz
/-- the class of data -/
def tyD : PyData → String
  | .none => "NoneType"
  | .bool _ => "bool"
  | .int _ => "int"
  | .str _ => "str"
  | .list _ => "list"
  | .tuple _ => "tuple"
  | .dict _ => "dict"
theorem kit_data (I : L2.Inv X pins σ H s) {x : V} {d : PyData} {as : List Addr} {u : Value} (h : Dat X.prog X.w H x d as) (r : RelV x u) :
    ∃ Q : Heap → Prop, PySem.W.KitX X.K u (.type (tyD d)) Q ∧ Q s.heap ∧ u ≠ .builtin "__main__.__loader__#opaque" := by
  cases h with
  | non => cases (show u = Value.none from r); exact ⟨_, PySem.W.kitx_none, True.intro, fun z => nomatch z⟩
  | bl b => cases (show u = Value.bool b from r); exact ⟨_, PySem.W.kitx_bool, True.intro, fun z => nomatch z⟩
  | int i => obtain ⟨t, e⟩ := (show ∃ t, u = Value.int i t from r); cases e; exact ⟨_, PySem.W.kitx_int, True.intro, fun z => nomatch z⟩
  | str y => obtain ⟨t, e⟩ := (show ∃ t, u = Value.str y t from r); cases e; exact ⟨_, PySem.W.kitx_str, True.intro, fun z => nomatch z⟩
  | @lst a xs ds as h q =>
    cases (show u = Value.ref a from r)
    obtain ⟨_, its, n, rv, e⟩ := (show ObjOk X.prog X.w H s.heap a (.lst xs) from I.hok a _ h)
    exact ⟨_, PySem.W.kitx_list, ⟨_, e, rfl⟩, fun z => nomatch z⟩
  | @tup a xs ds as h q =>
    cases (show u = Value.ref a from r)
    obtain ⟨_, its, rv, o, h1, h2, n, h3⟩ := (show ObjOk X.prog X.w H s.heap a (.tup xs) from I.hok a _ h)
    exact ⟨_, PySem.W.kitx_tuple, ⟨o, h1, h2⟩, fun z => nomatch z⟩
  | @dic a kvs es as h q =>
    cases (show u = Value.ref a from r)
    obtain ⟨_, hs, vs, kv, o, es, ep, h1, h2, _⟩ := (show ObjOk X.prog X.w H s.heap a (.dK kvs) from I.hok a _ h)
    exact ⟨_, PySem.W.kitx_dict, ⟨o, h1, h2.1⟩, fun z => nomatch z⟩
  | @nd a h =>
    cases (show u = Value.ref a from r)
    obtain ⟨hs, t, o, es, ep, h1, h2, _⟩ := ndO_at I.hok h
    exact ⟨_, PySem.W.kitx_dict, ⟨o, h1, h2.1⟩, fun z => nomatch z⟩
/-- isinstance(x, T), x data, T a built-in class -/
def rIsD (P : Program) (w : World) : List V → Hp → VK → Prop := fun xs H Q => ∃ (x : V) (T : String) (d : PyData) (b : Bool), xs = [x, .ty T] ∧ Data P w H x d ∧ kitB (tyD d) T = some b ∧ Q (.bl b) H
theorem call_isD : CallR X (.builtin "isinstance") (rIsD X.prog X.w) := by
  intro pins s σ H xs us Q I r h
  obtain ⟨x, T, d, b, rfl, ⟨as, hd⟩, e, q⟩ := h
  obtain ⟨u1, u2, rfl, r1, r2⟩ := vals2 r
  have e2 : u2 = .type T := r2
  subst e2
  obtain ⟨Q', Z, p, hx⟩ := kit_data I hd r1
  exact PySem.W.kia_one Z I.kIn p (kit_ty e) hx fun tk => ⟨.bl b, H, I.tok tk, rfl, q⟩
end
end K00
set_option Elab.async false
set_option linter.all false
set_option maxRecDepth 100000
set_option maxHeartbeats 4000000
/-! K00F: promises of defs that are called where no repr is under way. -/
namespace K00
open PySem PySem.Spec L2
open PyProof.Rows (envOfC)
/-- as a def's promise, for calls outside of every repr -/
structure FnG (P : Program) (w : World) (K : PySem.W.Frag) (mg : Str → Option Value) (base : Heap) (k : Nat) (f : Addr) (fd : FuncData) (ps : List Str) (sp : Sp) : Prop where
  len : ∀ vs H Q E, sp vs H Q E → vs.length = ps.length
  run : ∀ (A : Around) (outer : List Env) (s : Shared) (H : Hp) (args : Args) (us : List Value) (vs : List V) (Q : VK) (E : XK), A.guards = some [] → Room k A →
    Env0 P w K mg base A outer s H → BindsTo s fd args (ps.zip us) → Vals vs us → sp vs H Q E → codeAny (model P w) A (.call (.ref f) args) (CR CX0 outer P w H s Q E) s
section
variable {P : Program} {w : World} {K : PySem.W.Frag} {mg : Str → Option Value} {base : Heap}
theorem fnG_of {k : Nat} {f : Addr} {x : Str} {st : Stmt} {fd : FuncData} {N ps : List Str} {sp : Sp} (F : FunD K x x (defArgs st) (defBody st) (defScope st) [] [] f fd) (S : FnScope N ps (defScope st))
    (len : ∀ vs H Q E, sp vs H Q E → vs.length = ps.length)
    (body : ∀ (cdv : Value) (A : Around) (outer : List Env) (s : Shared) (H : Hp) (vs : List V) (Q : VK) (E : XK), A.guards = some [] → Room k (A.deeper (envOfC x (defScope st) s.heap.objs.size f cdv)) → sp vs H Q E →
      ∃ t, PSs (cxOf CX0 P w K mg base N x (defScope st) f cdv A outer s H E) (defBody st) t ∧ t { nx := fun _ H' => Q .non H', rt := Q } (start N vs) H) :
    FnG P w K mg base (k + 1) f fd ps sp := by
  refine ⟨len, ?_⟩
  intro A outer s H args us vs Q E hgd hr e0 hb r hsp
  obtain ⟨oc, od, dV, kV, doc, pm, an, cdv, ct, osl, rfl, lk, hcd, _, _⟩ := F.ex
  have stands := fun b o (e : base.get? b = some o) => (e0.bs b o e).1
  have inK : K.In s.heap := e0.mod.kin.keeps stands
  have size_ := len _ _ _ _ hsp
  have params : ∀ y ∈ ps.zip us, (defScope st).names.lookup y.1 = some .local ∨
      ((defScope st).names.lookup y.1 = some .cell ∧ ((cellsFrom (s.heap.objs.size + 1) (defScope st).names []).lookup y.1).isSome = true) := by
    rintro ⟨n, v⟩ hy
    exact (S.par n (List.of_mem_zip hy).1).imp id fun q => ⟨q, PySem.W.cellsFrom_some _ _ _ (Or.inl q)⟩
  refine codeAny_call_function hr.depth (inK _ _ lk) rfl S.co S.gen rfl
    (PySem.W.codeRec_of inK hcd) (hb _ _ _ _ (wpAny_newFunctionEnv_cells S.kind params ?_))
  intro env he s1 x
  subst he
  obtain ⟨t, ht, hq⟩ := body cdv A outer s H vs Q E hgd (hr.deeper _) hsp
  have I := inv_start (CX := CX0) (E := E) (qual := _) S hr.hd e0 size_ r x
  refine ⟨(e0.mod.nolimit.keeps stands).keeps x.toInCall.keep, codeAny_func (wpAny_mono (ht.run [] s1 _ H _ I hq) ?_ fun _ _ z => z)⟩
  intro fl s' hs
  match fl, hs with
  | .ret u, ⟨v, σ', H', J, rv, q⟩ => exact ⟨v, H', J.os, J.bare, J.base, J.hok, rv, q⟩
  | .next, ⟨σ', H', J, q⟩ => exact ⟨V.non, H', J.os, J.bare, J.base, J.hok, rfl, q⟩
  | .brk, ⟨_, _, _, q⟩ => exact q.elim
  | .cont, ⟨_, _, _, q⟩ => exact q.elim
end
section
variable {X : Cx}
theorem pe_callG {k : Nat} {f : Addr} {fd : FuncData} {ps : List Str} {sp : Sp} {e : Expr} {es : List Expr} {t : TA} {x : Str} {p pos : Pos} (F : FnG X.prog X.w X.K X.mg X.base k f fd ps sp) (hgd : X.A.guards = some []) (hr : Room k X.A) (hm : X.mg x = some (.ref f))
    (hk : PySem.W.keepIn X.K (.ref f) = true) (hb : Binds X.K fd ps []) (ha : PA X (e :: es) t) (hg : Gl X x := by rfl) (hdb : (x == ("__debug__" : Str)) = false := by decide)
    (he : starEach (e :: es) X.env = (false, eval e X.env) :: starEach es X.env := by rfl) (hpl : (backTo pos (starEach es X.env)).any (·.1) = false := by rfl) :
    PE X (.Call (.Name x p) (e :: es) [] pos) (tCall sp [] E0 t) := by
  refine ⟨fun pins s σ H Q I h => wpAny_Call_Name_kw (ld_glob I hg hm ?_ hdb)⟩
  refine PySem.W.callWith_K (h₀ := X.base) I.ok.mod.kin hk (thn (ha.run pos pins s σ H _ I h) fun us s1 hu => ?_) he hpl
  obtain ⟨vs, H1, J, r, q⟩ := hu
  refine ⟨J.kIn, ?_⟩
  have rr : Vals (vs ++ []) (us ++ []) := r.append .nil
  have hl : (us ++ []).length = ps.length := rr.length.symm.trans (F.len _ _ _ _ q)
  refine wpAny_call (codeAny_mono (F.run X.A X.stack s1 H1 ⟨us, []⟩ _ _ Q E0 hgd hr J.env0 (hb s1 us J.kIn hl) rr q) ?_)
  intro res s2 h2
  match res, h2 with
  | .ok (.ret u), h2 => exact J.after h2
  | .ok .next, h2 => exact h2.elim
  | .ok .brk, h2 => exact h2.elim
  | .ok .cont, h2 => exact h2.elim
  | .error e', h2 => exact h2.elim
end
end K00
set_option Elab.async false
set_option linter.all false
set_option maxRecDepth 100000
set_option maxHeartbeats 4000000
/-! K00G: list(zip(a, b)) of two lists, as a value. -/
namespace K00Z
open PySem PySem.Calls PyProof.Rows
theorem zip_no_len : typeLookup (.type "zip") "__len__" = pure none := am_miss_of_fast (by decide +kernel)
theorem zip_no_hint : typeLookup (.type "zip") "__length_hint__" = pure none := am_miss_of_fast (by decide +kernel)
section
variable {prog : Program} {w : World} {A : Around} {E : Value → Shared → Prop} {s : Shared} {R : Result → Shared → Prop} {z TI TO i1 i2 l1 l2 S : Addr} {xs ys : Array Value}
/-- the zip at z has given out i pairs -/
structure ZSt (h : Heap) (z TI TO i1 i2 l1 l2 S : Addr) (i : Nat) (xs ys : Array Value) : Prop where
  ti : IsPair h TI (.ref i1) (.ref i2)
  h1 : h.IsListIter i1 l1 i
  h2 : h.IsListIter i2 l2 i
  l1 : h.IsList l1 xs
  l2 : h.IsList l2 ys
  zz : (IsZip h z TI TO .none ∧ ∃ a b, IsPair h TO a b) ∨ ∃ T f oT, IsZipHeld h z TI TO T f ∧ h.get? T = some oT ∧ T ≠ z ∧ T ≠ i1 ∧ T ≠ i2 ∧ T ≠ S
/-- S stands apart from all of the zip's -/
structure Off (z TI TO i1 i2 l1 l2 S : Addr) : Prop where
  z : z ≠ S
  ti : TI ≠ S
  to : TO ≠ S
  i1 : i1 ≠ S
  i2 : i2 ≠ S
  l1 : l1 ≠ S
  l2 : l2 ≠ S
theorem ZSt.keep {h h' : Heap} {i : Nat} (x : ZSt h z TI TO i1 i2 l1 l2 S i xs ys) (O : Off z TI TO i1 i2 l1 l2 S) (hk : ∀ b o, b ≠ S → h.get? b = some o → h'.get? b = some o) : ZSt h' z TI TO i1 i2 l1 l2 S i xs ys where
  ti := hk _ _ O.ti x.ti
  h1 := x.h1.at fun o e => hk _ o O.i1 e
  h2 := x.h2.at fun o e => hk _ o O.i2 e
  l1 := x.l1.at fun o e => hk _ o O.l1 e
  l2 := x.l2.at fun o e => hk _ o O.l2 e
  zz := by
    rcases x.zz with ⟨hz, a, b, hTO⟩ | ⟨T, f, oT, hz, hT, r1, r2, r3, r4⟩
    · exact .inl ⟨hk _ _ O.z hz, a, b, hk _ _ O.to hTO⟩
    · exact .inr ⟨T, f, oT, hk _ _ O.z hz, hk _ _ r4 hT, r1, r2, r3, r4⟩
theorem zl_item {i : Nat} {x y : Value} {Q : Option Value → Shared → Prop} (D : ZipApart z TI TO i1 i2 l1 l2) (O : Off z TI TO i1 i2 l1 l2 S) (st : ZSt s.heap z TI TO i1 i2 l1 l2 S i xs ys) (hS : S < s.heap.objs.size) (ex : xs[i]? = some x) (ey : ys[i]? = some y)
    (hQ : ∀ h', ZSt h' z TI TO i1 i2 l1 l2 S (i + 1) xs ys → IsPair h' s.heap.objs.size x y → (∀ c o, c ≠ z → c ≠ TO → c ≠ i1 → c ≠ i2 → s.heap.get? c = some o → h'.get? c = some o) → Q (some (.ref s.heap.objs.size)) { s with heap := h' }) :
    wpAny (model prog w) A (pyNext (.ref z)) Q E s := by
  obtain ⟨hTI, h1, h2, hl1, hl2, hz⟩ := st
  have lt : ∀ {c o}, s.heap.get? c = some o → s.heap.objs.size ≠ c := fun e => Nat.ne_of_gt (Heap.lt_size e)
  have n1 : s.heap.objs.size ≠ i1 := let ⟨_, e, _⟩ := h1; lt e
  have n2 : s.heap.objs.size ≠ i2 := let ⟨_, e, _⟩ := h2; lt e
  rcases hz with ⟨hz, a, b, hTO⟩ | ⟨T, f, oT, hz, hT, r1, r2, r3, r4⟩
  · refine wpAny_pyNext_zip_item D hz hTI hTO h1 h2 hl1 hl2 ex ey fun h' a1 a2 a3 a4 a5 a6 hk => ?_
    exact hQ h' ⟨hk _ _ D.TIz D.TITO D.TIi1 D.TIi2 hTI, a3, a4, hl1.at fun o e => hk _ o D.l1z D.l1TO D.l1i1 D.l1i2 e, hl2.at fun o e => hk _ o D.l2z D.l2TO D.l2i1 D.l2i2 e,
      .inr ⟨s.heap.objs.size, false, _, a1, a5, lt hz, n1, n2, Nat.ne_of_gt hS⟩⟩ a5 hk
  · refine wpAny_pyNext_zip_item_held D hz hT hTI h1 h2 hl1 hl2 ex ey fun h' a1 a3 a4 a5 a6 hk => ?_
    exact hQ h' ⟨hk _ _ D.TIz D.TIi1 D.TIi2 hTI, a3, a4, hl1.at fun o e => hk _ o D.l1z D.l1i1 D.l1i2 e, hl2.at fun o e => hk _ o D.l2z D.l2i1 D.l2i2 e,
      .inr ⟨T, true, oT, a1, hk _ _ r1 r2 r3 hT, r1, r2, r3, r4⟩⟩ a5 fun c o c1 _ c3 c4 e => hk c o c1 c3 c4 e
theorem zl_done {i : Nat} {Q : Option Value → Shared → Prop} (hh : A.handled = none) (D : ZipApart z TI TO i1 i2 l1 l2) (st : ZSt s.heap z TI TO i1 i2 l1 l2 S i xs ys) (ex : xs[i]? = none ∨ ys[i]? = none)
    (hQ : ∀ h', (∀ c o, c ≠ z → c ≠ TO → c ≠ i1 → c ≠ i2 → s.heap.get? c = some o → h'.get? c = some o) → Q none { s with heap := h' }) :
    wpAny (model prog w) A (pyNext (.ref z)) Q E s := by
  obtain ⟨hTI, h1, h2, hl1, hl2, hz⟩ := st
  rcases hz with ⟨hz, a, b, hTO⟩ | ⟨T, f, oT, hz, hT, r1, r2, r3, r4⟩
  · exact wpAny_pyNext_zip_end hh D hz hTI hTO h1 h2 hl1 hl2 ex fun h' hk => hQ h' hk
  · exact wpAny_pyNext_zip_end_held hh D hz hT hTI h1 h2 hl1 hl2 ex fun h' hk => hQ h' fun c o c1 _ c3 c4 e => hk c o c1 c3 c4 e
/-- the tuples made so far -/
structure ZG (xs ys : Array Value) (lo : Addr) (h : Heap) (as : List Addr) : Prop where
  rise : as.Pairwise (· < ·)
  above : ∀ a ∈ as, lo < a
  pairs : ∀ (j : Nat) (a : Addr), as[j]? = some a → ∃ x y, xs[j]? = some x ∧ ys[j]? = some y ∧ IsPair h a x y
theorem ZG.there {lo : Addr} {h : Heap} {as : List Addr} (g : ZG xs ys lo h as) {a : Addr} (ha : a ∈ as) : a < h.objs.size := by
  obtain ⟨j, hj⟩ := List.mem_iff_getElem?.mp ha
  obtain ⟨_, _, _, _, e⟩ := g.pairs j a hj
  exact Heap.lt_size e
structure Below (z TI TO i1 i2 l1 l2 S : Addr) : Prop where
  z : z < S
  ti : TI < S
  to : TO < S
  i1 : i1 < S
  i2 : i2 < S
  l1 : l1 < S
  l2 : l2 < S
theorem Below.off (B : Below z TI TO i1 i2 l1 l2 S) : Off z TI TO i1 i2 l1 l2 S := ⟨Nat.ne_of_lt B.z, Nat.ne_of_lt B.ti, Nat.ne_of_lt B.to, Nat.ne_of_lt B.i1, Nat.ne_of_lt B.i2, Nat.ne_of_lt B.l1, Nat.ne_of_lt B.l2⟩
theorem zl_loop (hh : A.handled = none) (D : ZipApart z TI TO i1 i2 l1 l2) (B : Below z TI TO i1 i2 l1 l2 S) (hxy : xs.size = ys.size) (hn : xs.size ≤ sizeLine) (res : Value) {h₁ : Heap}
    (hR : ∀ h' tk acc c as, (∀ b o, b ≠ S → b ≠ z → b ≠ TO → b ≠ i1 → b ≠ i2 → h₁.get? b = some o → h'.get? b = some o) → h'.get? S = some { cls := .type "list", dict := none, data := .seq acc c, slots := #[] } → as.length = xs.size → ZG xs ys S h' as →
      acc.toList = as.map Value.ref → R (.ok (.ret res)) { s with heap := h', toks := tk }) :
    ∀ (k i : Nat) (h : Heap) (tk c : Nat) (acc : Array Value) (as : List Addr), xs.size - i = k → i ≤ xs.size → ZSt h z TI TO i1 i2 l1 l2 S i xs ys → (∀ b o, b ≠ S → b ≠ z → b ≠ TO → b ≠ i1 → b ≠ i2 → h₁.get? b = some o → h.get? b = some o) →
      h.get? S = some { cls := .type "list", dict := none, data := .seq acc c, slots := #[] } → acc.toList = as.map Value.ref → as.length = i → ZG xs ys S h as →
      codeAny (model prog w) A (.builtin "list.extend.loop" ⟨[.ref S, .ref z, res], []⟩) R { s with heap := h, toks := tk } := by
  have O := B.off
  intro k
  induction k with
  | zero =>
    intro i h tk c acc as hk hi hst hkeep hS hacc hal hG
    have hin : i = xs.size := by omega
    refine codeAny_builtin PySem.F.entry_extend_loop ?_
    rw [Around.under_plainId PySem.F.plain_extend_loop _]
    show wpAny _ A.in1 (pyNext (.ref z) >>= _) _ _ _
    refine wpAny_bind (zl_done (s := { s with heap := h, toks := tk }) (A := A.in1) hh D hst (.inl (Array.getElem?_eq_none (by omega))) fun h' he => ?_)
    refine wpAny_pure (hR h' tk acc c as (fun b o h1 h2 h3 h4 h5 e => he b o h2 h3 h4 h5 (hkeep b o h1 h2 h3 h4 h5 e)) (he S _ (Ne.symm O.z) (Ne.symm O.to) (Ne.symm O.i1) (Ne.symm O.i2) hS) (by omega) ⟨hG.rise, hG.above, fun j a hj => ?_⟩ hacc)
    obtain ⟨x, y, e1, e2, e3⟩ := hG.pairs j a hj
    have ha := hG.above a (List.mem_of_getElem? hj)
    exact ⟨x, y, e1, e2, he a _ (Nat.ne_of_gt (Nat.lt_trans B.z ha)) (Nat.ne_of_gt (Nat.lt_trans B.to ha)) (Nat.ne_of_gt (Nat.lt_trans B.i1 ha)) (Nat.ne_of_gt (Nat.lt_trans B.i2 ha)) e3⟩
  | succ k ih =>
    intro i h tk c acc as hk hi hst hkeep hS hacc hal hG
    have hlt : i < xs.size := by omega
    have hlt2 : i < ys.size := by omega
    have ex := Array.getElem?_eq_getElem hlt
    have ey := Array.getElem?_eq_getElem hlt2
    have hsz : acc.size = i := by rw [← Array.length_toList, hacc, List.length_map, hal]
    have hSl : S < h.objs.size := Heap.lt_size hS
    refine codeAny_builtin PySem.F.entry_extend_loop ?_
    rw [Around.under_plainId PySem.F.plain_extend_loop _]
    show wpAny _ A.in1 (pyNext (.ref z) >>= _) _ _ _
    refine wpAny_bind (zl_item (s := { s with heap := h, toks := tk }) D O hst hSl ex ey fun h' hst' ht hkp => ?_)
    dsimp only at ht hkp ⊢
    have hS' := hkp S _ (Ne.symm O.z) (Ne.symm O.to) (Ne.symm O.i1) (Ne.symm O.i2) hS
    have up : ∀ b o, b ≠ S → h'.get? b = some o → (h'.update S (Obj.mapSeq (·.push (Value.ref h.objs.size)))).get? b = some o := fun b o hb e => (Heap.get?_update_other _ _ (Ne.symm hb)).trans e
    have kp2 : ∀ b o, S < b → h.get? b = some o → h'.get? b = some o := fun b o hb e => hkp b o (Nat.ne_of_gt (Nat.lt_trans B.z hb)) (Nat.ne_of_gt (Nat.lt_trans B.to hb)) (Nat.ne_of_gt (Nat.lt_trans B.i1 hb)) (Nat.ne_of_gt (Nat.lt_trans B.i2 hb)) e
    show wpAny _ A.in1 (updateSeq S (·.push (Value.ref h.objs.size)) >>= _) _ _ _
    refine wpAny_bind ?_
    refine wpAny_updateSeq hS' rfl (wpAny_pure ⟨plainId_quiet PySem.F.plain_extend_loop _, ih (i + 1) _ tk _ (acc.push (Value.ref h.objs.size)) (as ++ [h.objs.size]) (by omega) hlt (hst'.keep O up)
      (fun b o h1 h2 h3 h4 h5 e => up b o h1 (hkp b o h2 h3 h4 h5 (hkeep b o h1 h2 h3 h4 h5 e))) (Heap.get?_update_self _ hS' rfl) (by rw [Array.toList_push, hacc, List.map_append]; rfl) (by rw [List.length_append, hal]; rfl) ⟨?_, ?_, ?_⟩⟩) (by rw [hsz]; omega) (by show (acc.push (Value.ref h.objs.size)).size ≤ sizeLine + 1; rw [Array.size_push, hsz]; omega)
    · refine List.pairwise_append.mpr ⟨hG.rise, List.pairwise_singleton _ _, fun a ha b hb => ?_⟩
      rw [List.mem_singleton.mp hb]
      exact hG.there ha
    · intro a ha
      rcases List.mem_append.mp ha with ha | ha
      · exact hG.above a ha
      · rw [List.mem_singleton.mp ha]; exact hSl
    · intro j b hj
      rcases Nat.lt_trichotomy j as.length with h1 | h1 | h1
      · rw [List.getElem?_append_left h1] at hj
        obtain ⟨x', y', e1, e2, e3⟩ := hG.pairs j b hj
        have hb := hG.above b (List.mem_of_getElem? hj)
        exact ⟨x', y', e1, e2, up b _ (Nat.ne_of_gt hb) (kp2 b _ hb e3)⟩
      · subst h1
        have hb : h.objs.size = b := by simpa using hj
        subst hb
        exact ⟨_, _, by rw [hal]; exact ex, by rw [hal]; exact ey, up _ _ (Nat.ne_of_gt hSl) ht⟩
      · have hnone : (as ++ [h.objs.size])[j]? = none := List.getElem?_eq_none (by rw [List.length_append, List.length_singleton]; omega)
        rw [hnone] at hj; cases hj
theorem zl_call {Q : Value → Shared → Prop} (hh : A.handled = none) (D : ZipApart z TI TO i1 i2 l1 l2) (hst : ∀ S, s.heap.objs.size ≤ S → ZSt s.heap z TI TO i1 i2 l1 l2 S 0 xs ys) (B : Below z TI TO i1 i2 l1 l2 s.heap.objs.size) (hxy : xs.size = ys.size) (hn : xs.size ≤ sizeLine)
    (hQ : ∀ h' tk acc c as, (∀ b o, b ≠ z → b ≠ TO → b ≠ i1 → b ≠ i2 → s.heap.get? b = some o → h'.get? b = some o) → h'.get? s.heap.objs.size = some { cls := .type "list", dict := none, data := .seq acc c, slots := #[] } → as.length = xs.size → ZG xs ys s.heap.objs.size h' as →
      acc.toList = as.map Value.ref → Q (.ref s.heap.objs.size) { s with heap := h', toks := tk }) :
    wpAny (model prog w) A (call (.type "list") [.ref z]) Q E s := by
  refine callType_codes (Q₁ := fun obj s₁ => obj = .ref s.heap.objs.size ∧ s₁ = { s with heap := s.heap.push { cls := .type "list", data := .seq #[] } }) PySem.F.called_list (PySem.F.typeCall_list_1 _) PySem.F.entry_list_init
    (code_list_new _ ⟨rfl, rfl⟩) fun obj s₁ h₁ => ?_
  obtain ⟨rfl, rfl⟩ := h₁
  have O := B.off
  have hS : (s.heap.push { cls := .type "list", data := .seq #[] }).get? s.heap.objs.size = some { cls := .type "list", data := .seq #[] } := Heap.get?_push_size _ rfl
  have st1 : ZSt (s.heap.push { cls := .type "list", data := .seq #[] }) z TI TO i1 i2 l1 l2 s.heap.objs.size 0 xs ys := (hst _ (Nat.le_refl _)).keep O fun b o _ e => Heap.get?_push_of_some _ e
  have tyz : ∀ {h : Heap} {S i}, ZSt h z TI TO i1 i2 l1 l2 S i xs ys → ∃ o, h.get? z = some o ∧ o.cls = .type "zip" := fun st => by
    rcases st.zz with ⟨hz, _⟩ | ⟨T, f, oT, hz, _⟩
    · exact ⟨_, hz, rfl⟩
    · exact ⟨_, hz, rfl⟩
  refine ⟨⟨_, hS, rfl⟩, PySem.F.args_list_init_2 _ _, ?_⟩
  show wpAny _ _ (do let old ← Builtin.List.listItems (.ref s.heap.objs.size); Builtin.List.listUpdate (.ref s.heap.objs.size) (fun _ => #[]); letGo old.toList.reverse; Builtin.List.listExtendWith (.ref s.heap.objs.size) (.ref z) .none) _ _ _
  refine wpAny_bind ?_
  unfold Builtin.List.listItems
  refine wpAny_bind (wpAny_seqItems hS rfl (wpAny_pure ?_))
  show wpAny _ _ (updateSeq s.heap.objs.size (fun _ => #[]) >>= fun _ => letGo (#[] : Array Value).toList.reverse >>= fun _ => Builtin.List.listExtendWith (.ref s.heap.objs.size) (.ref z) .none) _ _ _
  refine wpAny_bind (wpAny_updateSeq hS rfl ?_)
  have hS₂ := Heap.get?_update_self (Obj.mapSeq (fun _ => (#[] : Array Value))) hS rfl
  have oth : ∀ b o, b ≠ s.heap.objs.size → (s.heap.push { cls := .type "list", data := .seq #[] }).get? b = some o → ((s.heap.push { cls := .type "list", data := .seq #[] }).update s.heap.objs.size (Obj.mapSeq (fun _ => (#[] : Array Value)))).get? b = some o :=
    fun b o hb e => (Heap.get?_update_other _ _ (Ne.symm hb)).trans e
  have st2 := st1.keep O oth
  refine wpAny_bind (wpAny_letGo ?_)
  unfold Builtin.List.listExtendWith
  refine wpAny_bind (wpAny_typeOf (T := "zip") (tyz st2) ?_)
  have h1 : Builtin.List.listSameRef (.ref s.heap.objs.size) (.ref z) = false := by simp [Builtin.List.listSameRef, Ne.symm O.z]
  have h2 : (Value.type "zip" == Value.type "list") = false := by decide
  have h3 : (Value.type "zip" == Value.type "tuple") = false := by decide
  simp only [h1, h2, h3, Bool.or_false, Bool.false_eq_true, if_false]
  have hT := tyz st2
  refine wpAny_bind (wpAny_pyIter_slot hT PySem.F.slot_zip_iter (wpAny_call_entry PySem.F.slot_zip_iter hT PySem.F.entry_zip_iter ?_ (PySem.F.args_zip_iter_1 _)))
  show wpAny _ _ (ret (.ref z)) _ _ _
  refine wpAny_pure ⟨_, rfl, "zip", _, hT, PySem.F.slot_zip_next.lookup, ?_⟩
  refine wpAny_bind (wpAny_holding ?_)
  unfold Builtin.List.listLengthHint
  refine wpAny_bind (wpAny_specialOf hT zip_no_len ?_)
  show wpAny _ _ (specialOf (Value.ref z) (Str.ofString "__length_hint__") >>= _) _ _ _
  refine wpAny_bind (wpAny_specialOf hT zip_no_hint ?_)
  refine wpAny_pure ?_
  show wpAny _ _ (rule "list.extend.makes-room" >>= fun _ => Builtin.List.listTouch (.ref s.heap.objs.size) >>= fun _ =>
    again (.builtin "list.extend.loop" ⟨[.ref s.heap.objs.size, .ref z, .none], []⟩)) _ _ _
  refine wpAny_bind (wpAny_rule ?_)
  refine wpAny_bind ?_
  show wpAny _ _ (updateSeq s.heap.objs.size (·.push .none) >>= fun _ => updateSeq s.heap.objs.size (·.pop)) _ _ _
  refine wpAny_bind (wpAny_updateSeq hS₂ rfl ?_)
  have hS₃ := Heap.get?_update_self (Obj.mapSeq (·.push Value.none)) hS₂ rfl
  refine wpAny_updateSeq (hz := by seq_fits) hS₃ rfl ?_
  have hS₄ := Heap.get?_update_self (Obj.mapSeq (·.pop)) hS₃ rfl
  refine wpAny_pure ⟨plainId_quiet PySem.F.plain_extend_loop _, ?_⟩
  refine zl_loop (A := A.in1) (s := s) (h₁ := s.heap) hh D B hxy hn .none (fun h' tk acc c as hk hS' hl hG hacc => ⟨rfl, hQ h' tk acc c as (fun b o b2 b3 b4 b5 e => hk b o (Nat.ne_of_lt (Heap.lt_size e)) b2 b3 b4 b5 e) hS' hl hG hacc⟩) xs.size 0 _ _ _ _ [] (Nat.sub_zero _) (Nat.zero_le _)
    (st2.keep O fun b o hb e => (Heap.get?_update_other _ _ (Ne.symm hb)).trans ((Heap.get?_update_other _ _ (Ne.symm hb)).trans e))
    (fun b o hb _ _ _ _ e => (Heap.get?_update_other _ _ (Ne.symm hb)).trans ((Heap.get?_update_other _ _ (Ne.symm hb)).trans (oth b o hb (Heap.get?_push_of_some _ e)))) hS₄ rfl rfl
    ⟨List.Pairwise.nil, (fun _ ha => nomatch ha), (fun j a hj => by simp at hj)⟩
end
end K00Z
set_option Elab.async false
set_option linter.all false
set_option maxRecDepth 100000
set_option maxHeartbeats 4000000
/-! K00I: the rule for list(zip(a, b)). -/
namespace K00
open PySem PySem.Spec PyProof.Rows L2 K00Z
def putP : Hp → List Addr → List (V × V) → Hp
  | H, a :: as, p :: ps => putP (upd H a (.tup [p.1, p.2])) as ps
  | H, _, _ => H
theorem putP_off {b : Addr} : ∀ (as : List Addr) (ps : List (V × V)) (H : Hp), b ∉ as → putP H as ps b = H b
  | [], _, _, _ => rfl
  | _ :: _, [], _, _ => rfl
  | a :: as, p :: ps, H, h => by
    show putP (upd H a (.tup [p.1, p.2])) as ps b = H b
    rw [putP_off as ps _ (fun z => h (List.mem_cons_of_mem _ z)), upd_ne (fun z => h (by rw [z]; exact List.mem_cons_self))]
theorem putP_at : ∀ (as : List Addr) (ps : List (V × V)) (H : Hp), as.length = ps.length → as.Nodup → Paired (fun (t : Addr) (p : V × V) => putP H as ps t = some (.tup [p.1, p.2])) as ps
  | [], [], _, _, _ => .nil
  | [], _ :: _, _, h, _ => by cases h
  | _ :: _, [], _, h, _ => by cases h
  | a :: as, p :: ps, H, h, hn => by
    have hn' := List.nodup_cons.mp hn
    have ih := putP_at as ps (upd H a (.tup [p.1, p.2])) (Nat.succ.inj h) hn'.2
    refine .cons ?_ ih
    show putP (upd H a (.tup [p.1, p.2])) as ps a = some (.tup [p.1, p.2])
    rw [putP_off as ps _ hn'.1, upd_same]
def rZipL (K : PySem.W.Frag) : List V → Hp → VK → Prop := fun vs H Q => ∃ a b xs ys, vs = [.ref a, .ref b] ∧ SqL K H a xs ∧ SqL K H b ys ∧ xs.length = ys.length ∧
  ∀ (H' : Hp) (p : Addr) (ts : List Addr), Same H H' → H p = none → (∀ t ∈ ts, H t = none) → p ∉ ts → H' p = some (.lst (ts.map V.ref)) → Paired (fun (t : Addr) (q : V × V) => H' t = some (.tup [q.1, q.2])) ts (xs.zip ys) → Q (.ref p) H'
def tListZip (K : PySem.W.Frag) (ta : TA) : TE := fun σ H Q => ta σ H fun vs H1 => rZipL K vs H1 Q
theorem zip_laid {X : Cx} {pins : List (Addr × Obj)} {σ : L2.St} {H : Hp} {s : Shared} {h' : Heap} {tk : Nat} {xs ys : List V} {us vs : List Value} {acc : Array Value} {c : Nat} {as : List Addr} {S : Addr} (I : Inv X pins σ H s) (hz : xs.length ≤ sizeLine) (hxy : xs.length = ys.length) (rx : Vals xs us) (ry : Vals ys vs)
    (hk : ∀ b o, s.heap.get? b = some o → h'.get? b = some o) (hSs : s.heap.objs.size ≤ S) (hS : h'.get? S = some { cls := .type "list", dict := none, data := .seq acc c, slots := #[] }) (hl : as.length = us.length) (hG : ZG us.toArray vs.toArray S h' as) (hacc : acc.toList = as.map Value.ref) :
    ∃ H' : Hp, Same H H' ∧ H S = none ∧ (∀ t ∈ as, H t = none) ∧ S ∉ as ∧ H' S = some (.lst (as.map V.ref)) ∧ Paired (fun (t : Addr) (q : V × V) => H' t = some (.tup [q.1, q.2])) as (xs.zip ys) ∧ Inv X pins σ H' { s with heap := h', toks := tk } := by
  have lx : xs.length = us.length := rx.length
  have ly : ys.length = vs.length := ry.length
  have lz : (xs.zip ys).length = xs.length := by rw [List.length_zip, ← hxy, Nat.min_self]
  have hSn : S ∉ as := fun z => Nat.lt_irrefl _ (hG.above _ z)
  have nd : as.Nodup := List.Pairwise.imp (fun {a b} (h : a < b) => Nat.ne_of_lt h) hG.rise
  have new : ∀ t ∈ as, H t = none := fun t ht => I.hok.fresh (Nat.le_trans hSs (Nat.le_of_lt (hG.above t ht)))
  have newS : H S = none := I.hok.fresh hSs
  have atP := putP_at as (xs.zip ys) (upd H S (.lst (as.map V.ref))) (by omega) nd
  have off : ∀ b, b ∉ as → b ≠ S → putP (upd H S (.lst (as.map V.ref))) as (xs.zip ys) b = H b := fun b h1 h2 => by rw [putP_off as _ _ h1, upd_ne h2]
  have low : ∀ b o, s.heap.get? b = some o → b ∉ as ∧ b ≠ S := fun b o e => ⟨fun z => absurd (Heap.lt_size e) (Nat.not_lt.mpr (Nat.le_trans hSs (Nat.le_of_lt (hG.above b z)))), Nat.ne_of_lt (Nat.lt_of_lt_of_le (Heap.lt_size e) hSs)⟩
  have kp : ∀ b u, H b = some u → (putP (upd H S (.lst (as.map V.ref))) as (xs.zip ys)) b = some u := fun b u e => by
    rw [off b (fun z => by rw [new b z] at e; cases e) (fun z => by rw [z, newS] at e; cases e)]
    exact e
  have eS : putP (upd H S (.lst (as.map V.ref))) as (xs.zip ys) S = some (.lst (as.map V.ref)) := by rw [putP_off as _ _ hSn, upd_same]
  refine ⟨putP (upd H S (.lst (as.map V.ref))) as (xs.zip ys), kp, newS, new, hSn, eS, atP, ?_⟩
  refine I.call' (ch := []) rfl ⟨fun b o q _ _ _ => hk b o q, fun b o q _ _ _ => ⟨o.slots, hk b o q⟩, fun b o q n _ => ?_, fun b o q _ => ⟨o, hk b o q⟩, fun b xs q => kp b _ q, fun b o u q => kp b _ q, fun b ps q => ⟨#[], by rw [kp b _ q]; simp⟩⟩ (fun b u q => ?_) I.bare fun b z => by simp at z
  · obtain ⟨z1, z2⟩ := low b o q
    rw [off b z1 z2]
    exact n
  · by_cases hb : b ∈ as
    · obtain ⟨j, pk, e1, e2, e3⟩ := LiI.paired_ix atP hb
      rw [e3] at q
      cases q
      obtain ⟨x, y, f1, f2, f3⟩ := hG.pairs j b e1
      have hzip := List.getElem?_zip_eq_some.mp (show (xs.zip ys)[j]? = some (pk.1, pk.2) from e2)
      obtain ⟨u1, hu1, r1⟩ := rx.get hzip.1
      obtain ⟨u2, hu2, r2⟩ := ry.get hzip.2
      have g1 : us[j]? = some x := by simpa using f1
      have g2 : vs[j]? = some y := by simpa using f2
      rw [g1] at hu1
      rw [g2] at hu2
      cases hu1
      cases hu2
      exact ⟨by show 2 ≤ sizeLine; decide, [x, y], .cons r1 (.cons r2 .nil), ⟨_, f3, rfl, _, rfl⟩⟩
    · by_cases hb2 : b = S
      · rw [hb2] at q ⊢
        rw [eS] at q
        cases q
        refine ⟨by rw [List.length_map]; omega, acc.toList, c, by rw [hacc]; exact LiI.vals_refs as, ?_⟩
        rw [Array.toArray_toList]
        exact hS
      · rw [off b hb hb2] at q
        exact (I.hok b u q).stay (fun d v _ y => hk d v y) (fun d y => kp d _ y) fun d xs y => kp d _ y
theorem apartN {n a b : Nat} (ha : a < n) (hb : b < n) : ZipApart (n + 4) (n + 2) (n + 3) n (n + 1) a b := by
  have key : ∀ {x y : Nat}, x < y ∨ y < x → x ≠ y := by omega
  constructor <;> exact key (by omega)
theorem belowN {n a b : Nat} (ha : a < n) (hb : b < n) : Below (n + 4) (n + 2) (n + 3) n (n + 1) a b (n + 5) := by
  have key : ∀ {x y : Nat}, x + 1 ≤ y → x < y := fun h => h
  exact ⟨key (by omega), key (by omega), key (by omega), key (by omega), key (by omega), key (by omega), key (by omega)⟩
theorem neN {x y : Nat} (h : x < y) : x ≠ y := Nat.ne_of_lt h
section
variable {X : Cx} {e e2 : Expr} {ta : TA} {p p2 cpos pos : Pos}
/-- list(zip(e, e2)) -/
theorem pe_listzip (hc : X.calm = true) (hg : Gl X "list") (hm : X.mg "list" = none) (hv : bootBuiltins "list" = some (.type "list")) (hg2 : Gl X "zip") (hm2 : X.mg "zip" = none) (ha : PA X [e, e2] ta)
    (hs2 : starEach [e, e2] X.env = (false, eval e X.env) :: starEach [e2] X.env := by rfl) (hpl2 : (backTo cpos (starEach [e2] X.env)).any (·.1) = false := by rfl)
    (hs : starEach [.Call (.Name "zip" p2) [e, e2] [] cpos] X.env = (false, eval (.Call (.Name "zip" p2) [e, e2] [] cpos) X.env) :: starEach [] X.env := by rfl) :
    PE X (.Call (.Name "list" p) [.Call (.Name "zip" p2) [e, e2] [] cpos] [] pos) (tListZip X.K ta) := by
  refine ⟨fun pins s σ H Q I hq => ?_⟩
  refine wpAny_Call_Name_kw (ld_blt I hg hm hv ?_)
  refine PyProof.Rows.callWith_type1 ?_ hs rfl
  rw [hs]
  show wpAny _ _ (spliced ((false, eval (.Call (.Name "zip" p2) [e, e2] [] cpos) X.env) :: backTo pos (starEach [] X.env))) _ _ s
  refine Calls.spliced_cons ?_
  refine wpAny_Call_Name_kw (ld_blt I hg2 hm2 PyProof.Rows.boot_zip (PyProof.Rows.callWith_type1 (thn (ha.run cpos pins s σ H _ I hq) fun us s1 ⟨vs, H1, I1, r1, q1⟩ => ?_) hs2 hpl2))
  obtain ⟨a, b, xs, ys, ex, hqx, hqy, hxy, q⟩ := q1
  subst ex
  cases r1 with
  | cons r rr =>
    cases rr with
    | cons r' rr =>
      cases rr
      cases r
      cases r'
      obtain ⟨its, rv, p1, hz1⟩ := I1.list hqx
      obtain ⟨its2, rv2, p2', hz2⟩ := I1.list hqy
      have la : a < s1.heap.objs.size := let ⟨_, ho, _⟩ := p1.isList; Heap.lt_size ho
      have lb : b < s1.heap.objs.size := let ⟨_, ho, _⟩ := p2'.isList; Heap.lt_size ho
      have lx : xs.length = its.length := rv.length
      have ly : ys.length = its2.length := rv2.length
      refine call_zip_2 p1.isList p2'.isList fun h' hz hTI hTO h1 h2 hsz hk => ?_
      refine Calls.spliced_nil ?_
      have D : ZipApart (s1.heap.objs.size + 4) (s1.heap.objs.size + 2) (s1.heap.objs.size + 3) s1.heap.objs.size (s1.heap.objs.size + 1) a b := apartN la lb
      refine zl_call (s := { s1 with heap := h' }) (xs := its.toArray) (ys := its2.toArray) (I1.ok.hd hc) D (fun S _ => ⟨hTI, h1, h2, p1.isList.at fun o e => hk _ o e, p2'.isList.at fun o e => hk _ o e, .inl ⟨hz, _, _, hTO⟩⟩) ?_ (by simp only [List.size_toArray]; omega) (by simp only [List.size_toArray]; omega) fun h'' tk acc c as hk2 hS hl hG hacc => ?_
      · show Below _ _ _ _ _ _ _ h'.objs.size
        rw [hsz]
        exact belowN la lb
      have hlow : ∀ b' o, s1.heap.get? b' = some o → h''.get? b' = some o := fun b' o e => by
        have lt := Heap.lt_size e
        exact hk2 b' o (neN (Nat.lt_add_right 4 lt)) (neN (Nat.lt_add_right 3 lt)) (neN lt) (neN (Nat.lt_add_right 1 lt)) (hk b' o e)
      have hSs : s1.heap.objs.size ≤ h'.objs.size := by rw [hsz]; omega
      obtain ⟨H', k1, k2, k3, k4, k5, k6, J⟩ := zip_laid (tk := tk) I1 hz1 hxy rv rv2 hlow hSs hS (by simpa using hl) hG hacc
      exact ⟨.ref _, H', J, rfl, q H' _ as k1 k2 k3 k4 k5 k6⟩
end
end K00
set_option Elab.async false
set_option linter.all false
set_option maxRecDepth 100000
set_option maxHeartbeats 4000000
/-! K00J: data over the heap, all lists and dicts of it locked for good. -/
namespace K00
open PySem PySem.Spec L2
section
variable (P : Program) (w : World)
/-- at d stands a locked dict with these entries -/
def Dd (H : Hp) (d : Addr) (o : Obj) (es : List (V × V)) : Prop :=
  (∃ kvs : List (Key × V), H d = some (.frz o (.dK kvs)) ∧ es = kvs.map fun p => (kV p.1, p.2)) ∨ (H d = some (.frz o (ndO P w d)) ∧ es = [(.non, .int 1)])
mutual
inductive Da (H : Hp) : V → PyData → Prop
  | non : Da H .non .none
  | bl (b : Bool) : Da H (.bl b) (.bool b)
  | int (i : Int) : Da H (.int i) (.int i)
  | str (x : Str) : Da H (.str x) (.str x)
  | lst {a : Addr} {o : Obj} {xs : List V} {ds : List PyData} (h : H a = some (.frz o (.lst xs))) (r : DaL H xs ds) : Da H (.ref a) (.list ds)
  | tup {a : Addr} {xs : List V} {ds : List PyData} (h : H a = some (.tup xs)) (r : DaL H xs ds) : Da H (.ref a) (.tuple ds)
  | dic {a : Addr} {o : Obj} {es : List (V × V)} {ds : List (PyData × PyData)} (h : Dd P w H a o es) (r : DaE H es ds) : Da H (.ref a) (.dict ds)
inductive DaL (H : Hp) : List V → List PyData → Prop
  | nil : DaL H [] []
  | cons {x : V} {xs : List V} {d : PyData} {ds : List PyData} (h : Da H x d) (r : DaL H xs ds) : DaL H (x :: xs) (d :: ds)
inductive DaE (H : Hp) : List (V × V) → List (PyData × PyData) → Prop
  | nil : DaE H [] []
  | cons {x y : V} {es : List (V × V)} {d e : PyData} {ds : List (PyData × PyData)} (k : Da H x d) (h : Da H y e) (r : DaE H es ds) : DaE H ((x, y) :: es) ((d, e) :: ds)
end
end
/-- tuples and what is locked stay -/
def Kp (H H' : Hp) : Prop := (∀ b xs, H b = some (.tup xs) → H' b = some (.tup xs)) ∧ ∀ b o u, H b = some (.frz o u) → H' b = some (.frz o u)
theorem Kp.refl (H : Hp) : Kp H H := ⟨fun _ _ e => e, fun _ _ _ e => e⟩
theorem Kp.trans {H H1 H2 : Hp} (a : Kp H H1) (b : Kp H1 H2) : Kp H H2 := ⟨fun c xs e => b.1 c xs (a.1 c xs e), fun c o u e => b.2 c o u (a.2 c o u e)⟩
theorem Kp.same {H H' : Hp} (k : Same H H') : Kp H H' := ⟨fun b xs e => k b _ e, fun b o u e => k b _ e⟩
/-- all but what stands at p is as it was -/
def Ch (p : Addr) (H H' : Hp) : Prop := ∀ b o, b ≠ p → H b = some o → H' b = some o
theorem Ch.refl (p : Addr) (H : Hp) : Ch p H H := fun _ _ _ e => e
theorem Ch.trans {p : Addr} {H H1 H2 : Hp} (a : Ch p H H1) (b : Ch p H1 H2) : Ch p H H2 := fun c o n e => b c o n (a c o n e)
theorem Ch.same {p : Addr} {H H' : Hp} (k : Same H H') : Ch p H H' := fun b o _ e => k b o e
theorem ch_upd {p : Addr} {H : Hp} {o : HO} : Ch p H (upd H p o) := fun b u n e => by rw [upd_ne n]; exact e
theorem Kp.ch {p : Addr} {H H' : Hp} {xs : List V} (k : Ch p H H') (h : H p = some (.lst xs)) : Kp H H' :=
  ⟨fun b ys e => k b _ (fun z => by rw [z, h] at e; cases e) e, fun b o u e => k b _ (fun z => by rw [z, h] at e; cases e) e⟩
theorem same_refl (H : Hp) : Same H H := fun _ _ e => e
theorem same_new {H : Hp} {p : Addr} (h : H p = none) (o : HO) : Same H (upd H p o) := fun b u q => by rw [upd_ne (ne_of_none q h)]; exact q
theorem Kp.new {H : Hp} {p : Addr} (h : H p = none) (o : HO) : Kp H (upd H p o) := .same (same_new h o)
theorem Kp.lst {H : Hp} {p : Addr} {xs : List V} (h : H p = some (.lst xs)) (o : HO) : Kp H (upd H p o) := .ch ch_upd h
section
variable {P : Program} {w : World} {H H' : Hp}
theorem Dd.kp {d : Addr} {o : Obj} {es : List (V × V)} (h : Dd P w H d o es) (k : Kp H H') : Dd P w H' d o es := by
  rcases h with ⟨kvs, h, e⟩ | ⟨h, e⟩
  · exact .inl ⟨kvs, k.2 _ _ _ h, e⟩
  · exact .inr ⟨k.2 _ _ _ h, e⟩
mutual
theorem Da.kp (k : Kp H H') : ∀ {x : V} {d : PyData}, Da P w H x d → Da P w H' x d
  | _, _, .non => .non
  | _, _, .bl b => .bl b
  | _, _, .int i => .int i
  | _, _, .str y => .str y
  | _, _, .lst h q => .lst (k.2 _ _ _ h) (DaL.kp k q)
  | _, _, .tup h q => .tup (k.1 _ _ h) (DaL.kp k q)
  | _, _, .dic h q => .dic (h.kp k) (DaE.kp k q)
theorem DaL.kp (k : Kp H H') : ∀ {xs : List V} {ds : List PyData}, DaL P w H xs ds → DaL P w H' xs ds
  | _, _, .nil => .nil
  | _, _, .cons h q => .cons (Da.kp k h) (DaL.kp k q)
theorem DaE.kp (k : Kp H H') : ∀ {xs : List (V × V)} {ds : List (PyData × PyData)}, DaE P w H xs ds → DaE P w H' xs ds
  | _, _, .nil => .nil
  | _, _, .cons i h q => .cons (Da.kp k i) (Da.kp k h) (DaE.kp k q)
end
theorem DaL.length : ∀ {xs : List V} {ds : List PyData}, DaL P w H xs ds → xs.length = ds.length
  | _, _, .nil => rfl
  | _, _, .cons _ q => congrArg (· + 1) (DaL.length q)
theorem DaL.append : ∀ {xs ys : List V} {ds es : List PyData}, DaL P w H xs ds → DaL P w H ys es → DaL P w H (xs ++ ys) (ds ++ es)
  | _, _, _, _, .nil, q => q
  | _, _, _, _, .cons h r, q => .cons h (DaL.append r q)
theorem DaL.get : ∀ {xs : List V} {ds : List PyData} {i : Nat} {x : V}, DaL P w H xs ds → xs[i]? = some x → ∃ d, ds[i]? = some d ∧ Da P w H x d
  | _, _, _, _, .nil, h => nomatch h
  | _, _, 0, x, .cons h r, e => by
    cases (Option.some.inj e)
    exact ⟨_, rfl, h⟩
  | _, _, i + 1, x, .cons h r, e => DaL.get r (i := i) e
theorem DaL.mem {xs : List V} {ds : List PyData} {x : V} (q : DaL P w H xs ds) (h : x ∈ xs) : ∃ d, d ∈ ds ∧ Da P w H x d := by
  obtain ⟨i, e⟩ := List.mem_iff_getElem?.mp h
  obtain ⟨d, e2, h2⟩ := q.get e
  exact ⟨d, List.mem_of_getElem? e2, h2⟩
theorem DaL.snoc {xs : List V} {ds : List PyData} {x : V} {d : PyData} (q : DaL P w H xs ds) (h : Da P w H x d) : DaL P w H (xs ++ [x]) (ds ++ [d]) := q.append (.cons h .nil)
theorem DaL.take : ∀ {xs : List V} {ds : List PyData} (n : Nat), DaL P w H xs ds → DaL P w H (xs.take n) (ds.take n)
  | _, _, 0, _ => .nil
  | _, _, _ + 1, .nil => .nil
  | _, _, n + 1, .cons h q => .cons h (DaL.take n q)
theorem DaL.drop : ∀ {xs : List V} {ds : List PyData} (n : Nat), DaL P w H xs ds → DaL P w H (xs.drop n) (ds.drop n)
  | _, _, 0, h => h
  | _, _, _ + 1, .nil => .nil
  | _, _, n + 1, .cons h q => DaL.drop n q
theorem DaE.length : ∀ {xs : List (V × V)} {ds : List (PyData × PyData)}, DaE P w H xs ds → xs.length = ds.length
  | _, _, .nil => rfl
  | _, _, .cons _ _ q => congrArg (· + 1) (DaE.length q)
theorem DaE.get : ∀ {xs : List (V × V)} {ds : List (PyData × PyData)} {i : Nat} {x : V × V}, DaE P w H xs ds → xs[i]? = some x → ∃ d, ds[i]? = some d ∧ Da P w H x.1 d.1 ∧ Da P w H x.2 d.2
  | _, _, _, _, .nil, h => nomatch h
  | _, _, 0, x, .cons k h r, e => by
    cases (Option.some.inj e)
    exact ⟨_, rfl, k, h⟩
  | _, _, i + 1, x, .cons k h r, e => DaE.get r (i := i) e
theorem DaE.values : ∀ {xs : List (V × V)} {ds : List (PyData × PyData)}, DaE P w H xs ds → DaL P w H (xs.map (·.2)) (ds.map (·.2))
  | _, _, .nil => .nil
  | _, _, .cons k h q => .cons h (DaE.values q)
theorem DaE.keys : ∀ {xs : List (V × V)} {ds : List (PyData × PyData)}, DaE P w H xs ds → DaL P w H (xs.map (·.1)) (ds.map (·.1))
  | _, _, .nil => .nil
  | _, _, .cons k h q => .cons k (DaE.keys q)
end
/-- at 1 stands a dict of the module's start -/
def SysD (K : PySem.W.Frag) : Prop := ∃ o, K.lookup sysModules = some o ∧ o.cls = .type "dict"
section
variable {X : Cx} {pins : List (Addr × Obj)} {σ : L2.St} {H : Hp} {s : Shared} {d : Addr} {o : Obj}
/-- what the model says of a locked dict of data -/
theorem frzD {es : List (V × V)} (I : L2.Inv X pins σ H s) (h : Dd X.prog X.w H d o es) :
    (d == sysModules) = false ∧ s.heap.get? d = some o ∧ o.ExactDict ∧ ∃ (κ : Type) (_ : DecidableEq κ) (knd : KeyKind X.prog X.w κ) (e' : Array DictEntry) (ep : Nat) (vs : List (κ × Value)), o.data = .dict e' ep ∧ e'.size = es.length ∧ es.length ≤ sizeLine ∧
      Paired (fun (p : V × V) (q : κ × Value) => (∀ u, knd.is q.1 u = true → RelV p.1 u) ∧ RelV p.2 q.2) es vs ∧ s.heap.DictAt knd d vs ep := by
  rcases h with ⟨kvs, h, rfl⟩ | ⟨h, rfl⟩
  · obtain ⟨hs, hgd, hx, e', ep, vs, hdt, hsz, kv, hm⟩ := I.frzK h
    have zz : kvs.length ≤ sizeLine := (I.hok d _ h).2.1
    refine ⟨hs, hgd, hx, Key, inferInstance, mixKind X.prog X.w, e', ep, vs, hdt, by rw [List.length_map]; exact hsz, by rw [List.length_map]; exact zz, ?_, hm⟩
    clear hsz hm h zz
    induction kv with
    | nil => exact .nil
    | cons r t ih =>
      refine .cons ⟨fun u hu => ?_, r.2⟩ ih
      have e1 := r.1
      show RelV (kV _) u
      rw [e1]
      exact relV_key hu
  · obtain ⟨hgd, ⟨hs, t, o', es, ep, ho, hx, hdt, r⟩, _⟩ := I.hok d _ h
    rw [hgd] at ho
    cases ho
    refine ⟨hs, hgd, hx, Option Key, inferInstance, noneKind X.prog X.w, es, ep, _, hdt, ?_, by show 1 ≤ sizeLine; decide, .cons ⟨fun u hu => ?_, ⟨t, rfl⟩⟩ .nil, o, es, hgd, hx, hdt, r⟩
    · have l1 := r.2.1.length
      rw [Array.length_toList] at l1
      exact l1
    · have e : u = .none := nk_none hu
      exact e
theorem Dd.size {es : List (V × V)} (I : L2.Inv X pins σ H s) (h : Dd X.prog X.w H d o es) : es.length ≤ sizeLine := by
  obtain ⟨_, _, _, _, _, _, _, _, _, _, _, z, _⟩ := frzD I h
  exact z
end
end K00
set_option Elab.async false
set_option linter.all false
set_option maxRecDepth 100000
set_option maxHeartbeats 4000000
/-! K00K: repr and isinstance of data. -/
namespace K00
open PySem PySem.Spec L2
section
variable {X : Cx} {pins : List (Addr × Obj)} {σ : L2.St} {H : Hp} {s : Shared}
theorem ents_of {κ : Type} [DecidableEq κ] {knd : PySem.KeyKind X.prog X.w κ} : ∀ {es : List (V × V)} {vs : List (κ × Value)} {ens : List DictEntry}, Paired (fun (p : V × V) (q : κ × Value) => (∀ u, knd.is q.1 u = true → RelV p.1 u) ∧ RelV p.2 q.2) es vs → Pairs knd ens vs →
    Vals (es.map (·.1)) (ens.map (·.key)) ∧ Vals (es.map (·.2)) (ens.map (·.val))
  | _, _, _, .nil, p => by
    cases p
    exact ⟨.nil, .nil⟩
  | _, _, _, .cons r t, p => by
    cases p with
    | @cons en kv' es' kvs' p1 p2 p3 =>
      obtain ⟨z1, z2⟩ := ents_of t p3
      exact ⟨.cons (r.1 _ p1) z1, .cons (by show RelV _ en.val; rw [show en.val = _ from p2]; exact r.2) z2⟩
mutual
theorem Da.reads (I : L2.Inv X pins σ H s) (S : SysD X.K) : ∀ {x : V} {d : PyData} {u : Value}, Da X.prog X.w H x d → RelV x u → ∃ as, Reads s.heap u d as ∧ sysModules ∉ as
  | _, _, u, .non, r => by cases (show u = Value.none from r); exact ⟨[], .none, by simp⟩
  | _, _, u, .bl b, r => by cases (show u = Value.bool b from r); exact ⟨[], .bool b, by simp⟩
  | _, _, u, .int i, r => by obtain ⟨t, e⟩ := (show ∃ t, u = Value.int i t from r); cases e; exact ⟨[], .int i t, by simp⟩
  | _, _, u, .str y, r => by obtain ⟨t, e⟩ := (show ∃ t, u = Value.str y t from r); cases e; exact ⟨[], .str y t, by simp⟩
  | _, _, u, .lst (a := a) (xs := xs) h q, r => by
    cases (show u = Value.ref a from r)
    obtain ⟨_, _, its, n, rv, e⟩ := I.hok a _ h
    obtain ⟨as, z, ns⟩ := DaL.reads I S q rv
    refine ⟨a :: as, .list e rfl rfl (by simpa using z), fun hm => ?_⟩
    rcases List.mem_cons.mp hm with hm | hm
    · obtain ⟨o, ho, hc⟩ := S
      have e2 := I.kIn _ _ ho
      rw [hm, e] at e2
      rw [← Option.some.inj e2] at hc
      exact absurd hc (by intro z; injection z with z; exact absurd z (by decide))
    · exact ns hm
  | _, _, u, .tup (a := a) (xs := xs) h q, r => by
    cases (show u = Value.ref a from r)
    obtain ⟨_, its, rv, o, h1, h2, n, h3⟩ := (show ObjOk X.prog X.w H s.heap a (.tup xs) from I.hok a _ h)
    obtain ⟨as, z, ns⟩ := DaL.reads I S q rv
    exact ⟨as, .tuple h1 h2 h3 (by simpa using z), ns⟩
  | _, _, u, .dic (a := a) (es := es) h q, r => by
    cases (show u = Value.ref a from r)
    obtain ⟨hs, hgd, hx, κ, _, knd, e', ep, vs, hdt, hsz, _, pr, o2, es2, h1, h2, h3, _, h5, _⟩ := frzD I h
    obtain ⟨rk, rv⟩ := ents_of pr h5
    obtain ⟨as, bs, z1, z2, n1, n2⟩ := DaE.reads I S q rk rv
    refine ⟨_, .dict h1 h2.1 h3 z1 z2, fun hm => ?_⟩
    rcases List.mem_cons.mp hm with hm | hm
    · exact absurd hm.symm (beq_eq_false_iff_ne.mp hs)
    · rcases List.mem_append.mp hm with hm | hm
      · exact n1 hm
      · exact n2 hm
theorem DaL.reads (I : L2.Inv X pins σ H s) (S : SysD X.K) : ∀ {xs : List V} {ds : List PyData} {us : List Value}, DaL X.prog X.w H xs ds → Vals xs us → ∃ as, ReadsAll s.heap us ds as ∧ sysModules ∉ as
  | _, _, _, .nil, r => by cases r; exact ⟨[], .nil, by simp⟩
  | _, _, _, .cons h q, r => by
    cases r with
    | cons r1 r2 =>
      obtain ⟨as, z1, n1⟩ := Da.reads I S h r1
      obtain ⟨bs, z2, n2⟩ := DaL.reads I S q r2
      exact ⟨as ++ bs, .cons z1 z2, fun hm => by
        rcases List.mem_append.mp hm with hm | hm
        · exact n1 hm
        · exact n2 hm⟩
theorem DaE.reads (I : L2.Inv X pins σ H s) (S : SysD X.K) : ∀ {es : List (V × V)} {ds : List (PyData × PyData)} {ks us : List Value}, DaE X.prog X.w H es ds → Vals (es.map (·.1)) ks → Vals (es.map (·.2)) us →
    ∃ as bs, ReadsAll s.heap ks (ds.map (·.1)) as ∧ ReadsAll s.heap us (ds.map (·.2)) bs ∧ sysModules ∉ as ∧ sysModules ∉ bs
  | _, _, _, _, .nil, r, r' => by
    cases r
    cases r'
    exact ⟨[], [], .nil, .nil, by simp, by simp⟩
  | _, _, _, _, .cons k h q, r, r' => by
    cases r with
    | cons r1 r2 =>
      cases r' with
      | cons s1 s2 =>
        obtain ⟨a1, z1, n1⟩ := Da.reads I S k r1
        obtain ⟨b1, y1, m1⟩ := Da.reads I S h s1
        obtain ⟨a2, b2, z2, y2, n2, m2⟩ := DaE.reads I S q r2 s2
        exact ⟨a1 ++ a2, b1 ++ b2, .cons z1 z2, .cons y1 y2, fun hm => by
          rcases List.mem_append.mp hm with hm | hm
          · exact n1 hm
          · exact n2 hm, fun hm => by
          rcases List.mem_append.mp hm with hm | hm
          · exact m1 hm
          · exact m2 hm⟩
end
def rReprD (P : Program) (w : World) : List V → Hp → VK → Prop := fun xs H Q => ∃ (x : V) (d : PyData), xs = [x] ∧ Da P w H x d ∧ goodB d = true ∧ Q (.str d.shown) H
theorem call_reprD (S : SysD X.K) (hg : X.A.guards = some []) (hu : X.A.units + 50 < cLine) : CallR X (.builtin "repr") (rReprD X.prog X.w) := by
  intro pins s σ H xs us Q I r h
  obtain ⟨x, d, rfl, hd, hgd, q⟩ := h
  cases r with
  | cons r1 r2 =>
    cases r2
    obtain ⟨as, z, ns⟩ := hd.reads I S r1
    obtain ⟨g1, g2⟩ := He.ba hgd
    obtain ⟨g2, g3⟩ := He.ba g2
    have hsz : d.shown.length ≤ sizeLine := big1 (Nat.le_of_ble_eq_true g2)
    have g3' : d.depth ≤ 40 := Nat.le_of_ble_eq_true g3
    cases z with
    | none => exact PySem.P.repr_of_none ⟨.str _, H, I.tok _, ⟨_, by simp only [PyData.shown]; rfl⟩, q⟩
    | bool b => exact PySem.P.repr_of_bool ⟨.str _, H, I.tok _, ⟨_, by simp only [PyData.shown]; rfl⟩, q⟩
    | int i t => exact PySem.P.repr_of_int (by simpa [PyData.showable] using g1) ⟨.str _, H, I.tok _, ⟨_, by simp only [PyData.shown]; rfl⟩, q⟩
    | str y t => exact PySem.P.repr_of_str ⟨.str _, H, I.tok _, ⟨_, by simp only [PyData.shown]; rfl⟩, q⟩ (by simpa only [PyData.shown] using hsz)
    | list h1 h2 h3 h4 => exact repr_of_reads' (.list h1 h2 h3 h4) g1 (fun _ => ns) hg (by omega) (fun _ _ e => e) (fun h' u tk hk => ⟨.str _, H, I.kept (t' := tk) hk, ⟨_, rfl⟩, q⟩) hsz
    | tuple h1 h2 h3 h4 => exact repr_of_reads' (.tuple h1 h2 h3 h4) g1 (fun _ => ns) hg (by omega) (fun _ _ e => e) (fun h' u tk hk => ⟨.str _, H, I.kept (t' := tk) hk, ⟨_, rfl⟩, q⟩) hsz
    | dict h1 h2 h3 h4 h5 => exact repr_of_reads' (.dict h1 h2 h3 h4 h5) g1 (fun _ => ns) hg (by omega) (fun _ _ e => e) (fun h' u tk hk => ⟨.str _, H, I.kept (t' := tk) hk, ⟨_, rfl⟩, q⟩) hsz
theorem kit_da (I : L2.Inv X pins σ H s) {x : V} {d : PyData} {u : Value} (h : Da X.prog X.w H x d) (r : RelV x u) :
    ∃ Q : Heap → Prop, PySem.W.KitX X.K u (.type (tyD d)) Q ∧ Q s.heap ∧ u ≠ .builtin "__main__.__loader__#opaque" := by
  cases h with
  | non => cases (show u = Value.none from r); exact ⟨_, PySem.W.kitx_none, True.intro, fun z => nomatch z⟩
  | bl b => cases (show u = Value.bool b from r); exact ⟨_, PySem.W.kitx_bool, True.intro, fun z => nomatch z⟩
  | int i => obtain ⟨t, e⟩ := (show ∃ t, u = Value.int i t from r); cases e; exact ⟨_, PySem.W.kitx_int, True.intro, fun z => nomatch z⟩
  | str y => obtain ⟨t, e⟩ := (show ∃ t, u = Value.str y t from r); cases e; exact ⟨_, PySem.W.kitx_str, True.intro, fun z => nomatch z⟩
  | @lst a o xs ds h q =>
    cases (show u = Value.ref a from r)
    obtain ⟨_, _, its, n, rv, e⟩ := I.hok a _ h
    exact ⟨_, PySem.W.kitx_list, ⟨_, e, rfl⟩, fun z => nomatch z⟩
  | @tup a xs ds h q =>
    cases (show u = Value.ref a from r)
    obtain ⟨_, its, rv, o, h1, h2, n, h3⟩ := (show ObjOk X.prog X.w H s.heap a (.tup xs) from I.hok a _ h)
    exact ⟨_, PySem.W.kitx_tuple, ⟨o, h1, h2⟩, fun z => nomatch z⟩
  | @dic a o es ds h q =>
    cases (show u = Value.ref a from r)
    obtain ⟨hs, hgd, hx, _⟩ := frzD I h
    exact ⟨_, PySem.W.kitx_dict, ⟨o, hgd, hx.1⟩, fun z => nomatch z⟩
/-- isinstance(x, T), x data, T a built-in class -/
def rIsDa (P : Program) (w : World) : List V → Hp → VK → Prop := fun xs H Q => ∃ (x : V) (T : String) (d : PyData) (b : Bool), xs = [x, .ty T] ∧ Da P w H x d ∧ kitB (tyD d) T = some b ∧ Q (.bl b) H
theorem call_isDa : CallR X (.builtin "isinstance") (rIsDa X.prog X.w) := by
  intro pins s σ H xs us Q I r h
  obtain ⟨x, T, d, b, rfl, hd, e, q⟩ := h
  obtain ⟨u1, u2, rfl, r1, r2⟩ := vals2 r
  have e2 : u2 = .type T := r2
  subst e2
  obtain ⟨Q', Z, p, hx⟩ := kit_da I hd r1
  exact PySem.W.kia_one Z I.kIn p (kit_ty e) hx fun tk => ⟨.bl b, H, I.tok tk, rfl, q⟩
end
end K00
set_option Elab.async false
set_option linter.all false
set_option maxRecDepth 100000
set_option maxHeartbeats 4000000
/-! K00L: walks over locked dicts of data: keys, items; the list of the values. -/
namespace K00
open PySem PySem.Spec PyProof.Rows L2
section
variable (P : Program) (w : World)
def ItkD (d : Addr) (o : Obj) (es : List (V × V)) : It :=
  ⟨fun i H => Dd P w H d o es ∧ i < es.length, fun i H x H' => H' = H ∧ ∃ p, es[i]? = some p ∧ x = p.1, fun i H => Dd P w H d o es ∧ es.length ≤ i⟩
def ItiD (d : Addr) (o : Obj) (es : List (V × V)) : It :=
  ⟨fun i H => Dd P w H d o es ∧ i < es.length, fun i H x H' => ∃ T p, es[i]? = some p ∧ x = .ref T ∧ H T = none ∧ H' = upd H T (.tup [p.1, p.2]), fun i H => Dd P w H d o es ∧ es.length ≤ i⟩
end
section
variable {P : Program} {w : World} {K : PySem.W.Frag} {tg : Expr} {d : Addr} {o : Obj} {es : List (V × V)} {e0 : Array DictEntry} {ep : Nat}
theorem turn_keysD (it : Addr) (hod : o.data = .dict e0 ep) : Turn P w K tg (ItkD P w d o es) [it] it (fun i h => h.IsKeyIter it d i es.length ep) where
  mem := by simp
  obj := fun i h st b hb => by
    have e : b = it := by simpa using hb
    subst e
    obtain ⟨oi, e, c, dd⟩ := st
    exact ⟨oi, e, fun v z => by rw [dd] at z; cases z⟩
  keep := fun i h h' st k => st.at fun oi e => k it (by simp) oi e
  item := by
    intro X hP hw hK hc i pins s σ H E I hf st hg
    subst hP hw hK
    obtain ⟨hd, hi⟩ := hg
    obtain ⟨f0, f1, f2, f3, f4, f5⟩ := hf it (by simp)
    obtain ⟨hs, hgd, hx, κ, _, knd, e', ep', vs, hdt, hsz, _, pr, hm⟩ := frzD I hd
    obtain ⟨rfl, rfl⟩ := dict_ep hod hdt
    obtain ⟨p, hp⟩ : ∃ p, es[i]? = some p := ⟨es[i], List.getElem?_eq_getElem hi⟩
    obtain ⟨⟨k, v⟩, hkv, r1, r2⟩ := L2.paired_get pr hp
    have hl : es.length = vs.length := Paired.length pr
    rw [hl] at st
    refine wpAny_pyNext_dict_item st hm hkv fun key h' hkey st' sb => ?_
    have I1 : L2.Inv X pins σ H { s with heap := h' } := I.turned (t' := s.toks) (fun b ob hb e => (sb.2 b hb).trans e) f0 f1 f3 f4 f5
    obtain ⟨oi, e, c, dd⟩ := id st'
    refine ⟨key, rfl, go_of (s := { s with heap := h' }) e c dd (by decide) ⟨p.1, H, I1, r1 key hkey, ⟨rfl, p, hp, rfl⟩, ?_, fun b hb => (hf b hb).1⟩⟩
    show h'.IsKeyIter it d (i + 1) es.length _
    rw [hl]
    exact st'
  done := by
    intro X hP hw hK hc i pins s σ H E I hf st hg
    subst hP hw hK
    obtain ⟨hd, hi⟩ := hg
    obtain ⟨f0, f1, f2, f3, f4, f5⟩ := hf it (by simp)
    obtain ⟨hs, hgd, hx, κ, _, knd, e', ep', vs, hdt, hsz, _, pr, hm⟩ := frzD I hd
    obtain ⟨rfl, rfl⟩ := dict_ep hod hdt
    exact next_key_end (I.ok.hd hc) st hgd hdt hsz hi fun h' eb => ⟨rfl, I.turned (t' := s.toks) (fun b ob hb e => eb b ob hb e) f0 f1 f3 f4 f5⟩
  self := fun A i s Q E st h => wpAny_pyIter_keyiter st h
theorem turn_itemsD {elts : List Expr} {kk : Nat} {tpos : Pos} (it : Addr) (hod : o.data = .dict e0 ep) :
    Turn P w K (.Tuple elts kk tpos) (ItiD P w d o es) [it] it (fun i h => ∃ ok ov, IsItemIter h it d i es.length ep ok ov) where
  mem := by simp
  obj := fun i h st b hb => by
    have e : b = it := by simpa using hb
    subst e
    obtain ⟨ok, ov, e⟩ := st
    exact ⟨_, e, fun v z => nomatch z⟩
  keep := fun i h h' st k => let ⟨ok, ov, e⟩ := st; ⟨ok, ov, k it (by simp) _ e⟩
  item := by
    intro X hP hw hK hc i pins s σ H E I hf st hg
    subst hP hw hK
    obtain ⟨hd, hi⟩ := hg
    obtain ⟨hs, hgd, hx, κ, _, knd, e', ep', vs, hdt, hsz, _, pr, hm⟩ := frzD I hd
    obtain ⟨rfl, rfl⟩ := dict_ep hod hdt
    obtain ⟨p, hp⟩ : ∃ p, es[i]? = some p := ⟨es[i], List.getElem?_eq_getElem hi⟩
    obtain ⟨⟨k, u⟩, hkv, r1, r2⟩ := L2.paired_get pr hp
    have hl : es.length = vs.length := Paired.length pr
    obtain ⟨ok, ov, he⟩ := st
    rw [hl] at he
    have hlt : it < s.heap.objs.size := Heap.lt_size he
    refine wpAny_pyNext_items_item he hm hkv fun key h' hkey ho hT hz hk => ?_
    refine ⟨_, rfl, wpAny_letOwnedTupleGo_items (s := { s with heap := h' }) ho fun h'' he' sb => ?_⟩
    have hT2 : h''.get? s.heap.objs.size = some { cls := .type "tuple", data := .seq #[key, u] } := (sb.2 _ (Nat.ne_of_gt hlt)).trans hT
    have new : ObjOk X.prog X.w (upd H s.heap.objs.size (.tup [p.1, p.2])) h'' s.heap.objs.size (.tup [p.1, p.2]) :=
      ⟨by show 2 ≤ sizeLine; decide, [key, u], .cons (r1 key hkey) (.cons r2 .nil), ⟨_, hT2, rfl, _, rfl⟩⟩
    have I1 : L2.Inv X pins σ (upd H s.heap.objs.size (.tup [p.1, p.2])) { s with heap := h'' } :=
      I.turnedNew (t' := s.toks) (ch := [it]) (fun b ob hb e => (sb.2 b (by simpa using hb)).trans (hk b ob (by simpa using hb) e)) hf (Nat.le_refl _) new
    refine ⟨.ref s.heap.objs.size, _, I1, rfl, ⟨_, p, hp, rfl, I.hok.fresh (Nat.le_refl _), rfl⟩, ⟨key, u, ?_⟩, fun b hb => ?_⟩
    · rw [hl]; exact he'
    · have e : b = it := by simpa using hb
      rw [e, upd_ne (Nat.ne_of_lt hlt)]
      exact (hf it (by simp)).1
  done := by
    intro X hP hw hK hc i pins s σ H E I hf st hg
    subst hP hw hK
    obtain ⟨hd, hi⟩ := hg
    obtain ⟨f0, f1, f2, f3, f4, f5⟩ := hf it (by simp)
    obtain ⟨hs, hgd, hx, κ, _, knd, e', ep', vs, hdt, hsz, _, pr, hm⟩ := frzD I hd
    obtain ⟨rfl, rfl⟩ := dict_ep hod hdt
    have hl : es.length = vs.length := Paired.length pr
    obtain ⟨ok, ov, he⟩ := st
    rw [hl] at he
    exact wpAny_pyNext_items_end (I.ok.hd hc) he hm (List.getElem?_eq_none (by omega)) fun h' eb => ⟨rfl, I.turned (t' := s.toks) (fun b ob hb e => eb b ob hb e) f0 f1 f3 f4 f5⟩
  self := fun A i s Q E st h => let ⟨_, _, e⟩ := st; PySem.W.kcp_self e h
theorem walk_keysD : Walk (ItkD P w d o es) es.length (fun H => Dd P w H d o es) (YAt (es.map (·.1))) :=
  ⟨fun i _ hi q => ⟨q, hi⟩, fun _ q => ⟨q, Nat.le_refl _⟩, fun i _ x _ _ q y => ⟨y.1, by obtain ⟨p, e1, e2⟩ := y.2; rw [List.getElem?_map, e1, e2]; rfl⟩⟩
theorem walk_itemsD : Walk (ItiD P w d o es) es.length (fun H => Dd P w H d o es) (fun i H x H' => ∃ T p, es[i]? = some p ∧ x = .ref T ∧ H T = none ∧ H' = upd H T (.tup [p.1, p.2])) :=
  ⟨fun i _ hi q => ⟨q, hi⟩, fun _ q => ⟨q, Nat.le_refl _⟩, fun i _ x _ _ q y => y⟩
def iKeysD (P : Program) (w : World) (td : TE) : TI := fun σ H R => td σ H fun x H1 => ∃ d o es, x = .ref d ∧ Dd P w H1 d o es ∧ R (ItkD P w d o es) H1
def iItemsD (P : Program) (w : World) (td : TE) : TI := fun σ H R => td σ H fun x H1 => ∃ d o es, x = .ref d ∧ Dd P w H1 d o es ∧ R (ItiD P w d o es) H1
end
theorem vals_of_pr {κ : Type} {F : V → κ → Prop} : ∀ {es : List (V × V)} {vs : List (κ × Value)}, Paired (fun (p : V × V) (q : κ × Value) => F p.1 q.1 ∧ RelV p.2 q.2) es vs → Vals (es.map (·.2)) (vs.map (·.2))
  | _, _, .nil => .nil
  | _, _, .cons r t => .cons r.2 (vals_of_pr t)
section
variable {X : Cx} {tg e : Expr} {td : TE} {p apos cpos pos : Pos}
theorem pi_keysD (he : PE X e td) : PI X tg e (iKeysD X.prog X.w td) := by
  refine ⟨fun pins s σ H R I h => ?_⟩
  refine thn (he.run pins s σ H _ I h) fun u s1 ⟨x, H1, I1, rx, d, o, es, ex, hd, q⟩ => ?_
  subst ex
  obtain rfl : u = Value.ref d := rx
  obtain ⟨hs, hgd, hx, κ, _, knd, e', ep', vs, hdt, hsz, _, pr, hm⟩ := frzD I1 hd
  refine iter_keys hs hgd hx hdt (pi_one (tk := s1.toks) I1 _ (turn_keysD _ hdt) ⟨_, Heap.get?_push_size _ rfl, rfl, ?_⟩ q)
  rw [hsz] <;> rfl
theorem pi_itemsD {elts : List Expr} {kk : Nat} {tpos : Pos} (he : PE X e td) (hbase : attributeBase e "items" X.env (eval e X.env) = eval e X.env := by rfl) (hline : (apos.endLine == cpos.line) = true := by rfl) :
    PI X (.Tuple elts kk tpos) (.Call (.Attribute e "items" apos) [] [] cpos) (iItemsD X.prog X.w td) := by
  refine ⟨fun pins s σ H R I h => ?_⟩
  refine wpAny_Call_method (T := "dict") (id := "dict.items") hbase rfl hline F.plainAttrs_dict F.slot_dict_items F.type_dict_items (thn (he.run pins s σ H _ I h) fun u s1 ⟨x, H1, I1, rx, d, o, es, ex, hd, q⟩ => ?_)
  subst ex
  obtain rfl : u = Value.ref d := rx
  obtain ⟨hs, hgd, hx, κ, _, knd, e', ep', vs, hdt, hsz, _, pr, hm⟩ := frzD I1 hd
  have hl : es.length = vs.length := Paired.length pr
  refine ⟨hm.dictOf.typeIs, hm.dictOf.mapOf.noDict, ?_⟩
  have I2 : L2.Inv X pins σ H1 { s1 with heap := s1.heap.push { cls := .type "dict_items", data := .fields #[.ref d] } } := I1.kept (t' := s1.toks) fun b ob q => Heap.get?_push_of_some _ q
  have fin : wpAny (model X.prog X.w) X.A (pyIter (.ref s1.heap.objs.size)) (PIE X pins σ (.Tuple elts kk tpos) R) X.xe { s1 with heap := s1.heap.push { cls := .type "dict_items", data := .fields #[.ref d] } } := by
    refine wpAny_pyIter_items (d := d) (knd := knd) ⟨_, Heap.get?_push_size _ rfl, rfl, rfl⟩ (hm.push _) (pi_one (tk := s1.toks) I2 _ (turn_itemsD _ hdt) ⟨.none, .none, ?_⟩ q)
    rw [hl]
    exact Heap.get?_push_size _ rfl
  show wpAny _ _ (callWith cpos (.builtin "dict.items") [.ref d] [] []) _ X.xe s1
  exact method_meetsIn F.slot_dict_items F.entry_dict_items rfl (PySem.evalArgs_none ⟨rfl, hm.dictOf.typeIs, F.args_dict_items_1 _, _, meets_dict_items knd d hs, ⟨vs, hm.dictOf⟩, fin⟩)
/-- list(e.values()), list(e.items()) of a locked dict of data -/
def tListVals (P : Program) (w : World) (te : TE) : TE := fun σ H Q => te σ H fun x H1 => ∃ d o es, x = .ref d ∧ Dd P w H1 d o es ∧ ∀ l, H1 l = none → Q (.ref l) (upd H1 l (.lst (es.map (·.2))))
theorem pe_listVals (hc : X.calm = true) (he : PE X e td) (hg : Gl X "list") (hm : X.mg "list" = none) (hv : bootBuiltins "list" = some (.type "list")) (hbase : attributeBase e "values" X.env (eval e X.env) = eval e X.env := by rfl) (hline : (apos.endLine == cpos.line) = true := by rfl)
    (hs : starEach [.Call (.Attribute e "values" apos) [] [] cpos] X.env = (false, eval (.Call (.Attribute e "values" apos) [] [] cpos) X.env) :: starEach [] X.env := by rfl) :
    PE X (.Call (.Name "list" p) [.Call (.Attribute e "values" apos) [] [] cpos] [] pos) (tListVals X.prog X.w td) := by
  refine ⟨fun pins s σ H Q I hq => ?_⟩
  refine wpAny_Call_Name_kw (ld_blt I hg hm hv ?_)
  refine PyProof.Rows.callWith_type1 ?_ hs rfl
  rw [hs]
  show wpAny _ _ (spliced ((false, eval (.Call (.Attribute e "values" apos) [] [] cpos) X.env) :: backTo pos (starEach [] X.env))) _ _ s
  refine Calls.spliced_cons ?_
  refine wpAny_Call_method (T := "dict") (id := "dict.values") hbase rfl hline F.plainAttrs_dict F.slot_dict_values F.type_dict_values (thn (he.run pins s σ H _ I hq) fun u s1 ⟨x, H1, I1, rx, d, o, es, ex, hd, q⟩ => ?_)
  subst ex
  obtain rfl : u = Value.ref d := rx
  obtain ⟨hs0, hgd, hx, κ, _, knd, e', ep', vs, hdt, hsz, hzz, pr, hat⟩ := frzD I1 hd
  have lk : es.length = vs.length := Paired.length pr
  have I2 : L2.Inv X pins σ H1 { s1 with heap := s1.heap.push { cls := .type "dict_values", data := .fields #[.ref d] } } := I1.kept (t' := s1.toks) fun b ob q => Heap.get?_push_of_some _ q
  refine ⟨hat.dictOf.typeIs, hat.dictOf.mapOf.noDict, ?_⟩
  show wpAny _ _ (callWith cpos (.builtin "dict.values") [.ref d] [] []) _ X.xe s1
  refine method_meetsIn F.slot_dict_values F.entry_dict_values rfl (PySem.evalArgs_none ⟨rfl, hat.dictOf.typeIs, F.args_dict_values_1 _, _, meets_dict_values knd d hs0, ⟨vs, hat.dictOf⟩, ?_⟩)
  refine Calls.spliced_nil ?_
  refine PySem.W.kdl_call (PySem.W.kdl_values (knd := knd) (kvs := vs) (d := d) (ep := ep')) (I1.ok.hd hc) ⟨⟨_, Heap.get?_push_size _ rfl, rfl, rfl⟩, hat.push _⟩ (by omega) fun h' tk acc c hk hS hacc => ?_
  have rv : Vals (es.map (·.2)) acc.toList := by
    have e : acc.toList = vs.map (·.2) := PySem.W.kdl_vals_eq acc.toList (by rw [Array.length_toList]; exact hacc.1) fun j v hj => hacc.2 j v (by simpa using hj)
    rw [e]
    exact vals_of_pr (F := fun p k => ∀ u, knd.is k u = true → RelV p u) pr
  have J : L2.Inv X pins σ (upd H1 _ (.lst (es.map (·.2)))) { { s1 with heap := s1.heap.push { cls := .type "dict_values", data := .fields #[.ref d] } } with heap := h', toks := tk } :=
    I2.laid (t' := tk) hk (Nat.le_refl _) (show ObjOk X.prog X.w _ h' _ (.lst (es.map (·.2))) from ⟨by rw [List.length_map]; exact hzz, acc.toList, c, rv, by rw [Array.toArray_toList]; exact hS⟩)
  exact ⟨.ref _, _, J, rfl, q _ (I2.hok.fresh (Nat.le_refl _))⟩
/-- list(e.items()) -/
def tListItsD (P : Program) (w : World) (te : TE) : TE := fun σ H Q => te σ H fun x H1 => ∃ d o es, x = .ref d ∧ Dd P w H1 d o es ∧
  ∀ (H' : Hp) (p : Addr) (ts : List Addr), Same H1 H' → H1 p = none → (∀ t ∈ ts, H1 t = none) → p ∉ ts → H' p = some (.lst (ts.map V.ref)) → Paired (fun (t : Addr) (q : V × V) => H' t = some (.tup [q.1, q.2])) ts es → Q (.ref p) H'
theorem items_laidD {κ : Type} [DecidableEq κ] {knd : PySem.KeyKind X.prog X.w κ} {pins : List (Addr × Obj)} {σ : L2.St} {H : Hp} {s : Shared} {h' : Heap} {tk : Nat} {es : List (V × V)} {vs : List (κ × Value)} {acc : Array Value} {c : Nat} {as : List Addr} (I : L2.Inv X pins σ H s) (hz : es.length ≤ sizeLine)
    (pr : Paired (fun (p : V × V) (q : κ × Value) => (∀ u, knd.is q.1 u = true → RelV p.1 u) ∧ RelV p.2 q.2) es vs)
    (hk : ∀ b o, s.heap.get? b = some o → h'.get? b = some o) (hS : h'.get? s.heap.objs.size = some { cls := .type "list", dict := none, data := .seq acc c, slots := #[] }) (hl : as.length = vs.length) (hG : PySem.W.KdxG knd vs s.heap.objs.size h' as) (hacc : acc.toList = as.map Value.ref) :
    ∃ H' : Hp, Same H H' ∧ H s.heap.objs.size = none ∧ (∀ t ∈ as, H t = none) ∧ s.heap.objs.size ∉ as ∧ H' s.heap.objs.size = some (.lst (as.map V.ref)) ∧ Paired (fun (t : Addr) (q : V × V) => H' t = some (.tup [q.1, q.2])) as es ∧ L2.Inv X pins σ H' { s with heap := h', toks := tk } := by
  have lk : es.length = vs.length := Paired.length pr
  have hSn : s.heap.objs.size ∉ as := fun z => Nat.lt_irrefl _ (hG.above _ z)
  have nd : as.Nodup := List.Pairwise.imp (fun {a b} (h : a < b) => Nat.ne_of_lt h) hG.rise
  have new : ∀ t ∈ as, H t = none := fun t ht => I.hok.fresh (Nat.le_of_lt (hG.above t ht))
  have newS : H s.heap.objs.size = none := I.hok.fresh (Nat.le_refl _)
  have atP := putP_at as es (upd H s.heap.objs.size (.lst (as.map V.ref))) (by omega) nd
  have off : ∀ b, b ∉ as → b ≠ s.heap.objs.size → putP (upd H s.heap.objs.size (.lst (as.map V.ref))) as es b = H b := fun b h1 h2 => by rw [putP_off as es _ h1, upd_ne h2]
  have low : ∀ b o, s.heap.get? b = some o → b ∉ as ∧ b ≠ s.heap.objs.size := fun b o e => ⟨fun z => absurd (Heap.lt_size e) (Nat.not_lt.mpr (Nat.le_of_lt (hG.above b z))), Nat.ne_of_lt (Heap.lt_size e)⟩
  have kp : ∀ b u, H b = some u → (putP (upd H s.heap.objs.size (.lst (as.map V.ref))) as es) b = some u := fun b u e => by
    rw [off b (fun z => by rw [new b z] at e; cases e) (fun z => by rw [z, newS] at e; cases e)]
    exact e
  have eS : putP (upd H s.heap.objs.size (.lst (as.map V.ref))) as es s.heap.objs.size = some (.lst (as.map V.ref)) := by rw [putP_off as es _ hSn, upd_same]
  refine ⟨putP (upd H s.heap.objs.size (.lst (as.map V.ref))) as es, kp, newS, new, hSn, eS, atP, ?_⟩
  refine I.call' (ch := []) rfl ⟨fun b o q _ _ _ => hk b o q, fun b o q _ _ _ => ⟨o.slots, hk b o q⟩, fun b o q n _ => ?_, fun b o q _ => ⟨o, hk b o q⟩, fun b xs q => kp b _ q, fun b o u q => kp b _ q, fun b ps q => ⟨#[], by rw [kp b _ q]; simp⟩⟩ (fun b u q => ?_) I.bare fun b z => by simp at z
  · obtain ⟨z1, z2⟩ := low b o q
    rw [off b z1 z2]
    exact n
  · by_cases hb : b ∈ as
    · obtain ⟨j, pk, e1, e2, e3⟩ := LiI.paired_ix atP hb
      rw [e3] at q
      cases q
      obtain ⟨key, k, x, f1, f2, f3⟩ := hG.pairs j b e1
      obtain ⟨qv, g1, g2, g3⟩ := L2.paired_get pr e2
      rw [f1] at g1
      cases g1
      exact ⟨by show 2 ≤ sizeLine; decide, [key, x], .cons (g2 key f2) (.cons g3 .nil), ⟨_, f3, rfl, _, rfl⟩⟩
    · by_cases hb2 : b = s.heap.objs.size
      · rw [hb2] at q ⊢
        rw [eS] at q
        cases q
        refine ⟨by rw [List.length_map]; omega, acc.toList, c, by rw [hacc]; exact LiI.vals_refs as, ?_⟩
        rw [Array.toArray_toList]
        exact hS
      · rw [off b hb hb2] at q
        exact (I.hok b u q).stay (fun d v _ y => hk d v y) (fun d y => kp d _ y) fun d xs y => kp d _ y
theorem pe_listItsD (hc : X.calm = true) (he : PE X e td) (hg : Gl X "list") (hm : X.mg "list" = none) (hv : bootBuiltins "list" = some (.type "list")) (hbase : attributeBase e "items" X.env (eval e X.env) = eval e X.env := by rfl) (hline : (apos.endLine == cpos.line) = true := by rfl)
    (hs : starEach [.Call (.Attribute e "items" apos) [] [] cpos] X.env = (false, eval (.Call (.Attribute e "items" apos) [] [] cpos) X.env) :: starEach [] X.env := by rfl) :
    PE X (.Call (.Name "list" p) [.Call (.Attribute e "items" apos) [] [] cpos] [] pos) (tListItsD X.prog X.w td) := by
  refine ⟨fun pins s σ H Q I hq => ?_⟩
  refine wpAny_Call_Name_kw (ld_blt I hg hm hv ?_)
  refine PyProof.Rows.callWith_type1 ?_ hs rfl
  rw [hs]
  show wpAny _ _ (spliced ((false, eval (.Call (.Attribute e "items" apos) [] [] cpos) X.env) :: backTo pos (starEach [] X.env))) _ _ s
  refine Calls.spliced_cons ?_
  refine wpAny_Call_method (T := "dict") (id := "dict.items") hbase rfl hline F.plainAttrs_dict F.slot_dict_items F.type_dict_items (thn (he.run pins s σ H _ I hq) fun u s1 ⟨x, H1, I1, rx, d, o, es, ex, hd, q⟩ => ?_)
  subst ex
  obtain rfl : u = Value.ref d := rx
  obtain ⟨hs0, hgd, hx, κ, _, knd, e', ep', vs, hdt, hsz, hzz, pr, hat⟩ := frzD I1 hd
  have lk : es.length = vs.length := Paired.length pr
  have I2 : L2.Inv X pins σ H1 { s1 with heap := s1.heap.push { cls := .type "dict_items", data := .fields #[.ref d] } } := I1.kept (t' := s1.toks) fun b ob q => Heap.get?_push_of_some _ q
  refine ⟨hat.dictOf.typeIs, hat.dictOf.mapOf.noDict, ?_⟩
  show wpAny _ _ (callWith cpos (.builtin "dict.items") [.ref d] [] []) _ X.xe s1
  refine method_meetsIn F.slot_dict_items F.entry_dict_items rfl (PySem.evalArgs_none ⟨rfl, hat.dictOf.typeIs, F.args_dict_items_1 _, _, meets_dict_items knd d hs0, ⟨vs, hat.dictOf⟩, ?_⟩)
  refine Calls.spliced_nil ?_
  refine PySem.W.kdx_call (knd := knd) (kvs := vs) (ep := ep') (I1.ok.hd hc) ⟨_, Heap.get?_push_size _ rfl, rfl, rfl⟩ (hat.push _) (by omega) fun h' tk acc c as hk hS hl hG hacc => ?_
  obtain ⟨H', k1, k2, k3, k4, k5, k6, J⟩ := items_laidD (tk := tk) I2 hzz pr hk hS hl hG hacc
  exact ⟨.ref _, H', J, rfl, q H' _ as k1 k2 k3 k4 k5 k6⟩
end
/-! ### a thing that was just made is locked for good -/
section
variable {X : Cx} {e : Expr} {t : TE}
def tFz (t : TE) : TE := fun σ H Q => t σ H fun v H' => ∃ d u, v = .ref d ∧ H' d = some u ∧ Mut (some u) ∧ ∀ o, Q v (upd H' d (.frz o u))
theorem pe_fz (h : PE X e t) : PE X e (tFz t) := by
  refine ⟨fun pins s σ H Q I hq => ?_⟩
  refine thn (h.run pins s σ H _ I hq) fun v s1 ⟨x, H1, I1, rx, d, u, ex, hd, mu, q⟩ => ?_
  obtain ⟨od, J⟩ := I1.lock hd mu
  exact ⟨x, _, J, rx, q od⟩
theorem pe_mono {e : Expr} {t t' : TE} (h : PE X e t) (f : ∀ σ H Q, t' σ H Q → t σ H Q) : PE X e t' := ⟨fun pins s σ H Q I q => h.run pins s σ H Q I (f σ H Q q)⟩
theorem pa_mono {es : List Expr} {t t' : TA} (h : PA X es t) (f : ∀ σ H Q, t' σ H Q → t σ H Q) : PA X es t' := ⟨fun pos pins s σ H Q I q => h.run pos pins s σ H Q I (f σ H Q q)⟩
end
end K00
set_option Elab.async false
set_option linter.all false
set_option maxRecDepth 100000
set_option maxHeartbeats 4000000
/-! K00M: a list beside [], a dict beside {}, count of a bool. -/
namespace PySem.SeqAt
open AutoSeq1 (wpAny_loadPart')
open MeetsSeq MeetsSeq2 MeetsSeq3 SeqRoads2
section
variable {prog : Program} {w : World}
theorem k00_list_neIn (l b : Addr) (items items2 : Array Value) (n n2 : Nat) (dd dd2 : Option Addr) (sl sl2 : Array (Option Value)) (h2 : items2.size = 0) :
    MeetsIn prog w (Builtin.«list.__ne__» ⟨[.ref l, .ref b], []⟩)
      (fun A R s => s.heap.get? l = some { cls := .type "list", dict := dd, data := .seq items n, slots := sl } ∧ s.heap.get? b = some { cls := .type "list", dict := dd2, data := .seq items2 n2, slots := sl2 } ∧
        R (.ok (.ret (.bool (items.size != 0)))) s) := by
  intro A R s h
  obtain ⟨hp, g, d, tk, os⟩ := s; obtain ⟨hl, hb, h⟩ := h
  have f3 := AutoSeq1.sub_list_list
  by_cases hz : items.size = 0
  · have hne : ¬ (items.size != items2.size) = true := by simp [hz, h2]
    wp_walk using wpAny_loadPart' hl, wpAny_loadPart' hb
    refine ⟨plainId_quiet plain_eq_loop _, codeAny_builtin entry_eq_loop ?_⟩
    rw [Around.under_plainId plain_eq_loop _]
    wp_walk using wpAny_loadPart' hl, wpAny_loadPart' hb
    have e1 : items[((0 : Int)).toNat]? = none := Array.getElem?_eq_none (Nat.le_of_eq hz)
    have e2 : items2[((0 : Int)).toNat]? = none := Array.getElem?_eq_none (Nat.le_of_eq h2)
    rw [e1, e2]
    wp_walk using wpAny_loadPart' hl, wpAny_loadPart' hb
    show R (.ok (.ret (.bool (items.size != items2.size)))) _
    rw [h2]
    exact h
  · have hne : (items.size != items2.size) = true := by simp [hz, h2]
    wp_walk using wpAny_loadPart' hl, wpAny_loadPart' hb
    have e : (items.size != 0) = true := by simp [hz]
    rw [e] at h
    exact h
theorem k00_ne_nil {A : Around} {E : Value → Shared → Prop} {s : Shared} {l b : Addr} {items items2 : Array Value} {Q : Value → Shared → Prop} (hl : s.heap.IsList l items) (hb : s.heap.IsList b items2) (h2 : items2.size = 0) (hu : A.units < cLine)
    (h : Q (.bool (items.size != 0)) s) : wpAny (model prog w) A (compareOp .NotEq (.ref l) (.ref b)) Q E s := by
  obtain ⟨⟨cls, dd, data, sl⟩, ho, hc, n, hd⟩ := id hl
  obtain ⟨⟨cls2, dd2, data2, sl2⟩, ho2, hc2, n2, hd2⟩ := id hb
  simp only at hc hd hc2 hd2
  subst hc hd hc2 hd2
  have ta : s.TypeIs (.ref l) "list" := ⟨_, ho, rfl⟩
  have tb : s.TypeIs (.ref b) "list" := ⟨_, ho2, rfl⟩
  show wpAny _ _ (richCompare .NotEq (.ref l) (.ref b)) _ _ _
  exact wpAny_richCompare_same_room (op := .NotEq) ta tb F.slot_list_ne (call_meetsIn F.slot_list_ne ta F.entry_list_ne (F.args_list_ne_2 _ _) (k00_list_neIn l b items items2 n n2 dd dd2 sl sl2 h2)
    ⟨ho, ho2, show Value.bool (items.size != 0) ≠ Value.notImplemented ∧ Q (.bool (items.size != 0)) s from ⟨(fun x => nomatch x), h⟩⟩) hu
end
end PySem.SeqAt
namespace PySem.W
section
variable {prog : Program} {w : World} {K : Type} [DecidableEq K] {knd : KeyKind prog w K} {A : Around} {s : Shared}
theorem k00_ne_dicts {a b : Addr} {ka kb : List (K × Value)} {E : Value → Shared → Prop} {Q : Value → Shared → Prop} (ha : (a == sysModules) = false) (hb : (b == sysModules) = false)
    (da : s.heap.DictOf knd a ka) (db : s.heap.DictOf knd b kb) (hkb : kb = []) (hu : A.units < cLine) (h : Q (.bool (!ka.isEmpty)) s) : wpAny (model prog w) A (compareOp .NotEq (.ref a) (.ref b)) Q E s := by
  show wpAny _ _ (richCompare .NotEq (.ref a) (.ref b)) _ _ _
  refine wpAny_richCompare_same_room (op := .NotEq) da.typeIs db.typeIs PySem.F.slot_dict_ne (wpAny_call_entry PySem.F.slot_dict_ne da.typeIs PySem.F.entry_dict_ne ?_ (PySem.F.args_dict_ne_2 _ _)) hu
  show wpAny _ _ (Builtin.Dict.dictSlotArgs "__ne__" ⟨[.ref a, .ref b], []⟩ >>= _) _ _ s
  refine wpAny_bind ?_
  unfold Builtin.Dict.dictSlotArgs
  refine wpAny_bind (wpAny_notOrdered_dict da.typeIs ?_)
  show wpAny _ _ (pure (Value.ref a, Value.ref b)) _ _ s
  refine wpAny_pure ?_
  refine wpAny_bind (wpAny_isInstance (T := "dict") db.typeIs PySem.F.sub_dict_dict ?_)
  simp only [Bool.not_true, Bool.false_eq_true, if_false]
  refine wpAny_bind (wpAny_pure (wpAny_bind (wpAny_pure ?_)))
  subst hkb
  cases ka with
  | nil =>
    refine wpAny_bind (samePairsP (r := true) ha hb da db (fun _ => .nil) ?_)
    refine wpAny_pure ⟨_, rfl, ?_, ?_⟩
    · exact fun x => nomatch x
    · simpa using h
  | cons p r =>
    refine wpAny_bind (samePairsP (r := true) ha hb da db (fun z => by cases z) ?_)
    refine wpAny_pure ⟨_, rfl, ?_, ?_⟩
    · exact fun x => nomatch x
    · simpa using h
end
end PySem.W
namespace K00
open PySem PySem.Spec PyProof.Rows L2
section
variable {X : Cx}
def rNeNil (K : PySem.W.Frag) : R2 := fun x y H Q => ∃ a b xs, x = .ref a ∧ y = .ref b ∧ SqL K H a xs ∧ SqL K H b [] ∧ Q (.bl (!xs.isEmpty)) H
theorem op_neNil (hu : X.A.units < cLine) : OpR X (compareOp .NotEq) (rNeNil X.K) := by
  intro pins s σ H x y v u Q I rx ry h
  obtain ⟨a, b, xs, rfl, rfl, hx, hy, q⟩ := h
  cases rx
  cases ry
  obtain ⟨its, rv, p1, hz1⟩ := I.list hx
  obtain ⟨its2, rv2, p2, hz2⟩ := I.list hy
  have l1 := rv.length
  have l2 := rv2.length
  refine PySem.SeqAt.k00_ne_nil p1.isList p2.isList (by simpa using l2.symm) hu ⟨.bl _, H, I, ?_, q⟩
  show Value.bool _ = Value.bool _
  congr 1
  cases xs with
  | nil => simp at l1; simp [← l1]
  | cons x r => simp at l1; simp [← l1]
def rNeNilD (P : Program) (w : World) : R2 := fun x y H Q => ∃ a b kvs, x = .ref a ∧ y = .ref b ∧ Rd H a (.dK kvs) ∧ Rd H b (.dK []) ∧ Q (.bl (!kvs.isEmpty)) H
theorem op_neNilD (hu : X.A.units < cLine) : OpR X (compareOp .NotEq) (rNeNilD X.prog X.w) := by
  intro pins s σ H x y v u Q I rx ry h
  obtain ⟨a, b, kvs, rfl, rfl, hx, hy, q⟩ := h
  cases rx
  cases ry
  obtain ⟨_, hd, vs, kv, dd⟩ := dk_rd I.hok hx
  obtain ⟨_, hd2, vs2, kv2, dd2⟩ := dk_rd I.hok hy
  have l1 : kvs.length = vs.length := Paired.length kv
  cases kv2
  refine PySem.W.k00_ne_dicts hd hd2 dd dd2 rfl hu ⟨.bl _, H, I, ?_, q⟩
  show Value.bool _ = Value.bool _
  congr 1
  cases kvs with
  | nil => cases vs with
    | nil => rfl
    | cons _ _ => cases l1
  | cons x r => cases vs with
    | nil => cases l1
    | cons _ _ => rfl
end
end K00
set_option Elab.async false
set_option linter.all false
set_option maxRecDepth 100000
set_option maxHeartbeats 4000000
/-! K00O: when two documents are the same: their inks, and what can be told part by part. -/
namespace K00
open PySem PySem.Spec PyProof.Rows
def kS : PyData → Str
  | .str s => s
  | _ => ""
def LeS (a b : Str) : Prop := ltCps b.cps.toList a.cps.toList = false
theorem leS_iff {a b : Str} : LeS a b ↔ a.cps.toList ≤ b.cps.toList := by
  unfold LeS
  rw [ltCps_eq]
  constructor
  · intro h
    exact List.not_lt.mp (of_decide_eq_false h)
  · intro h
    exact decide_eq_false (List.not_lt.mpr h)
theorem str_ext {a b : Str} (h : a.cps.toList = b.cps.toList) : a = b := PyProof.Rows.str_of_list h
theorem leS_trans {a b c : Str} (h : LeS a b) (k : LeS b c) : LeS a c := leS_iff.mpr (List.le_trans (leS_iff.mp h) (leS_iff.mp k))
theorem leS_anti {a b : Str} (h : LeS a b) (k : LeS b a) : a = b := str_ext (List.le_antisymm (leS_iff.mp h) (leS_iff.mp k))
theorem leS_total (a b : Str) : LeS a b ∨ LeS b a := by
  rcases List.le_total a.cps.toList b.cps.toList with h | h
  · exact .inl (leS_iff.mpr h)
  · exact .inr (leS_iff.mpr h)
theorem rising_pair : ∀ (l : List Str) (p : Str), risingS p l = true → (p :: l).Pairwise LeS
  | [], p, _ => List.pairwise_singleton _ _
  | x :: r, p, h => by
    have h' : (!ltCps x.cps.toList p.cps.toList && risingS x r) = true := h
    obtain ⟨h1, h2⟩ := Bool.and_eq_true_iff.mp h'
    have ih := rising_pair r x h2
    have e1 : LeS p x := by
      unfold LeS
      simpa using h1
    refine List.pairwise_cons.mpr ⟨fun y hy => ?_, ih⟩
    rcases List.mem_cons.mp hy with e | hy
    · rw [e]; exact e1
    · exact leS_trans e1 ((List.pairwise_cons.mp ih).1 y hy)
theorem sorted_pair {l : List Str} (h : sortedS l = true) : l.Pairwise LeS := by
  cases l with
  | nil => exact .nil
  | cons x r => exact rising_pair r x h
theorem sorted_same {a b : List Str} (hp : a.Perm b) (ha : a.Pairwise LeS) (hb : b.Pairwise LeS) : a = b := by
  exact hp.eq_of_pairwise (fun x y _ _ h1 h2 => leS_anti h1 h2) ha hb
def ins (p : Str × PyData) : List (Str × PyData) → List (Str × PyData)
  | [] => [p]
  | q :: r => if ltCps q.1.cps.toList p.1.cps.toList = true then q :: ins p r else p :: q :: r
def isort : List (Str × PyData) → List (Str × PyData)
  | [] => []
  | p :: r => ins p (isort r)
theorem ins_perm (p : Str × PyData) : ∀ l, (ins p l).Perm (p :: l)
  | [] => .refl _
  | q :: r => by
    unfold ins
    split
    · exact ((ins_perm p r).cons q).trans (.swap p q r)
    · exact .refl _
theorem isort_perm : ∀ l, (isort l).Perm l
  | [] => .refl _
  | p :: r => (ins_perm p _).trans ((isort_perm r).cons p)
theorem ins_sorted (p : Str × PyData) : ∀ l : List (Str × PyData), l.Pairwise (fun a b => LeS a.1 b.1) → (ins p l).Pairwise (fun a b => LeS a.1 b.1)
  | [], _ => List.pairwise_singleton _ _
  | q :: r, h => by
    have h' := List.pairwise_cons.mp h
    unfold ins
    split
    · rename_i c
      refine List.pairwise_cons.mpr ⟨fun y hy => ?_, ins_sorted p r h'.2⟩
      rcases List.mem_cons.mp ((ins_perm p r).mem_iff.mp hy) with e | hy
      · rw [e]
        rcases leS_total q.1 p.1 with z | z
        · exact z
        · unfold LeS at z
          rw [c] at z
          cases z
      · exact h'.1 y hy
    · rename_i c
      have e1 : LeS p.1 q.1 := by
        unfold LeS
        simpa using c
      refine List.pairwise_cons.mpr ⟨fun y hy => ?_, h⟩
      rcases List.mem_cons.mp hy with e | hy
      · rw [e]; exact e1
      · exact leS_trans e1 (h'.1 y hy)
theorem isort_sorted : ∀ l, (isort l).Pairwise (fun a b => LeS a.1 b.1)
  | [] => .nil
  | p :: r => ins_sorted p _ (isort_sorted r)
def pairT (p : Str × PyData) : PyData := .tuple [.str p.1, p.2]
theorem pairT_inj : ∀ a b : Str × PyData, pairT a = pairT b → a = b := fun a b h => by
  unfold pairT at h
  injection h with h
  injection h with h1 h2
  injection h2 with h2 h3
  injection h1 with h1
  exact Prod.ext h1 h2
mutual
def inkD : PyData → PyData
  | .none => .tuple [.str "word", .str "None"]
  | .bool b => .tuple [.str "word", .str (if b then "True" else "False")]
  | .int i => .tuple [.str "int", .int i]
  | .str s => .tuple [.str "text", .str s]
  | .tuple _ => .none
  | .list xs => .tuple (.str "list" :: inkL xs)
  | .dict ds => .tuple (.str "record" :: (isort (inkK ds)).map pairT)
def inkL : List PyData → List PyData
  | [] => []
  | x :: r => inkD x :: inkL r
def inkK : List (PyData × PyData) → List (Str × PyData)
  | [] => []
  | (k, v) :: r => (kS k, inkD v) :: inkK r
end
theorem inkL_eq : ∀ xs, inkL xs = xs.map inkD
  | [] => rfl
  | x :: r => by rw [inkL, inkL_eq r, List.map_cons]
theorem inkK_eq : ∀ ds, inkK ds = ds.map fun p => (kS p.1, inkD p.2)
  | [] => rfl
  | (k, v) :: r => by rw [inkK, inkK_eq r, List.map_cons]
/-- the value at a key -/
def lookD (ds : List (PyData × PyData)) (k : Str) : PyData := ((ds.find? fun p => decide (kS p.1 = k)).map (·.2)).getD .none
theorem lookD_mem {ds : List (PyData × PyData)} {k : Str} (h : k ∈ ds.map fun p => kS p.1) : ∃ p ∈ ds, kS p.1 = k ∧ lookD ds k = p.2 := by
  unfold lookD
  cases e : ds.find? fun p => decide (kS p.1 = k) with
  | none =>
    obtain ⟨p, hp, hk⟩ := List.mem_map.mp h
    have := List.find?_eq_none.mp e p hp
    simp [hk] at this
  | some p =>
    exact ⟨p, List.mem_of_find?_eq_some e, by simpa using List.find?_some e, rfl⟩
theorem nodup_fn {ds : List (PyData × PyData)} (n : (ds.map fun p => kS p.1).Nodup) {p q : PyData × PyData} (hp : p ∈ ds) (hq : q ∈ ds) (e : kS p.1 = kS q.1) : p = q := by
  induction ds with
  | nil => cases hp
  | cons x r ih =>
    rw [List.map_cons] at n
    obtain ⟨n1, n2⟩ := List.nodup_cons.mp n
    rcases List.mem_cons.mp hp with hp | hp <;> rcases List.mem_cons.mp hq with hq | hq
    · rw [hp, hq]
    · exfalso
      apply n1
      rw [← hp, e]
      exact List.mem_map.mpr ⟨q, hq, rfl⟩
    · exfalso
      apply n1
      rw [← hq, ← e]
      exact List.mem_map.mpr ⟨p, hp, rfl⟩
    · exact ih n2 hp hq
theorem lookD_of {ds : List (PyData × PyData)} (n : (ds.map fun p => kS p.1).Nodup) {p : PyData × PyData} (hp : p ∈ ds) : lookD ds (kS p.1) = p.2 := by
  obtain ⟨q, h1, h2, h3⟩ := lookD_mem (ds := ds) (k := kS p.1) (List.mem_map.mpr ⟨p, hp, rfl⟩)
  rw [h3, nodup_fn n h1 hp h2]
theorem isort_keys (ds : List (PyData × PyData)) : ((isort (inkK ds)).map (·.1)).Perm (ds.map fun p => kS p.1) := by
  have h := (isort_perm (inkK ds)).map (·.1)
  rw [inkK_eq, List.map_map] at h
  rw [inkK_eq]
  exact h
theorem isort_keys_sorted (ds : List (PyData × PyData)) : ((isort (inkK ds)).map (·.1)).Pairwise LeS := by
  rw [List.pairwise_map]
  exact isort_sorted _
/-- the sorted keys with the inks of their values are the record's ink -/
theorem ink_dict {ds : List (PyData × PyData)} {ys : List Str} (n : (ds.map fun p => kS p.1).Nodup) (hp : ys.Perm (ds.map fun p => kS p.1)) (hs : sortedS ys = true) :
    inkD (.dict ds) = .tuple (.str "record" :: ys.map fun k => pairT (k, inkD (lookD ds k))) := by
  have e : (isort (inkK ds)).map (·.1) = ys := sorted_same ((isort_keys ds).trans hp.symm) (isort_keys_sorted ds) (sorted_pair hs)
  rw [inkD, ← e, List.map_map]
  congr 2
  refine List.map_congr_left fun q hq => ?_
  have hq' := (isort_perm (inkK ds)).mem_iff.mp hq
  rw [inkK_eq] at hq'
  obtain ⟨p, hp2, rfl⟩ := List.mem_map.mp hq'
  show pairT (kS p.1, inkD p.2) = pairT (kS p.1, inkD (lookD ds (kS p.1)))
  rw [lookD_of n hp2]
theorem ink_lists {xs ys : List PyData} (h : xs.length = ys.length) : inkD (.list xs) = inkD (.list ys) ↔ ∀ p ∈ xs.zip ys, inkD p.1 = inkD p.2 := by
  rw [inkD, inkD, inkL_eq, inkL_eq]
  constructor
  · intro e p hp
    injection e with e
    injection e with _ e
    obtain ⟨i, hi⟩ := List.mem_iff_getElem?.mp hp
    obtain ⟨a, b⟩ := p
    obtain ⟨h1, h2⟩ := List.getElem?_zip_eq_some.mp hi
    have z := congrArg (fun l => l[i]?) e
    simp only [List.getElem?_map] at z
    rw [show xs[i]? = some a from h1, show ys[i]? = some b from h2] at z
    exact Option.some.inj z
  · intro q
    congr 2
    induction xs generalizing ys with
    | nil => cases ys with
      | nil => rfl
      | cons _ _ => cases h
    | cons x r ih => cases ys with
      | nil => cases h
      | cons y t =>
        rw [List.map_cons, List.map_cons, q (x, y) (by simp), ih (by simpa using h) fun p hp => q p (by simp [hp])]
theorem ink_len {xs ys : List PyData} (h : inkD (.list xs) = inkD (.list ys)) : xs.length = ys.length := by
  rw [inkD, inkD, inkL_eq, inkL_eq] at h
  injection h with e
  injection e with _ e
  simpa using congrArg List.length e
theorem ink_records {ds es : List (PyData × PyData)} {ys zs : List Str} (n : (ds.map fun p => kS p.1).Nodup) (m : (es.map fun p => kS p.1).Nodup) (hy : ys.Perm (ds.map fun p => kS p.1)) (sy : sortedS ys = true)
    (hz : zs.Perm (es.map fun p => kS p.1)) (sz : sortedS zs = true) : inkD (.dict ds) = inkD (.dict es) ↔ ys = zs ∧ ∀ p ∈ ds, inkD p.2 = inkD (lookD es (kS p.1)) := by
  rw [ink_dict n hy sy, ink_dict m hz sz]
  constructor
  · intro e
    injection e with e
    injection e with _ e
    have e1 : ys = zs := by
      have z := congrArg (List.map fun t => match t with | PyData.tuple (PyData.str k :: _) => k | _ => ("" : Str)) e
      simpa [List.map_map, pairT, Function.comp_def] using z
    subst e1
    refine ⟨rfl, fun p hp => ?_⟩
    have hk : kS p.1 ∈ ys := hy.mem_iff.mpr (List.mem_map.mpr ⟨p, hp, rfl⟩)
    obtain ⟨i, hi⟩ := List.mem_iff_getElem?.mp hk
    have z := congrArg (fun l => l[i]?) e
    simp only [List.getElem?_map] at z
    rw [hi] at z
    have z2 := pairT_inj _ _ (Option.some.inj z)
    have z3 : inkD (lookD ds (kS p.1)) = inkD (lookD es (kS p.1)) := congrArg Prod.snd z2
    rw [lookD_of n hp] at z3
    exact z3
  · rintro ⟨rfl, q⟩
    congr 2
    refine List.map_congr_left fun k hk => ?_
    obtain ⟨p, hp, rfl⟩ := List.mem_map.mp (hy.mem_iff.mp hk)
    rw [lookD_of n hp, q p hp]
end K00
set_option Elab.async false
set_option linter.all false
set_option maxRecDepth 100000
set_option maxHeartbeats 4000000
/-! K00P: the program's defs on data: is_name, sort_of, inner_parts, parts_of, is_document. -/
namespace K00
open PySem PySem.Spec L2
open PyProof.Rows (envOfC)
structure Bl (mg : Str → Option Value) : Prop where
  len : mg "len" = none
  isi : mg "isinstance" = none
  all : mg "all" = none
  list : mg "list" = none
  max : mg "max" = none
  min : mg "min" = none
  range : mg "range" = none
  abs : mg "abs" = none
  int : mg "int" = none
  repr : mg "repr" = none
  zip : mg "zip" = none
  bool : mg "bool" = none
  str : mg "str" = none
  dict : mg "dict" = none
  ve : mg "ValueError" = none
  sorted : mg "sorted" = none
  tuple : mg "tuple" = none
  sum : mg "sum" = none
/-- a def of the top's i-th statement at f -/
abbrev FnD (K : PySem.W.Frag) (x : Str) (i : Nat) (f : Addr) (fd : FuncData) : Prop := FunD K x x (defArgs (top i)) (defBody (top i)) (defScope (top i)) [] [] f fd
theorem pt_no {X : Cx} {e : Expr} : PT X e (fun _ _ _ => False) := ⟨fun _ _ _ _ _ _ h => h.elim⟩
theorem pe_no {X : Cx} {e : Expr} : PE X e (fun _ _ _ => False) := ⟨fun _ _ _ _ _ _ h => h.elim⟩
theorem small1000 {n : Nat} (h : n ≤ 1000) : n < sizeLine := Nat.lt_of_le_of_lt h (by decide)
theorem smallM {n : Nat} (h : n ≤ 1000000) : n < sizeLine := Nat.lt_of_le_of_lt h (by decide)
theorem ite_t {c : Bool} {A B : Prop} (hc : c = true) (h : A) : if c = true then A else B := by rw [hc]; exact iteT h
theorem ite_f {c : Bool} {A B : Prop} (hc : c = false) (h : B) : if c = true then A else B := by rw [hc]; exact iteF h
/-! ### small data -/
mutual
def Sm : PyData → Prop
  | .none => True
  | .bool _ => True
  | .int _ => True
  | .str s => s.length ≤ 1000 ∧ PyData.strOk s = true
  | .tuple xs => xs.length ≤ 1000 ∧ SmL xs
  | .list xs => xs.length ≤ 1000 ∧ SmL xs
  | .dict ds => ds.length ≤ 60 ∧ (ds.map fun p => kS p.1).Nodup ∧ SmK ds
def SmL : List PyData → Prop
  | [] => True
  | x :: r => Sm x ∧ SmL r
def SmK : List (PyData × PyData) → Prop
  | [] => True
  | (k, v) :: r => Sm k ∧ Sm v ∧ SmK r
end
theorem smL_iff : ∀ {xs : List PyData}, SmL xs ↔ ∀ x ∈ xs, Sm x
  | [] => by simp [SmL]
  | x :: r => by simp [SmL, smL_iff (xs := r)]
theorem smK_iff : ∀ {xs : List (PyData × PyData)}, SmK xs ↔ ∀ p ∈ xs, Sm p.1 ∧ Sm p.2
  | [] => by simp [SmK]
  | (k, v) :: r => by
    simp only [SmK, smK_iff (xs := r), List.mem_cons]
    constructor
    · rintro ⟨h1, h2, h3⟩ p (rfl | hp)
      · exact ⟨h1, h2⟩
      · exact h3 p hp
    · intro h
      exact ⟨(h _ (.inl rfl)).1, (h _ (.inl rfl)).2, fun p hp => h p (.inr hp)⟩
theorem sm_kids {d : PyData} (h : Sm d) : ∀ x ∈ kids d, Sm x := by
  cases d with
  | list xs => exact smL_iff.mp h.2
  | dict ds =>
    intro x hx
    obtain ⟨p, hp, rfl⟩ := List.mem_map.mp hx
    exact (smK_iff.mp h.2.2 p hp).2
  | _ => intro x hx; cases hx
/-! ### which class -/
def isB : PyData → Bool | .bool _ => true | _ => false
def isI : PyData → Bool | .bool _ => true | .int _ => true | _ => false
def isS : PyData → Bool | .str _ => true | _ => false
def isL : PyData → Bool | .list _ => true | _ => false
def isK : PyData → Bool | .dict _ => true | _ => false
theorem kt_b (d : PyData) : kitB (tyD d) "bool" = some (isB d) := by cases d <;> (dsimp only [tyD, isB, isI, isS, isL, isK]; decide +kernel)
theorem kt_i (d : PyData) : kitB (tyD d) "int" = some (isI d) := by cases d <;> (dsimp only [tyD, isB, isI, isS, isL, isK]; decide +kernel)
theorem kt_s (d : PyData) : kitB (tyD d) "str" = some (isS d) := by cases d <;> (dsimp only [tyD, isB, isI, isS, isL, isK]; decide +kernel)
theorem kt_l (d : PyData) : kitB (tyD d) "list" = some (isL d) := by cases d <;> (dsimp only [tyD, isB, isI, isS, isL, isK]; decide +kernel)
theorem kt_k (d : PyData) : kitB (tyD d) "dict" = some (isK d) := by cases d <;> (dsimp only [tyD, isB, isI, isS, isL, isK]; decide +kernel)
section
variable {P : Program} {w : World} {K : PySem.W.Frag} {mg : Str → Option Value} {base : Heap} {f g g2 : Addr} {fd gd gd2 : FuncData}
/-! ### is_name -/
def spName (P : Program) (w : World) : Sp := fun vs H Q _ => ∃ (x : V) (d : PyData), vs = [x] ∧ Da P w H x d ∧ Sm d ∧ ∀ H', Same H H' → Q (.bl (keyB d)) H'
theorem scName : FnScope ["value", "letter"] ["value"] (defScope (top 7)) := ⟨rfl, rfl, rfl, by decide +kernel, rfl, by decide +kernel, by decide +kernel⟩
theorem ok_name {t1 t2 : Tok} (F : FnD K "is_name" 7 f fd) (B : Bl mg) (gL : mg "LETTERS" = some (.str LET t1)) (gN : mg "LONGEST_NAME" = some (.int 8 t2)) : FnOk P w K mg base CX0 1 f fd ["value"] (spName P w) := by
  refine F.ok scName (fun vs H Q E h => ?_) (fun cdv A outer s H vs Q E hr h => ?_)
  · obtain ⟨x, d, rfl, _⟩ := h
    rfl
  obtain ⟨x, d, rfl, hd, hs, q⟩ := h
  refine ⟨_, PSs.nox (pss_cons (ps_if (PW.pt (pw_or (pt_not (pt_val (pe_callB call_isDa (by rfl) B.isi (by decide +kernel) (pa_cons (pv 0) (pa_cons (pe_bltn (v := .ty "str") (by rfl) B.str (by decide +kernel) rfl) pa_nil)))))
      (pw_or1 (pt_not (pt_chain op_le op_le pe_int (pe_callB call_len_str (by rfl) B.len PySem.boot_len (pa_cons (pv 0) pa_nil)) (pe_glob (v := .int 8) rfl gN ⟨_, rfl⟩))))))
      (pss_one (ps_ret pe_bl)) pss_nil)
    (pss_one (ps_ret (pe_callB (cr_all rfl) (by rfl) B.all (by decide +kernel) (pa_cons
      (pe_lc (own := [("letter", 1)]) (g := gName 1) (tt := tYes) rfl scName.nd (pi_str (pv 0)) (blkOk_by (N := ["value", "letter"]) (sc := defScope (top 7)) (by decide +kernel))
        (fun _ _ _ _ _ => pg_name (i := 1) scName.nd rfl (Or.inl rfl)) (fun _ _ _ _ _ => pts_nil)
        (fun _ _ _ _ _ => pe_cmpR op_in_sign (pv 1) (pe_glob (v := .str LET) rfl gL ⟨_, rfl⟩) (by rfl))) pa_nil))))), ?_⟩
  refine ⟨_, rfl, x, "str", d, _, rfl, hd, kt_s d, _, rfl, ?_⟩
  cases hd with
  | str y =>
    have hy : y.length ≤ 1000 := hs.1
    refine iteF ⟨_, rfl, y, rfl, Nat.le_of_lt (small1000 hy), _, _, rfl, rfl, _, rfl, ?_⟩
    refine ite2 (fun c1 => ⟨_, _, rfl, rfl, _, rfl, ite2 (fun c => ?_) (fun c => ?_)⟩) (fun c1 => ⟨_, rfl, ?_⟩)
    · -- the second bound fails
      have c' : decide ((y.length : Int) ≤ 8) = false := by simpa using c
      have e : keyB (.str y) = false := by
        show nameB y = _
        unfold nameB
        have : decide (y.length ≤ 8) = false := by
          have := of_decide_eq_false c'
          exact decide_eq_false (by omega)
        rw [this]
        simp
      rw [← e]
      exact q H (same_refl H)
    · have c' : decide ((y.length : Int) ≤ 8) = true := by simpa using c
      have b8 : y.length ≤ 8 := by have := of_decide_eq_true c'; omega
      have b1 : 1 ≤ y.length := by have := of_decide_eq_true c1; omega
      refine ⟨_, rfl, y, rfl, fun D hD => ?_⟩
      have hlen : y.cps.size = y.length := rfl
      refine lc_it (walk_str (z := y)) (fun i H2 => Same H H2 ∧ H2 D = some (.lst (((y.cps.toList.take i).map fun c => decide (c ∈ LET.cps.toList)).map V.bl))) ⟨same_new hD _, upd_same⟩ (fun _ _ _ _ => trivial) ?_ ?_
      · rintro i v H2 H2' hi ⟨k2, hD2⟩ ⟨rfl, c, hc, rfl⟩
        refine ⟨rfl, ?_⟩
        simp only [tYes, if_true]
        have hc' : y.cps.toList[i]? = some c := by rw [Array.getElem?_toList]; exact hc
        refine ⟨_, rfl, c, LET, rfl, rfl, _, hD2, ?_, fun b o e => ?_, ?_⟩
        · rw [List.length_map, List.length_map, List.length_take]
          exact small1000 (by omega)
        · have nb : b ≠ D := ne_of_none e hD
          rw [upd_ne nb]
          exact k2 _ _ e
        · rw [upd_same, List.take_add_one, hc']
          simp
      · rintro H2 ⟨k2, hD2⟩
        refine ⟨D, _, rfl, SqL.of hD2, ?_⟩
        have e : keyB (.str y) = (((y.cps.toList.take y.cps.size).map fun c => decide (c ∈ LET.cps.toList)).all id) := by
          show nameB y = _
          unfold nameB
          rw [decide_eq_true b1, decide_eq_true b8]
          simp only [Bool.true_and]
          rw [List.take_of_length_le (by simp), List.all_map]
          congr 1
          funext c
          simp [List.contains_eq_mem]
        rw [← e]
        exact q H2 k2
    · have e : keyB (.str y) = false := by
        show nameB y = _
        unfold nameB
        have : decide (1 ≤ y.length) = false := by
          have c1' : decide (1 ≤ (y.length : Int)) = false := by simpa using c1
          have := of_decide_eq_false c1'
          exact decide_eq_false (by omega)
        rw [this]
        simp
      refine iteT ?_
      rw [← e]
      exact q H (same_refl H)
  | non => exact iteT (q H (same_refl H))
  | bl b => exact iteT (q H (same_refl H))
  | int i => exact iteT (q H (same_refl H))
  | lst h r => exact iteT (q H (same_refl H))
  | tup h r => exact iteT (q H (same_refl H))
  | dic h r => exact iteT (q H (same_refl H))
end
end K00
set_option Elab.async false
set_option linter.all false
set_option maxRecDepth 100000
set_option maxHeartbeats 4000000
namespace K00
open PySem PySem.Spec L2
open PyProof.Rows (envOfC)
def sortV : PyData → V
  | .none => .str "none"
  | .bool _ => .str "bool"
  | .int _ => .str "int"
  | .str _ => .str "text"
  | .list _ => .str "list"
  | .tuple _ => .non
  | .dict ds => if (ds.map fun p => keyB p.1).all id = true then .str "record" else .non
section
variable {P : Program} {w : World} {K : PySem.W.Frag} {mg : Str → Option Value} {base : Heap} {f g g2 : Addr} {fd gd gd2 : FuncData}
/-! ### sort_of -/
def spSort (P : Program) (w : World) : Sp := fun vs H Q _ => ∃ (x : V) (d : PyData), vs = [x] ∧ Da P w H x d ∧ Sm d ∧ ∀ H', Same H H' → Q (sortV d) H'
theorem scSort : FnScope ["value", "key"] ["value"] (defScope (top 8)) := ⟨rfl, rfl, rfl, by decide +kernel, rfl, by decide +kernel, by decide +kernel⟩
theorem ok_sort (F : FnD K "sort_of" 8 f fd) (B : Bl mg) (G : FnOk P w K mg base CX0 1 g gd ["value"] (spName P w)) (bG : Binds K gd ["value"] []) (kG : PySem.W.keepIn K (.ref g) = true) (gG : mg "is_name" = some (.ref g)) :
    FnOk P w K mg base CX0 2 f fd ["value"] (spSort P w) := by
  refine F.ok scSort (fun vs H Q E h => ?_) (fun cdv A outer s H vs Q E hr h => ?_)
  · obtain ⟨x, d, rfl, _⟩ := h
    rfl
  obtain ⟨x, d, rfl, hd, hs, q⟩ := h
  refine ⟨_, PSs.nox (pss_cons (ps_if (pt_cmpR op_isN (pv 0) pe_non (nomark _)) (pss_one (ps_ret pe_str)) pss_nil)
    (pss_cons (ps_if (pt_val (pe_callB call_isDa (by rfl) B.isi (by decide +kernel) (pa_cons (pv 0) (pa_cons (pe_bltn (v := .ty "bool") (by rfl) B.bool (by decide +kernel) rfl) pa_nil)))) (pss_one (ps_ret pe_str)) pss_nil)
    (pss_cons (ps_if (pt_val (pe_callB call_isDa (by rfl) B.isi (by decide +kernel) (pa_cons (pv 0) (pa_cons (pe_bltn (v := .ty "int") (by rfl) B.int (by decide +kernel) rfl) pa_nil)))) (pss_one (ps_ret pe_str)) pss_nil)
    (pss_cons (ps_if (pt_val (pe_callB call_isDa (by rfl) B.isi (by decide +kernel) (pa_cons (pv 0) (pa_cons (pe_bltn (v := .ty "str") (by rfl) B.str (by decide +kernel) rfl) pa_nil)))) (pss_one (ps_ret pe_str)) pss_nil)
    (pss_cons (ps_if (pt_val (pe_callB call_isDa (by rfl) B.isi (by decide +kernel) (pa_cons (pv 0) (pa_cons (pe_bltn (v := .ty "list") (by rfl) B.list (by decide +kernel) rfl) pa_nil)))) (pss_one (ps_ret pe_str)) pss_nil)
    (pss_cons (ps_if (PW.pt (pw_and (pt_val (pe_callB call_isDa (by rfl) B.isi (by decide +kernel) (pa_cons (pv 0) (pa_cons (pe_bltn (v := .ty "dict") (by rfl) B.dict (by decide +kernel) rfl) pa_nil)))) (pw_and1 (pt_val
        (pe_callB (cr_all rfl) (by rfl) B.all (by decide +kernel) (pa_cons
          (pe_lc (own := [("key", 1)]) (g := gName 1) (tt := tYes) rfl scSort.nd (pi_keysD (pv 0)) (blkOk_by (N := ["value", "key"]) (sc := defScope (top 8)) (by decide +kernel))
            (fun _ _ _ _ _ => pg_name (i := 1) scSort.nd rfl (Or.inl rfl)) (fun _ _ _ _ _ => pts_nil)
            (fun _ _ _ _ _ => pe_call G hr rfl gG kG bG .nil pass0 (pa_cons (pv 1) pa_nil))) pa_nil)))))) (pss_one (ps_ret pe_str)) pss_nil)
    (pss_one (ps_ret pe_non)))))))), ?_⟩
  refine ⟨_, rfl, rfl, _, rfl, ?_⟩
  cases hd with
  | non => exact iteT (q H (same_refl H))
  | bl b => exact iteF ⟨_, rfl, _, "bool", _, _, rfl, .bl b, kt_b _, _, rfl, iteT (q H (same_refl H))⟩
  | int i => exact iteF ⟨_, rfl, _, "bool", _, _, rfl, .int i, kt_b _, _, rfl, iteF ⟨_, rfl, _, "int", _, _, rfl, .int i, kt_i _, _, rfl, iteT (q H (same_refl H))⟩⟩
  | str y => exact iteF ⟨_, rfl, _, "bool", _, _, rfl, .str y, kt_b _, _, rfl, iteF ⟨_, rfl, _, "int", _, _, rfl, .str y, kt_i _, _, rfl, iteF ⟨_, rfl, _, "str", _, _, rfl, .str y, kt_s _, _, rfl, iteT (q H (same_refl H))⟩⟩⟩
  | lst h r =>
    exact iteF ⟨_, rfl, _, "bool", _, _, rfl, .lst h r, kt_b _, _, rfl, iteF ⟨_, rfl, _, "int", _, _, rfl, .lst h r, kt_i _, _, rfl, iteF ⟨_, rfl, _, "str", _, _, rfl, .lst h r, kt_s _, _, rfl,
      iteF ⟨_, rfl, _, "list", _, _, rfl, .lst h r, kt_l _, _, rfl, iteT (q H (same_refl H))⟩⟩⟩⟩
  | tup h r =>
    exact iteF ⟨_, rfl, _, "bool", _, _, rfl, .tup h r, kt_b _, _, rfl, iteF ⟨_, rfl, _, "int", _, _, rfl, .tup h r, kt_i _, _, rfl, iteF ⟨_, rfl, _, "str", _, _, rfl, .tup h r, kt_s _, _, rfl,
      iteF ⟨_, rfl, _, "list", _, _, rfl, .tup h r, kt_l _, _, rfl, iteF ⟨_, rfl, _, "dict", _, _, rfl, .tup h r, kt_k _, _, rfl, iteF (iteF (q H (same_refl H)))⟩⟩⟩⟩⟩
  | @dic a o es ds h r =>
    refine iteF ⟨_, rfl, _, "bool", _, _, rfl, .dic h r, kt_b _, _, rfl, iteF ⟨_, rfl, _, "int", _, _, rfl, .dic h r, kt_i _, _, rfl, iteF ⟨_, rfl, _, "str", _, _, rfl, .dic h r, kt_s _, _, rfl,
      iteF ⟨_, rfl, _, "list", _, _, rfl, .dic h r, kt_l _, _, rfl, iteF ⟨_, rfl, _, "dict", _, _, rfl, .dic h r, kt_k _, _, rfl, iteT ?_⟩⟩⟩⟩⟩
    refine ⟨_, rfl, a, o, es, rfl, h, fun D hD => ?_⟩
    have hsm := hs
    obtain ⟨hs1, hs2, hs3⟩ := hsm
    refine lc_it walk_keysD (fun i H2 => Same H H2 ∧ H2 D = some (.lst (((ds.take i).map fun p => keyB p.1).map V.bl))) ⟨same_new hD _, upd_same⟩ (fun _ H2 _ z => h.kp (.same z.1)) ?_ ?_
    · rintro i v H2 H2' hi ⟨k2, hD2⟩ ⟨rfl, hv⟩
      refine ⟨rfl, ?_⟩
      simp only [tYes, if_true]
      rw [List.getElem?_map] at hv
      cases he : es[i]? with
      | none => rw [he] at hv; cases hv
      | some p =>
        rw [he] at hv
        cases hv
        obtain ⟨dd, hdd, hk1, _⟩ := r.get he
        have hm := List.mem_of_getElem? hdd
        refine ⟨_, rfl, p.1, dd.1, rfl, hk1.kp (.same k2), (smK_iff.mp hs3 dd hm).1, fun H3 k3 => ⟨_, k3 _ _ hD2, ?_, fun b o e => ?_, ?_⟩⟩
        · rw [List.length_map, List.length_map, List.length_take]
          exact small1000 (by omega)
        · have nb : b ≠ D := ne_of_none e hD
          rw [upd_ne nb]
          exact k3 _ _ (k2 _ _ e)
        · rw [upd_same, List.take_add_one, hdd]
          simp
    · rintro H2 ⟨k2, hD2⟩
      have hl := r.length
      rw [hl, List.take_length] at hD2
      refine ⟨D, _, rfl, SqL.of hD2, _, rfl, ?_⟩
      have e : sortV (.dict ds) = if (ds.map fun p => keyB p.1).all id = true then .str "record" else .non := rfl
      refine ite2 (fun c => ?_) (fun c => ?_)
      · rw [if_pos c] at e
        rw [← e]
        exact q H2 k2
      · rw [if_neg c] at e
        rw [← e]
        exact q H2 k2
/-! ### inner_parts -/
def spInner (P : Program) (w : World) : Sp := fun vs H Q _ => ∃ (x : V) (d : PyData), vs = [x] ∧ Da P w H x d ∧ Sm d ∧ ∀ l ys, H l = none → DaL P w H ys (kids d) → Q (.ref l) (upd H l (.lst ys))
theorem scInner : FnScope ["value"] ["value"] (defScope (top 9)) := ⟨rfl, rfl, rfl, by decide +kernel, rfl, by decide +kernel, by decide +kernel⟩
theorem ok_inner (F : FnD K "inner_parts" 9 f fd) (B : Bl mg) : FnOk P w K mg base CX0 1 f fd ["value"] (spInner P w) := by
  refine F.ok scInner (fun vs H Q E h => ?_) (fun cdv A outer s H vs Q E hr h => ?_)
  · obtain ⟨x, d, rfl, _⟩ := h
    rfl
  obtain ⟨x, d, rfl, hd, hs, q⟩ := h
  refine ⟨_, PSs.nox (pss_cons (ps_if (pt_val (pe_callB call_isDa (by rfl) B.isi (by decide +kernel) (pa_cons (pv 0) (pa_cons (pe_bltn (v := .ty "list") (by rfl) B.list (by decide +kernel) rfl) pa_nil)))) (pss_one (ps_ret
        (pe_callTy call_list_of (by rfl) B.list (by decide +kernel) (pa_cons (pv 0) pa_nil)))) pss_nil)
    (pss_cons (ps_if (pt_val (pe_callB call_isDa (by rfl) B.isi (by decide +kernel) (pa_cons (pv 0) (pa_cons (pe_bltn (v := .ty "dict") (by rfl) B.dict (by decide +kernel) rfl) pa_nil)))) (pss_one (ps_ret
        (pe_listVals rfl (pv 0) rfl B.list (by decide +kernel)))) pss_nil)
    (pss_one (ps_ret (pe_lst pa_nil))))), ?_⟩
  cases hd with
  | non => exact ⟨_, rfl, _, "list", _, _, rfl, .non, kt_l _, _, rfl, iteF ⟨_, rfl, _, "dict", _, _, rfl, .non, kt_k _, _, rfl, iteF ⟨(by show 0 ≤ sizeLine; decide), fun l hl => q l [] hl .nil⟩⟩⟩
  | bl b => exact ⟨_, rfl, _, "list", _, _, rfl, .bl b, kt_l _, _, rfl, iteF ⟨_, rfl, _, "dict", _, _, rfl, .bl b, kt_k _, _, rfl, iteF ⟨(by show 0 ≤ sizeLine; decide), fun l hl => q l [] hl .nil⟩⟩⟩
  | int i => exact ⟨_, rfl, _, "list", _, _, rfl, .int i, kt_l _, _, rfl, iteF ⟨_, rfl, _, "dict", _, _, rfl, .int i, kt_k _, _, rfl, iteF ⟨(by show 0 ≤ sizeLine; decide), fun l hl => q l [] hl .nil⟩⟩⟩
  | str y => exact ⟨_, rfl, _, "list", _, _, rfl, .str y, kt_l _, _, rfl, iteF ⟨_, rfl, _, "dict", _, _, rfl, .str y, kt_k _, _, rfl, iteF ⟨(by show 0 ≤ sizeLine; decide), fun l hl => q l [] hl .nil⟩⟩⟩
  | tup h r => exact ⟨_, rfl, _, "list", _, _, rfl, .tup h r, kt_l _, _, rfl, iteF ⟨_, rfl, _, "dict", _, _, rfl, .tup h r, kt_k _, _, rfl, iteF ⟨(by show 0 ≤ sizeLine; decide), fun l hl => q l [] hl .nil⟩⟩⟩
  | @lst a o xs ds h r =>
    exact ⟨_, rfl, _, "list", _, _, rfl, .lst h r, kt_l _, _, rfl, iteT ⟨_, rfl, a, xs, rfl, .inl (.inl (.inr ⟨o, h⟩)), fun l hl => q l xs hl r⟩⟩
  | @dic a o es ds h r =>
    exact ⟨_, rfl, _, "list", _, _, rfl, .dic h r, kt_l _, _, rfl, iteF ⟨_, rfl, _, "dict", _, _, rfl, .dic h r, kt_k _, _, rfl, iteT ⟨_, rfl, a, o, es, rfl, h, fun l hl => q l _ hl r.values⟩⟩⟩
/-! ### parts_of -/
def spParts (P : Program) (w : World) : Sp := fun vs H Q _ => ∃ (x : V) (d : PyData), vs = [x] ∧ Da P w H x d ∧ Sm d ∧ cnt d ≤ 1000000 ∧
  ∀ l H' ys ps, Same H H' → H' l = some (.lst ys) → DaL P w H' ys ps → (∀ p ∈ ps, Sm p) → ps.length = cnt d → ps.all sortB = isOne d → Q (.ref l) H'
theorem scParts : FnScope ["value", "parts", "at"] ["value"] (defScope (top 10)) := ⟨rfl, rfl, rfl, by decide +kernel, rfl, by decide +kernel, by decide +kernel⟩
theorem ok_parts (F : FnD K "parts_of" 10 f fd) (B : Bl mg) (G : FnOk P w K mg base CX0 1 g gd ["value"] (spInner P w)) (bG : Binds K gd ["value"] []) (kG : PySem.W.keepIn K (.ref g) = true) (gG : mg "inner_parts" = some (.ref g)) :
    FnOk P w K mg base CX0 2 f fd ["value"] (spParts P w) := by
  refine F.ok scParts (fun vs H Q E h => ?_) (fun cdv A outer s H vs Q E hr h => ?_)
  · obtain ⟨x, d, rfl, _⟩ := h
    rfl
  obtain ⟨x, d, rfl, hd, hs, hc, q⟩ := h
  refine ⟨_, PSs.nox (pss_cons (ps_set (i := 1) scParts.nd rfl (Or.inl rfl) (pe_lst (pa_cons (pv 0) pa_nil)))
    (pss_cons (ps_set (i := 2) scParts.nd rfl (Or.inl rfl) pe_int)
    (pss_cons (ps_while PassesOwn.never (pt_cmpR op_lt (pv 2) (pe_callB call_len_seq (by rfl) B.len PySem.boot_len (pa_cons (pv 1) pa_nil)) (nomark _))
      (pss_cons (ps_expr (pe_bm PySem.F.plainAttrs_list PySem.F.slot_list_extend PySem.F.type_list_extend mt_extend (pv 1)
        (pa_cons (pe_call G hr rfl gG kG bG .nil pass0 (pa_cons (pe_ix ix_list (pv 1) (pv 2) (fun _ _ => rfl)) pa_nil)) pa_nil)))
      (pss_one (ps_aug (i := 2) scParts.nd rfl (Or.inl rfl) pe_int ip_add))))
    (pss_one (ps_ret (pv 1)))))), ?_⟩
  refine ⟨_, rfl, (by show 1 ≤ sizeLine; decide), fun l hl => ?_⟩
  refine ⟨fun m σ H' => ∃ (n : Nat) (ys : List V) (ps : List PyData), m + n = cnt d ∧ σ = [some x, some (.ref l), some (.int n)] ∧ H' l = some (.lst ys) ∧ Same H H' ∧ DaL P w H' ys ps ∧ (∀ p ∈ ps, Sm p) ∧ Wide d n ps,
    ⟨cnt d, 0, [x], [d], rfl, rfl, upd_same, same_new hl _, .cons (hd.kp (.new hl _)) .nil, fun p hp => by rw [List.mem_singleton.mp hp]; exact hs, .start d⟩, ?_⟩
  rintro m σ H' ⟨n, ys, ps, hmn, rfl, hH, k, hD, hS, W⟩
  have hlen := hD.length
  refine ⟨_, rfl, _, rfl, l, _, rfl, .inl (SqL.of hH), _, _, rfl, rfl, _, rfl, ?_⟩
  refine ite2 (fun c => ?_) (fun c => ?_)
  · have c' : (n : Int) < (ys.length : Int) := of_decide_eq_true c
    have hn : n < ys.length := by omega
    have hnp : n < ps.length := by omega
    have hlt := W.lt hnp
    obtain ⟨y, hy⟩ : ∃ y, ys[n]? = some y := ⟨ys[n], List.getElem?_eq_getElem hn⟩
    obtain ⟨p, hp, hyp⟩ := hD.get hy
    have W2 := W.step hp
    have hl2 := W2.len
    refine ⟨fun σ' H'' => ∃ (ys' : List V) (ps' : List PyData), σ' = [some x, some (.ref l), some (.int ((n + 1 : Nat) : Int))] ∧ H'' l = some (.lst ys') ∧ Same H H'' ∧ DaL P w H'' ys' ps' ∧ (∀ p ∈ ps', Sm p) ∧ Wide d (n + 1) ps',
      fun σ' H'' ⟨ys', ps', z⟩ => ⟨m - 1, by omega, n + 1, ys', ps', by omega, z⟩, ?_⟩
    refine ⟨_, rfl, .inl ⟨rfl, _, SqL.of hH⟩, _, rfl, _, rfl, l, _, _, _, rfl, rfl, SqL.of hH, atI_nat hy, ?_⟩
    refine ⟨y, p, rfl, hyp, hS p (List.mem_of_getElem? hp), fun b zs hb hz => ?_⟩
    have nlb : l ≠ b := ne_of_none hH hb
    have hzl := hz.length
    rw [List.length_append] at hl2
    refine ⟨l, b, ys, zs, rfl, rfl, ?_, upd_same, Nat.le_of_lt (smallM (by omega)), ?_⟩
    · rw [upd_ne nlb]
      exact hH
    · have k2 : Kp H' (upd (upd H' b (.lst zs)) l (.lst (ys ++ zs))) := (Kp.new hb _).trans (.lst (by rw [upd_ne nlb]; exact hH) _)
      refine ⟨_, rfl, _, _, rfl, rfl, ys ++ zs, ps ++ kids p, rfl, upd_same, fun c o e => ?_, (hD.kp k2).append (hz.kp k2), fun p' hp' => ?_, W2⟩
      · by_cases ec : c = l
        · rw [ec, hl] at e
          cases e
        · rw [upd_ne ec]
          exact (k.trans (same_new hb _)) c o e
      · rcases List.mem_append.mp hp' with h1 | h1
        · exact hS p' h1
        · exact sm_kids (hS p (List.mem_of_getElem? hp)) p' h1
  · have c' : ¬ (n : Int) < (ys.length : Int) := fun z => c (decide_eq_true z)
    obtain ⟨e1, e2⟩ := W.done (by omega)
    exact ⟨_, rfl, q l H' ys ps k hH hD hS e1 e2⟩
end
end K00
set_option Elab.async false
set_option linter.all false
set_option maxRecDepth 100000
set_option maxHeartbeats 4000000
namespace K00
open PySem PySem.Spec L2
open PyProof.Rows (envOfC)
theorem sortV_non (d : PyData) : (!decide (sortV d = V.non)) = sortB d := by
  cases d with
  | dict ds =>
    have e : sortB (.dict ds) = (ds.map fun p => keyB p.1).all id := by simp [sortB, List.all_map, Function.comp_def]
    rw [e]
    show (!decide ((if (ds.map fun p => keyB p.1).all id = true then V.str "record" else V.non) = V.non)) = _
    by_cases c : (ds.map fun p => keyB p.1).all id = true
    · rw [if_pos c, c]
      simp
    · rw [if_neg c, (Bool.eq_false_iff.mpr c)]
      simp
  | none => simp [sortV, sortB]
  | bool b => simp [sortV, sortB]
  | int i => simp [sortV, sortB]
  | str y => simp [sortV, sortB]
  | list xs => simp [sortV, sortB]
  | tuple xs => simp [sortV, sortB]
theorem keyB_str {k : PyData} (h : keyB k = true) : k = .str (kS k) := by
  cases k with
  | str s => rfl
  | _ => exact nomatch h
theorem isOne_kidsOf {d : PyData} (h : isOne d = true) : ∀ x ∈ kids d, isOne x = true := by
  rw [isOne_kids] at h
  obtain ⟨_, h2⟩ := Bool.and_eq_true_iff.mp h
  exact List.all_eq_true.mp h2
theorem isOne_keys {ds : List (PyData × PyData)} (h : isOne (.dict ds) = true) : ∀ p ∈ ds, keyB p.1 = true := by
  rw [isOne_kids] at h
  obtain ⟨h1, _⟩ := Bool.and_eq_true_iff.mp h
  exact List.all_eq_true.mp h1
section
variable {P : Program} {w : World} {H : Hp}
theorem keys_str : ∀ {kvs : List (Key × V)} {ds : List (PyData × PyData)}, DaE P w H (kvs.map fun p => (kV p.1, p.2)) ds → (∀ p ∈ ds, keyB p.1 = true) → kvs.map (·.1) = (ds.map fun p => kS p.1).map Sum.inr
  | [], _, .nil, _ => rfl
  | (k, v) :: r, _, h, hk => by
    cases h with
    | @cons x y es d e ds k1 h1 r1 =>
      have ih := keys_str r1 fun p hp => hk p (List.mem_cons_of_mem _ hp)
      have z := keyB_str (hk (d, e) List.mem_cons_self)
      have z' : d = .str (kS d) := z
      rw [List.map_cons, List.map_cons, List.map_cons, ih]
      congr 1
      show k = Sum.inr (kS d)
      cases k with
      | inl i =>
        cases k1
        cases z'
      | inr s =>
        cases k1
        rfl
/-- a locked dict of a document: texts are its keys -/
theorem doc_dict {a : Addr} {o : Obj} {es : List (V × V)} {ds : List (PyData × PyData)} (h : Dd P w H a o es) (r : DaE P w H es ds) (hk : ∀ p ∈ ds, keyB p.1 = true) :
    ∃ kvs : List (Key × V), H a = some (.frz o (.dK kvs)) ∧ es = kvs.map (fun p => (kV p.1, p.2)) ∧ kvs.map (·.1) = (ds.map fun p => kS p.1).map Sum.inr := by
  rcases h with ⟨kvs, h1, rfl⟩ | ⟨h1, rfl⟩
  · exact ⟨kvs, h1, rfl, keys_str r hk⟩
  · cases r with
    | cons k1 h2 r2 =>
      cases k1
      have := hk _ List.mem_cons_self
      exact nomatch this
theorem look_val : ∀ {kvs : List (Key × V)} {ds : List (PyData × PyData)} {k : Str}, DaE P w H (kvs.map fun p => (kV p.1, p.2)) ds → kvs.map (·.1) = (ds.map fun p => kS p.1).map Sum.inr → k ∈ (ds.map fun p => kS p.1) →
    ∃ v, valV kvs (Sum.inr k) = some v ∧ Da P w H v (lookD ds k)
  | [], _, _, .nil, _, hk => nomatch hk
  | (c, v) :: r, _, k, h, e, hk => by
    cases h with
    | @cons x y es d f ds k1 h1 r1 =>
      rw [List.map_cons, List.map_cons, List.map_cons] at e
      injection e with e1 e2
      have e1' : c = Sum.inr (kS d) := e1
      by_cases hz : kS d = k
      · refine ⟨v, valV_pos (by rw [e1', hz]), ?_⟩
        have : lookD ((d, f) :: ds) k = f := by simp [lookD, hz]
        rw [this]
        exact h1
      · rw [List.map_cons] at hk
        rcases List.mem_cons.mp hk with hk | hk
        · exact absurd hk.symm hz
        · obtain ⟨u, hu, hd⟩ := look_val r1 e2 hk
          refine ⟨u, ?_, ?_⟩
          · rw [valV_neg (by rw [e1']; exact fun z => hz (Sum.inr.inj z))]
            exact hu
          · have : lookD ((d, f) :: ds) k = lookD ds k := by simp [lookD, hz]
            rw [this]
            exact hd
end
section
variable {P : Program} {w : World} {K : PySem.W.Frag} {mg : Str → Option Value} {base : Heap} {f g g2 : Addr} {fd gd gd2 : FuncData}
/-! ### is_document -/
def spIsDoc (P : Program) (w : World) : Sp := fun vs H Q _ => ∃ (x : V) (d : PyData), vs = [x] ∧ Da P w H x d ∧ Sm d ∧ cnt d ≤ 1000000 ∧ ∀ H', Same H H' → Q (.bl (isOne d)) H'
theorem scIsDoc : FnScope ["value", "part"] ["value"] (defScope (top 11)) := ⟨rfl, rfl, rfl, by decide +kernel, rfl, by decide +kernel, by decide +kernel⟩
theorem ok_isdoc (F : FnD K "is_document" 11 f fd) (B : Bl mg) (GP : FnOk P w K mg base CX0 2 g gd ["value"] (spParts P w)) (bP : Binds K gd ["value"] []) (kP : PySem.W.keepIn K (.ref g) = true) (gP : mg "parts_of" = some (.ref g))
    (GS : FnOk P w K mg base CX0 2 g2 gd2 ["value"] (spSort P w)) (bS : Binds K gd2 ["value"] []) (kS : PySem.W.keepIn K (.ref g2) = true) (gS : mg "sort_of" = some (.ref g2)) : FnOk P w K mg base CX0 3 f fd ["value"] (spIsDoc P w) := by
  refine F.ok scIsDoc (fun vs H Q E h => ?_) (fun cdv A outer s H vs Q E hr h => ?_)
  · obtain ⟨x, d, rfl, _⟩ := h
    rfl
  obtain ⟨x, d, rfl, hd, hs, hc, q⟩ := h
  refine ⟨_, PSs.nox (pss_one (ps_ret (pe_callB (cr_all rfl) (by rfl) B.all (by decide +kernel) (pa_cons
    (pe_lc (own := [("part", 1)]) (g := gName 1) (tt := tYes) rfl scIsDoc.nd (pi_list (pe_call GP hr rfl gP kP bP .nil pass0 (pa_cons (pv 0) pa_nil))) (blkOk_by (N := ["value", "part"]) (sc := defScope (top 11)) (by decide +kernel))
      (fun _ _ _ _ _ => pg_name (i := 1) scIsDoc.nd rfl (Or.inl rfl)) (fun _ _ _ _ _ => pts_nil)
      (fun _ _ _ _ _ => pe_cmpR op_notN (pe_call GS hr rfl gS kS bS .nil pass0 (pa_cons (pv 1) pa_nil)) pe_non (nomark _))) pa_nil)))), ?_⟩
  refine ⟨_, rfl, x, d, rfl, hd, hs, hc, fun l H' ys ps k hl hy hp e1 e2 => ?_⟩
  have hlen := hy.length
  refine ⟨l, rfl, ⟨_, SqL.of hl⟩, fun D hD => ?_⟩
  refine lc_it (walk_list (K := K) (a := l) (xs := ys)) (fun i H2 => Same H' H2 ∧ H2 D = some (.lst (((ps.take i).map sortB).map V.bl))) ⟨same_new hD _, upd_same⟩ (fun _ H2 _ z => SqL.of (z.1 _ _ hl)) ?_ ?_
  · rintro i v H2 H2' hi ⟨k2, hD2⟩ ⟨rfl, hv⟩
    obtain ⟨p, hpi, hvp⟩ := hy.get hv
    refine ⟨rfl, ?_⟩
    simp only [tYes, if_true]
    refine ⟨_, rfl, v, p, rfl, hvp.kp (.same k2), hp p (List.mem_of_getElem? hpi), fun H3 k3 => ⟨rfl, _, k3 _ _ hD2, ?_, fun b o e => ?_, ?_⟩⟩
    · rw [List.length_map, List.length_map, List.length_take]
      exact smallM (by omega)
    · have nb : b ≠ D := ne_of_none e hD
      rw [upd_ne nb]
      exact k3 _ _ (k2 _ _ e)
    · rw [upd_same, List.take_add_one, hpi, sortV_non]
      simp
  · rintro H2 ⟨k2, hD2⟩
    rw [hlen, List.take_length] at hD2
    refine ⟨D, _, rfl, SqL.of hD2, ?_⟩
    have e : (ps.map sortB).all id = isOne d := by rw [← e2, List.all_map]; rfl
    rw [e]
    exact q H2 (k.trans k2)
end
end K00
set_option Elab.async false
set_option linter.all false
set_option maxRecDepth 100000
set_option maxHeartbeats 4000000
namespace K00
open PySem PySem.Spec L2
open PyProof.Rows (envOfC sortedS)
def sortS : PyData → Str
  | .none => "none"
  | .bool _ => "bool"
  | .int _ => "int"
  | .str _ => "text"
  | .list _ => "list"
  | .tuple _ => ""
  | .dict _ => "record"
theorem sortV_doc {d : PyData} (h : isOne d = true) : sortV d = .str (sortS d) := by
  cases d with
  | tuple xs => exact nomatch h
  | dict ds =>
    have hk := isOne_keys h
    have e : (ds.map fun p => keyB p.1).all id = true := by
      rw [List.all_map]
      exact List.all_eq_true.mpr hk
    show (if (ds.map fun p => keyB p.1).all id = true then V.str "record" else V.non) = _
    rw [if_pos e]
    rfl
  | _ => rfl
theorem ink_sort {d e : PyData} (h1 : isOne d = true) (h2 : isOne e = true) (h : inkD d = inkD e) : sortS d = sortS e := by
  have nw : ∀ b : Bool, (Str.ofString "None") ≠ (if b then Str.ofString "True" else Str.ofString "False") := by decide
  cases d <;> cases e <;> first
    | rfl
    | exact (Bool.false_ne_true (show false = true from h1)).elim
    | exact (Bool.false_ne_true (show false = true from h2)).elim
    | (exfalso
       simp only [inkD] at h
       injection h with h
       injection h with ha hb
       injection ha with ha
       exact absurd ha (by decide))
    | (exfalso
       simp only [inkD] at h
       injection h with h
       injection h with ha hb
       injection hb with hb hc
       injection hb with hb
       exact nw _ hb)
    | (exfalso
       simp only [inkD] at h
       injection h with h
       injection h with ha hb
       injection hb with hb hc
       injection hb with hb
       exact nw _ hb.symm)
/-- alike as far as it is told without the inner parts -/
def Alk (d e : PyData) : Prop :=
  (∃ xs ys, d = .list xs ∧ e = .list ys ∧ xs.length = ys.length) ∨
  (∃ ds es, d = .dict ds ∧ e = .dict es ∧ ∃ ys : List Str, ys.Perm (ds.map fun p => kS p.1) ∧ ys.Perm (es.map fun p => kS p.1) ∧ sortedS ys = true) ∨
  (isL d = false ∧ isK d = false ∧ d = e)
def AlikeR (d e : PyData) (b : Bool) : Prop := (b = false → inkD d ≠ inkD e) ∧ (b = true → Alk d e)
theorem dp_strs {K : PySem.W.Frag} {H : Hp} : ∀ ss : List Str, DpAll K H (ss.map V.str) (ss.map PyData.str)
  | [] => .nil
  | b :: r => .cons (.str b) (dp_strs r)
theorem depth_strs : ∀ ss : List Str, PyData.depthAll (ss.map PyData.str) = 0
  | [] => by simp [PyData.depthAll]
  | b :: r => by simp [PyData.depthAll, PyData.depth, depth_strs r]
theorem lay_strs : ∀ ss : List Str, (∀ s ∈ ss, PyData.strOk s = true) → PyData.canLayAll0 (ss.map PyData.str) = true
  | [], _ => by simp [PyData.canLayAll0]
  | b :: r, h => by
    have h1 := h b (by simp)
    have ih := lay_strs r fun s hs => h s (by simp [hs])
    simp [PyData.canLayAll0, PyData.canLay0, ih, h1]
theorem shaped_strs (ss : List Str) (h : ∀ s ∈ ss, PyData.strOk s = true) : SeqAt.shaped (.list (ss.map PyData.str)) = true := by
  have a : PyData.canLay0 (.list (ss.map PyData.str)) = true := by
    simp only [PyData.canLay0]
    exact lay_strs ss h
  have b : PyData.depth (.list (ss.map PyData.str)) ≤ 64 := by
    simp only [PyData.depth, depth_strs]
    omega
  unfold SeqAt.shaped
  rw [a, decide_eq_true b]
  rfl
theorem eqv_strs : ∀ xs ys : List Str, PyData.eqvAll (xs.map PyData.str) (ys.map PyData.str) = decide (xs = ys)
  | [], [] => rfl
  | [], _ :: _ => by simp [PyData.eqvAll]
  | _ :: _, [] => by simp [PyData.eqvAll]
  | x :: r, y :: t => by
    rw [List.map_cons, List.map_cons, PyData.eqvAll, eqv_strs r t, PyData.eqv]
    by_cases h : x = y
    · subst h
      simp
    · simp [h]
end K00
set_option Elab.async false
set_option linter.all false
set_option maxRecDepth 100000
set_option maxHeartbeats 8000000
namespace K00
open PySem PySem.Spec L2
open PyProof.Rows (envOfC sortedS)
theorem decV_str {a b : Str} : (!decide (V.str a = V.str b)) = !decide (a = b) := by
  by_cases h : a = b
  · subst h; simp
  · have : V.str a ≠ V.str b := fun z => h (V.str.inj z)
    simp [h, this]
theorem keys_ok {ds : List (PyData × PyData)} (hk : ∀ p ∈ ds, keyB p.1 = true) (hs : SmK ds) : ∀ s ∈ (ds.map fun p => kS p.1), PyData.strOk s = true := by
  intro s h
  obtain ⟨p, hp, rfl⟩ := List.mem_map.mp h
  have h1 := (smK_iff.mp hs p hp).1
  have e := keyB_str (hk p hp)
  rw [e] at h1
  exact h1.2
section
variable {P : Program} {w : World} {K : PySem.W.Frag} {mg : Str → Option Value} {base : Heap} {f g g2 : Addr} {fd gd gd2 : FuncData}
/-! ### alike -/
def spAlike (P : Program) (w : World) : Sp := fun vs H Q _ => ∃ (x y : V) (d e : PyData), vs = [x, y] ∧ Da P w H x d ∧ Da P w H y e ∧ Sm d ∧ Sm e ∧ isOne d = true ∧ isOne e = true ∧ ∀ b H', Same H H' → AlikeR d e b → Q (.bl b) H'
theorem scAlike : FnScope ["one", "other", "sort"] ["one", "other"] (defScope (top 12)) := ⟨rfl, rfl, rfl, by decide +kernel, rfl, by decide +kernel, by decide +kernel⟩
theorem ok_alike (F : FnD K "alike" 12 f fd) (B : Bl mg) (G : FnOk P w K mg base CX0 2 g gd ["value"] (spSort P w)) (bG : Binds K gd ["value"] []) (kG : PySem.W.keepIn K (.ref g) = true) (gG : mg "sort_of" = some (.ref g)) :
    FnOk P w K mg base CX0 3 f fd ["one", "other"] (spAlike P w) := by
  refine F.ok scAlike (fun vs H Q E h => ?_) (fun cdv A outer s H vs Q E hr h => ?_)
  · obtain ⟨x, y, d, e, rfl, _⟩ := h
    rfl
  obtain ⟨x, y, d, e, rfl, hd, he, sd, se, od, oe, q⟩ := h
  have hu : (A.deeper (envOfC "alike" (defScope (top 12)) s.heap.objs.size f cdv)).units + 64 < cLine := by
    have z := hr.un
    omega
  refine ⟨_, PSs.nox (pss_cons (ps_set (i := 2) scAlike.nd rfl (Or.inl rfl) (pe_call G hr rfl gG kG bG .nil pass0 (pa_cons (pv 0) pa_nil)))
    (pss_cons (ps_if (pt_cmpR op_ne (pv 2) (pe_call G hr rfl gG kG bG .nil pass0 (pa_cons (pv 1) pa_nil)) (nomark _)) (pss_one (ps_ret pe_bl)) pss_nil)
    (pss_cons (ps_if (pt_cmpR op_eq (pv 2) pe_str (nomark _)) (pss_one (ps_ret (pe_cmpR op_eq (pe_callB call_len_seq (by rfl) B.len PySem.boot_len (pa_cons (pv 0) pa_nil)) (pe_callB call_len_seq (by rfl) B.len PySem.boot_len (pa_cons (pv 1) pa_nil)) (nomark _)))) pss_nil)
    (pss_cons (ps_if (pt_cmpR op_eq (pv 2) pe_str (nomark _)) (pss_one (ps_ret (pe_cmpR (op_eqD hu) (pe_callB (call_sortedD rfl) (by rfl) B.sorted (by decide +kernel) (pa_cons (pv 0) pa_nil)) (pe_callB (call_sortedD rfl) (by rfl) B.sorted (by decide +kernel) (pa_cons (pv 1) pa_nil)) (nomark _)))) pss_nil)
    (pss_one (ps_ret (pe_cmpR (op_eqD hu) (pv 0) (pv 1) (nomark _)))))))), ?_⟩
  refine ⟨_, rfl, x, d, rfl, hd, sd, fun H1 k1 => ⟨_, rfl, _, rfl, y, e, rfl, he.kp (.same k1), se, fun H2 k2 => ?_⟩⟩
  rw [sortV_doc od, sortV_doc oe]
  refine ⟨rfl, _, rfl, ?_⟩
  rw [decV_str]
  have k12 : Same H H2 := fun b o z => k2 _ _ (k1 _ _ z)
  have hd2 := hd.kp (.same k12)
  have he2 := he.kp (.same k12)
  by_cases hse : sortS d = sortS e
  · refine ite_f (by simp [hse]) ⟨_, rfl, rfl, _, rfl, ?_⟩
    have flat : ∀ (hdp : Dp K H2 x d) (hep : Dp K H2 y e), SeqAt.shaped d = true → SeqAt.shaped e = true → isL d = false → isK d = false → (PyData.eqv d e = true → d = e) → (PyData.eqv d e = false → inkD d ≠ inkD e) →
        ∃ dd ee, Dp K H2 x dd ∧ Dp K H2 y ee ∧ SeqAt.shaped dd = true ∧ SeqAt.shaped ee = true ∧ Q (.bl (PyData.eqv dd ee)) H2 :=
      fun hdp hep s1 s2 i1 i2 t1 t2 => ⟨d, e, hdp, hep, s1, s2, q _ H2 k12 ⟨t2, fun z => .inr (.inr ⟨i1, i2, t1 z⟩)⟩⟩
    have nst : ∀ {a b : Str}, a ≠ b → decide (V.str a = V.str b) = false := fun h => decide_eq_false fun z => h (V.str.inj z)
    have nl : sortS d = "list" → decide (V.str (sortS d) = V.str "list") = true := fun h => decide_eq_true (by rw [h])
    cases hd2 with
    | non =>
      cases he2 with
      | non => exact ite_f (nst (by simp only [sortS]; decide)) ⟨_, rfl, rfl, _, rfl, ite_f (nst (by simp only [sortS]; decide)) ⟨_, rfl, _, rfl, flat .non .non rfl rfl rfl rfl (fun _ => rfl) (fun z => by cases z)⟩⟩
      | _ => exact absurd hse (by simp only [sortS]; decide)
    | bl b =>
      cases he2 with
      | bl c =>
        refine ite_f (nst (by simp only [sortS]; decide)) ⟨_, rfl, rfl, _, rfl, ite_f (nst (by simp only [sortS]; decide)) ⟨_, rfl, _, rfl, flat (.bl b) (.bl c) rfl rfl rfl rfl (fun z => ?_) (fun z => ?_)⟩⟩
        · rw [show b = c from by simpa [PyData.eqv] using z]
        · have : b ≠ c := by simpa [PyData.eqv] using z
          intro h
          apply this
          simp only [inkD] at h
          injection h with h
          injection h with _ h
          injection h with h _
          injection h with h
          revert h
          cases b <;> cases c <;> decide
      | _ => exact absurd hse (by simp only [sortS]; decide)
    | int i =>
      cases he2 with
      | int j =>
        refine ite_f (nst (by simp only [sortS]; decide)) ⟨_, rfl, rfl, _, rfl, ite_f (nst (by simp only [sortS]; decide)) ⟨_, rfl, _, rfl, flat (.int i) (.int j) rfl rfl rfl rfl (fun z => ?_) (fun z => ?_)⟩⟩
        · rw [show i = j from by simpa [PyData.eqv] using z]
        · have : i ≠ j := by simpa [PyData.eqv] using z
          intro h
          apply this
          simp only [inkD] at h
          injection h with h
          injection h with _ h
          injection h with h _
          injection h with h
      | _ => exact absurd hse (by simp only [sortS]; decide)
    | str a =>
      cases he2 with
      | str b =>
        have sh : ∀ s : Str, Sm (.str s) → SeqAt.shaped (.str s) = true := fun s hs => by
          unfold SeqAt.shaped
          simp [PyData.canLay0, PyData.depth, hs.2]
        refine ite_f (nst (by simp only [sortS]; decide)) ⟨_, rfl, rfl, _, rfl, ite_f (nst (by simp only [sortS]; decide)) ⟨_, rfl, _, rfl, flat (.str a) (.str b) (sh a sd) (sh b se) rfl rfl (fun z => ?_) (fun z => ?_)⟩⟩
        · rw [show a = b from by simpa [PyData.eqv] using z]
        · have : a ≠ b := by simpa [PyData.eqv] using z
          intro h
          apply this
          simp only [inkD] at h
          injection h with h
          injection h with _ h
          injection h with h _
          injection h with h
      | _ => exact absurd hse (by simp only [sortS]; decide)
    | tup h r => exact (Bool.false_ne_true (show false = true from od)).elim
    | @lst a o xs ds h r =>
      cases he2 with
      | @lst b o' ys es h' r' =>
        refine iteT ⟨_, rfl, a, xs, rfl, .inl (.inl (.inr ⟨o, h⟩)), _, rfl, b, ys, rfl, .inl (.inl (.inr ⟨o', h'⟩)), rfl, q _ H2 k12 ?_⟩
        have l1 := r.length
        have l2 := r'.length
        refine ⟨fun z z2 => ?_, fun z => .inl ⟨ds, es, rfl, rfl, ?_⟩⟩
        · have e1 := ink_len z2
          have : (V.int (xs.length : Nat)) = V.int (ys.length : Nat) := by rw [l1, l2, e1]
          exact absurd (decide_eq_true this) (by rw [z]; exact Bool.false_ne_true)
        · have e1 := V.int.inj (of_decide_eq_true z)
          omega
      | _ => exact absurd hse (by simp only [sortS]; decide)
    | @dic a o es ds h r =>
      cases he2 with
      | @dic b o' es' ds' h' r' =>
        have hk := isOne_keys od
        have hk' := isOne_keys oe
        obtain ⟨kvs, hf, rfl, hks⟩ := doc_dict h r hk
        obtain ⟨kvs', hf', rfl, hks'⟩ := doc_dict h' r' hk'
        obtain ⟨s1, s2, s3⟩ := sd
        obtain ⟨s1', s2', s3'⟩ := se
        refine ite_f (nst (by simp only [sortS]; decide)) ⟨_, rfl, rfl, _, rfl, iteT ?_⟩
        refine ⟨_, rfl, a, kvs, _, rfl, .inr ⟨o, hf⟩, hks, by rw [List.length_map]; omega, fun ys p hp1 hs1 hpn => ?_⟩
        refine ⟨_, rfl, b, kvs', _, rfl, .inr ⟨o', (same_new hpn _) _ _ hf'⟩, hks', by rw [List.length_map]; omega, fun zs p' hp2 hs2 hpn' => ?_⟩
        have ok1 : ∀ s ∈ ys, PyData.strOk s = true := fun s hs => keys_ok hk s3 s (hp1.mem_iff.mp hs)
        have ok2 : ∀ s ∈ zs, PyData.strOk s = true := fun s hs => keys_ok hk' s3' s (hp2.mem_iff.mp hs)
        refine ⟨_, _, .lst (SqL.of ((same_new hpn' _) _ _ upd_same)) (dp_strs ys), .lst (SqL.of upd_same) (dp_strs zs), shaped_strs ys ok1, shaped_strs zs ok2, ?_⟩
        have e1 : PyData.eqv (.list (ys.map .str)) (.list (zs.map .str)) = decide (ys = zs) := by rw [PyData.eqv, eqv_strs]
        rw [e1]
        refine q _ _ (k12.trans ((same_new hpn _).trans (same_new hpn' _))) ⟨fun z z2 => ?_, fun z => .inr (.inl ⟨ds, ds', rfl, rfl, ys, hp1, ?_, hs1⟩)⟩
        · exact absurd ((ink_records s2 s2' hp1 hs1 hp2 hs2).mp z2).1 (of_decide_eq_false z)
        · rw [of_decide_eq_true z]
          exact hp2
      | _ => exact absurd hse (by simp only [sortS]; decide)
  · refine ite_t (by simp [hse]) ?_
    exact q false H2 k12 ⟨fun _ h => hse (ink_sort od oe h), fun z => by cases z⟩
end
end K00
set_option Elab.async false
set_option linter.all false
set_option maxRecDepth 100000
set_option maxHeartbeats 8000000
namespace K00
open PySem PySem.Spec L2
open PyProof.Rows (envOfC sortedS)
def PaV (P : Program) (w : World) (H : Hp) (v : V) (p : PyData × PyData) : Prop := ∃ t a b, v = .ref t ∧ H t = some (.tup [a, b]) ∧ Da P w H a p.1 ∧ Da P w H b p.2
def GoodP (p : PyData × PyData) : Prop := Sm p.1 ∧ Sm p.2 ∧ isOne p.1 = true ∧ isOne p.2 = true
section
variable {P : Program} {w : World} {H H' : Hp}
theorem PaV.kp {v : V} {p : PyData × PyData} (h : PaV P w H v p) (k : Kp H H') : PaV P w H' v p := by
  obtain ⟨t, a, b, h1, h2, h3, h4⟩ := h
  exact ⟨t, a, b, h1, k.1 _ _ h2, h3.kp k, h4.kp k⟩
theorem pav_kp {vs : List V} {ps : List (PyData × PyData)} (h : Paired (PaV P w H) vs ps) (k : Kp H H') : Paired (PaV P w H') vs ps := Paired.mapP h fun _ _ z => z.kp k
theorem zip_pav : ∀ {xs ys : List V} {ds es : List PyData} {ts : List Addr}, DaL P w H xs ds → DaL P w H ys es → Paired (fun (t : Addr) (q : V × V) => H t = some (.tup [q.1, q.2])) ts (xs.zip ys) → Paired (PaV P w H) (ts.map V.ref) (ds.zip es)
  | _, _, _, _, ts, .nil, _, h => by
    simp only [List.zip_nil_left] at h ⊢
    cases h
    exact .nil
  | _, _, _, _, ts, .cons _ _, .nil, h => by
    simp only [List.zip_nil_right] at h ⊢
    cases h
    exact .nil
  | _, _, _, _, ts, .cons h1 r1, .cons h2 r2, h => by
    simp only [List.zip_cons_cons] at h ⊢
    cases h with
    | cons z t => exact .cons ⟨_, _, _, rfl, z, h1, h2⟩ (zip_pav r1 r2 t)
end
theorem paired_append {α β : Type} {F : α → β → Prop} : ∀ {xs xs' : List α} {ys ys' : List β}, Paired F xs ys → Paired F xs' ys' → Paired F (xs ++ xs') (ys ++ ys')
  | _, _, _, _, .nil, h => h
  | _, _, _, _, .cons a t, h => .cons a (paired_append t h)
theorem paired_snoc_inv {α β : Type} {F : α → β → Prop} {xs : List α} {ys : List β} (h : Paired F xs ys) (ne : xs ≠ []) : ∃ x y, xs[xs.length - 1]? = some x ∧ ys = ys.dropLast ++ [y] ∧ F x y ∧ Paired F xs.dropLast ys.dropLast := by
  induction h with
  | nil => exact absurd rfl ne
  | @cons a b r t z tl ih =>
    cases tl with
    | nil => exact ⟨a, b, rfl, rfl, z, .nil⟩
    | @cons a' b' r' t' z' tl' =>
      obtain ⟨x, y, e1, e2, e3, e4⟩ := ih (by simp)
      refine ⟨x, y, ?_, ?_, e3, ?_⟩
      · simpa using e1
      · show b :: b' :: t' = (b :: (b' :: t').dropLast) ++ [y]
        rw [List.cons_append, ← e2]
      · exact .cons z e4
section
variable {P : Program} {w : World} {K : PySem.W.Frag} {mg : Str → Option Value} {base : Heap} {f g g2 g3 : Addr} {fd gd gd2 gd3 : FuncData}
/-! ### paired_parts -/
def spPaired (P : Program) (w : World) : Sp := fun vs H Q _ => ∃ (x y : V) (d e : PyData), vs = [x, y] ∧ Da P w H x d ∧ Da P w H y e ∧ Sm d ∧ Sm e ∧ isOne d = true ∧ isOne e = true ∧ Alk d e ∧
  ∀ H' l vs ps, Same H H' → H l = none → H' l = some (.lst vs) → Paired (PaV P w H') vs ps → (∀ p ∈ ps, GoodP p) → (inkD d = inkD e ↔ ∀ p ∈ ps, inkD p.1 = inkD p.2) → (ps.map fun p => cnt p.1).sum + 1 = cnt d → Q (.ref l) H'
theorem scPaired : FnScope ["one", "other", "field"] ["one", "other"] (defScope (top 13)) := ⟨rfl, rfl, rfl, by decide +kernel, rfl, by decide +kernel, by decide +kernel⟩
theorem ok_paired (F : FnD K "paired_parts" 13 f fd) (B : Bl mg) : FnOk P w K mg base CX0 1 f fd ["one", "other"] (spPaired P w) := by
  refine F.ok scPaired (fun vs H Q E h => ?_) (fun cdv A outer s H vs Q E hr h => ?_)
  · obtain ⟨x, y, d, e, rfl, _⟩ := h
    rfl
  obtain ⟨x, y, d, e, rfl, hd, he, sd, se, od, oe, al, q⟩ := h
  have hu := hu_of hr
  refine ⟨_, PSs.nox (pss_cons (ps_if (pt_val (pe_callB call_isDa (by rfl) B.isi (by decide +kernel) (pa_cons (pv 0) (pa_cons (pe_bltn (v := .ty "list") (by rfl) B.list (by decide +kernel) rfl) pa_nil)))) (pss_one (ps_ret
        (pe_listzip rfl rfl B.list (by decide +kernel) rfl B.zip (pa_cons (pv 0) (pa_cons (pv 1) pa_nil))))) pss_nil)
    (pss_cons (ps_if (pt_val (pe_callB call_isDa (by rfl) B.isi (by decide +kernel) (pa_cons (pv 0) (pa_cons (pe_bltn (v := .ty "dict") (by rfl) B.dict (by decide +kernel) rfl) pa_nil)))) (pss_one (ps_ret
        (pe_lc (own := [("field", 2)]) (g := gName 2) (tt := tYes) rfl scPaired.nd (pi_keysD (pv 0)) (blkOk_by (N := ["one", "other", "field"]) (sc := defScope (top 13)) (by decide +kernel))
            (fun _ _ _ _ _ => pg_name (i := 2) scPaired.nd rfl (Or.inl rfl)) (fun _ _ _ _ _ => pts_nil)
            (fun _ _ _ _ _ => pe_tup (pa_cons (pe_dget hu (pv 0) (pv 2) (fun _ _ => rfl)) (pa_cons (pe_dget hu (pv 1) (pv 2) (fun _ _ => rfl)) pa_nil)))))) pss_nil)
    (pss_one (ps_ret (pe_lst pa_nil))))), ?_⟩
  rcases al with ⟨ds, es, rfl, rfl, hlen⟩ | ⟨ds, es, rfl, rfl, ys0, hp1, hp2, hs0⟩ | ⟨n1, n2, rfl⟩
  · have hd0 := hd
    have he0 := he
    cases hd with
    | @lst a o xs ds h r =>
      cases he with
      | @lst b o' ys es h' r' =>
        have l1 := r.length
        have l2 := r'.length
        refine ⟨_, rfl, _, "list", _, _, rfl, hd0, kt_l _, _, rfl, iteT ⟨_, rfl, _, rfl, a, b, xs, ys, rfl, .inl (.inr ⟨o, h⟩), .inl (.inr ⟨o', h'⟩), by omega, fun H' p ts k hp ht hpn hl hpr => ?_⟩⟩
        refine q H' p _ (ds.zip es) k hp hl (zip_pav (r.kp (.same k)) (r'.kp (.same k)) hpr) (fun p hp => ?_) (ink_lists hlen) ?_
        · obtain ⟨a, b⟩ := p
          have hm := List.of_mem_zip hp
          exact ⟨smL_iff.mp sd.2 a hm.1, smL_iff.mp se.2 b hm.2, isOne_kidsOf od a hm.1, isOne_kidsOf oe b hm.2⟩
        · have e1 : (ds.zip es).map (fun p => cnt p.1) = ds.map cnt := by
            show (ds.zip es).map (cnt ∘ Prod.fst) = _
            rw [← List.map_map, List.map_fst_zip (by omega)]
          rw [e1, cnt_kids (.list ds)]
          show (ds.map cnt).sum + 1 = 1 + (ds.map cnt).sum
          omega
  · have hd0 := hd
    have he0 := he
    cases hd with
    | @dic a o es1 ds h r =>
      cases he with
      | @dic b o' es2 es h' r' =>
        have hk := isOne_keys od
        have hk' := isOne_keys oe
        obtain ⟨kvs, hf, rfl, hks⟩ := doc_dict h r hk
        obtain ⟨kvs', hf', rfl, hks'⟩ := doc_dict h' r' hk'
        obtain ⟨s1, s2, s3⟩ := sd
        obtain ⟨s1', s2', s3'⟩ := se
        have hl := r.length
        refine ⟨_, rfl, _, "list", _, _, rfl, hd0, kt_l _, _, rfl, iteF ⟨_, rfl, _, "dict", _, _, rfl, hd0, kt_k _, _, rfl, iteT ⟨_, rfl, a, o, _, rfl, h, fun D hD => ?_⟩⟩⟩
        refine lc_it walk_keysD (fun i H2 => Same H H2 ∧ ∃ vs, H2 D = some (.lst vs) ∧ vs.length = i ∧ Paired (PaV P w H2) vs ((ds.take i).map fun p => (p.2, lookD es (kS p.1)))) ⟨same_new hD _, [], upd_same, rfl, .nil⟩ (fun _ H2 _ z => h.kp (.same z.1)) ?_ ?_
        · rintro i v H2 H2' hi ⟨k2, vs, hD2, hvl, hpr⟩ ⟨rfl, hv⟩
          refine ⟨rfl, ?_⟩
          simp only [tYes, if_true]
          rw [List.getElem?_map] at hv
          cases he : (kvs.map fun p => (kV p.1, p.2))[i]? with
          | none => rw [he] at hv; cases hv
          | some p =>
            rw [he] at hv
            cases hv
            obtain ⟨dd, hdd, hk1, hv1⟩ := r.get he
            have hm := List.mem_of_getElem? hdd
            have ek := keyB_str (hk dd hm)
            have ep : p.1 = V.str (kS dd.1) := by
              have hk1' : Da P w H p.1 dd.1 := hk1
              rw [ek] at hk1'
              generalize p.1 = z at hk1'
              cases hk1'
              rfl
            have hkm : kS dd.1 ∈ ds.map fun p => kS p.1 := List.mem_map.mpr ⟨dd, hm, rfl⟩
            obtain ⟨u1, hu1, hd1⟩ := look_val r hks hkm
            rw [lookD_of s2 hm] at hd1
            have hkm2 : kS dd.1 ∈ es.map fun p => kS p.1 := hp2.mem_iff.mp (hp1.mem_iff.mpr hkm)
            obtain ⟨u2, hu2, hd2⟩ := look_val r' hks' hkm2
            refine ⟨_, rfl, _, rfl, a, u1, rfl, .inl ⟨kvs, Sum.inr (kS dd.1), .inr ⟨o, k2 _ _ hf⟩, ep, hu1.symm⟩, ?_⟩
            refine ⟨_, rfl, _, rfl, b, u2, rfl, .inl ⟨kvs', Sum.inr (kS dd.1), .inr ⟨o', k2 _ _ hf'⟩, ep, hu2.symm⟩, ?_⟩
            refine ⟨(by show 2 ≤ sizeLine; decide), fun t ht => ?_⟩
            have k3 : Same H2' (upd H2' t (.tup [u1, u2])) := same_new ht _
            have ntD : D ≠ t := ne_of_none hD2 ht
            refine ⟨vs, by rw [upd_ne ntD]; exact hD2, small1000 (by rw [List.length_map] at hl; simp only [List.length_map] at hi; omega), fun b' o2 e => ?_, _, upd_same, by simp [hvl], ?_⟩
            · have nb : b' ≠ D := ne_of_none e hD
              rw [upd_ne nb]
              exact k3 _ _ (k2 _ _ e)
            · have k4 : Kp H2' (upd (upd H2' t (.tup [u1, u2])) D (.lst (vs ++ [.ref t]))) := (Kp.same k3).trans (.lst (by rw [upd_ne ntD]; exact hD2) _)
              have kH : Kp H (upd (upd H2' t (.tup [u1, u2])) D (.lst (vs ++ [.ref t]))) := (Kp.same k2).trans k4
              rw [List.take_add_one, hdd]
              simp only [Option.toList_some, List.map_append, List.map_cons, List.map_nil]
              refine paired_append (pav_kp hpr k4) (.cons ⟨t, u1, u2, rfl, ?_, hd1.kp kH, hd2.kp kH⟩ .nil)
              rw [upd_ne (Ne.symm ntD)]
              exact upd_same
        · rintro H2 ⟨k2, vs, hD2, hvl, hpr⟩
          rw [hl, List.take_length] at hpr
          refine q H2 D vs _ k2 hD hD2 hpr (fun p hp => ?_) ?_ ?_
          · obtain ⟨dd, hm, rfl⟩ := List.mem_map.mp hp
            have hkm : kS dd.1 ∈ ds.map fun p => kS p.1 := List.mem_map.mpr ⟨dd, hm, rfl⟩
            obtain ⟨ee, hem, _, hee⟩ := lookD_mem (hp2.mem_iff.mp (hp1.mem_iff.mpr hkm))
            refine ⟨(smK_iff.mp s3 dd hm).2, ?_, isOne_kidsOf od _ (List.mem_map.mpr ⟨dd, hm, rfl⟩), ?_⟩
            · show Sm (lookD es (kS dd.1))
              rw [hee]
              exact (smK_iff.mp s3' ee hem).2
            · show isOne (lookD es (kS dd.1)) = true
              rw [hee]
              exact isOne_kidsOf oe _ (List.mem_map.mpr ⟨ee, hem, rfl⟩)
          · rw [ink_records s2 s2' hp1 hs0 hp2 hs0]
            constructor
            · rintro ⟨_, z⟩ p hp
              obtain ⟨dd, hm, rfl⟩ := List.mem_map.mp hp
              exact z dd hm
            · intro z
              exact ⟨rfl, fun p hp => z _ (List.mem_map.mpr ⟨p, hp, rfl⟩)⟩
          · rw [List.map_map, cnt_kids (.dict ds)]
            show (ds.map fun p => cnt p.2).sum + 1 = 1 + ((ds.map (·.2)).map cnt).sum
            rw [List.map_map]
            show (ds.map fun p => cnt p.2).sum + 1 = 1 + (ds.map fun p => cnt p.2).sum
            omega
  · refine ⟨_, rfl, _, "list", _, _, rfl, hd, kt_l _, _, rfl, ite_f n1 ⟨_, rfl, _, "dict", _, _, rfl, hd, kt_k _, _, rfl, ite_f n2 ⟨(by show 0 ≤ sizeLine; decide), fun l hl => ?_⟩⟩⟩
    refine q _ l [] [] (same_new hl _) hl upd_same .nil (fun _ h => nomatch h) ⟨fun _ _ h => (nomatch h), fun _ => rfl⟩ ?_
    have : kids d = [] := by cases d <;> first | rfl | exact (Bool.false_ne_true n1.symm).elim | exact (Bool.false_ne_true n2.symm).elim
    rw [cnt_kids, this]
    rfl
end
end K00
set_option Elab.async false
set_option linter.all false
set_option maxRecDepth 100000
set_option maxHeartbeats 8000000
namespace K00
open PySem PySem.Spec L2
open PyProof.Rows (envOfC sortedS)
def sumC (ps : List (PyData × PyData)) : Nat := (ps.map fun p => cnt p.1).sum
theorem sumC_app (a b : List (PyData × PyData)) : sumC (a ++ b) = sumC a + sumC b := by unfold sumC; rw [List.map_append, List.sum_append]
theorem len_sumC : ∀ ps : List (PyData × PyData), ps.length ≤ sumC ps
  | [] => Nat.le_refl _
  | p :: r => by
    have h1 := len_sumC r
    have h2 := cnt_pos p.1
    unfold sumC at *
    rw [List.map_cons, List.sum_cons, List.length_cons]
    omega
section
variable {P : Program} {w : World} {K : PySem.W.Frag} {mg : Str → Option Value} {base : Heap} {f g g2 g3 : Addr} {fd gd gd2 gd3 : FuncData}
def spSame (P : Program) (w : World) (C : Addr) : Sp := fun vs H Q E => ∃ (x y : V) (d e : PyData), vs = [x, y] ∧ Da P w H x d ∧ Da P w H y e ∧ Sm d ∧ Sm e ∧ cnt d ≤ 500000 ∧ cnt e ≤ 500000 ∧
  (isOne d = false → ∀ dd H', Same H H' → H' dd = some (.xd [(("value" : Str), x)]) → E (.ref C) (some dd) H') ∧
  (isOne d = true → isOne e = false → ∀ dd H', Same H H' → H' dd = some (.xd [(("value" : Str), y)]) → E (.ref C) (some dd) H') ∧
  (isOne d = true → isOne e = true → ∀ b H', Same H H' → (b = true ↔ inkD d = inkD e) → Q (.bl b) H')
theorem scSame : FnScope ["one", "other", "pairs", "left", "right"] ["one", "other"] (defScope (top 14)) := ⟨rfl, rfl, rfl, by decide +kernel, rfl, by decide +kernel, by decide +kernel⟩
theorem ok_same {C fI : Addr} (F : FnD K "same" 14 f fd) (B : Bl mg) (GD : FnOk P w K mg base CX0 3 g gd ["value"] (spIsDoc P w)) (bD : Binds K gd ["value"] []) (kD : PySem.W.keepIn K (.ref g) = true) (gD : mg "is_document" = some (.ref g))
    (GA : FnOk P w K mg base CX0 3 g2 gd2 ["one", "other"] (spAlike P w)) (bA : Binds K gd2 ["one", "other"] []) (kA : PySem.W.keepIn K (.ref g2) = true) (gA : mg "alike" = some (.ref g2))
    (GP : FnOk P w K mg base CX0 1 g3 gd3 ["one", "other"] (spPaired P w)) (bP : Binds K gd3 ["one", "other"] []) (kP : PySem.W.keepIn K (.ref g3) = true) (gP : mg "paired_parts" = some (.ref g3))
    (T : ErrT K C fI) (T0 : InitT K fI) (gC : mg "NoDocument" = some (.ref C)) : FnOk P w K mg base (L2.CX P w) 4 f fd ["one", "other"] (spSame P w C) := by
  refine F.ok scSame (fun vs H Q E h => ?_) (fun cdv A outer s H vs Q E hr h => ?_)
  · obtain ⟨x, y, d, e, rfl, _⟩ := h
    rfl
  obtain ⟨x, y, d, e, rfl, hd, he, sd, se, cd, ce, q1, q2, q3⟩ := h
  have hr1 : Room 1 _ := hr.mono (by decide)
  refine ⟨_, pss_cons (ps_if (pt_not (pt_val (pe_call GD hr rfl gD kD bD .nil pass0 (pa_cons (pv 0) pa_nil)))) (pss_one (ps_raise rfl (takes_of rfl rfl rfl rfl) (pmk_err T T0 gC hr (pa_cons (pv 0) pa_nil)))) pss_nil)
    (pss_cons (ps_if (pt_not (pt_val (pe_call GD hr rfl gD kD bD .nil pass0 (pa_cons (pv 1) pa_nil)))) (pss_one (ps_raise rfl (takes_of rfl rfl rfl rfl) (pmk_err T T0 gC hr (pa_cons (pv 1) pa_nil)))) pss_nil)
    (PSs.nox (pss_cons (ps_set (i := 2) scSame.nd rfl (Or.inl rfl) (pe_lst (pa_cons (pe_tup (pa_cons (pv 0) (pa_cons (pv 1) pa_nil))) pa_nil)))
    (pss_cons (ps_while PassesOwn.never (pt_truth (pv 2) (by intro _; rfl))
      (pss_cons (ps_asg (pe_bm0 PySem.F.plainAttrs_list PySem.F.slot_list_pop PySem.F.type_list_pop mt_pop (pv 2)) (pg_tup (by rfl) (pgs_cons (pg_name (i := 3) scSame.nd rfl (Or.inl rfl)) (pgs_cons (pg_name (i := 4) scSame.nd rfl (Or.inl rfl)) pgs_nil))))
      (pss_cons (ps_if (pt_not (pt_val (pe_call GA hr rfl gA kA bA .nil pass0 (pa_cons (pv 3) (pa_cons (pv 4) pa_nil))))) (pss_one (ps_ret pe_bl)) pss_nil)
      (pss_one (ps_expr (pe_bm PySem.F.plainAttrs_list PySem.F.slot_list_extend PySem.F.type_list_extend mt_extend (pv 2)
        (pa_cons (pe_call GP hr1 rfl gP kP bP .nil pass0 (pa_cons (pv 3) (pa_cons (pv 4) pa_nil))) pa_nil)))))))
    (pss_one (ps_ret pe_bl)))))), ?_⟩
  refine ⟨_, rfl, x, d, rfl, hd, sd, by omega, fun H1 k1 => ⟨_, rfl, ?_⟩⟩
  cases od : isOne d with
  | false => exact iteT ⟨_, rfl, _, rfl, fun dd hdd => q1 od dd _ (k1.trans (same_new hdd _)) upd_same⟩
  | true =>
  refine iteF ⟨_, rfl, y, e, rfl, he.kp (.same k1), se, by omega, fun H2 k2 => ⟨_, rfl, ?_⟩⟩
  have k12 : Same H H2 := k1.trans k2
  cases oe : isOne e with
  | false => exact iteT ⟨_, rfl, _, rfl, fun dd hdd => q2 od oe dd _ (k12.trans (same_new hdd _)) upd_same⟩
  | true =>
  refine iteF ⟨_, rfl, _, rfl, (by show 2 ≤ sizeLine; decide), fun t ht => ⟨(by show 1 ≤ sizeLine; decide), fun l hl => ?_⟩⟩
  have k3 : Same H2 (upd H2 t (.tup [x, y])) := same_new ht _
  have k4 : Same (upd H2 t (.tup [x, y])) (upd (upd H2 t (.tup [x, y])) l (.lst [.ref t])) := same_new hl _
  have k0 : Same H (upd (upd H2 t (.tup [x, y])) l (.lst [.ref t])) := k12.trans (k3.trans k4)
  have hlH : H l = none := by
    cases z : H l with
    | none => rfl
    | some o => rw [(k12.trans k3) _ _ z] at hl; cases hl
  refine ⟨fun m σ H' => ∃ (lv rv : Option V) (vs : List V) (ps : List (PyData × PyData)), σ = [some x, some y, some (.ref l), lv, rv] ∧ Same H H' ∧ H' l = some (.lst vs) ∧ Paired (PaV P w H') vs ps ∧ (∀ p ∈ ps, GoodP p) ∧ (inkD d = inkD e ↔ ∀ p ∈ ps, inkD p.1 = inkD p.2) ∧ m = sumC ps ∧ m ≤ cnt d,
    ⟨sumC [(d, e)], none, none, [.ref t], [(d, e)], rfl, k0, upd_same, .cons ⟨t, x, y, rfl, k4 _ _ upd_same, hd.kp (.same k0), he.kp (.same k0)⟩ .nil, fun p hp => by rw [List.mem_singleton.mp hp]; exact ⟨sd, se, od, oe⟩, by simp, rfl, by simp [sumC]⟩, ?_⟩
  rintro m σ H' ⟨lv, rv, vs, ps, rfl, k, hH, hpr, hgd, hiff, rfl, hm⟩
  have hlen : vs.length = ps.length := Paired.length hpr
  refine ⟨_, rfl, _, .inl ⟨vs, SqL.of hH, rfl⟩, ?_⟩
  cases hv : vs with
  | nil =>
    rw [hv] at hpr
    cases hpr
    exact iteF (q3 od oe true H' k ⟨fun _ => hiff.mpr (fun _ h => nomatch h), fun _ => rfl⟩)
  | cons v0 vr =>
    rw [← hv]
    have ne : vs ≠ [] := by rw [hv]; simp
    obtain ⟨v, p, e1, e2, ⟨t', a, b, rfl, ht', ha, hb⟩, e4⟩ := paired_snoc_inv hpr ne
    have hpm : p ∈ ps := by rw [e2]; simp
    obtain ⟨gs1, gs2, go1, go2⟩ := hgd p hpm
    have hsum : sumC ps = sumC ps.dropLast + cnt p.1 := by
      have : sumC ps = sumC (ps.dropLast ++ [p]) := by rw [← e2]
      rw [this, sumC_app]
      simp [sumC]
    have hcp := cnt_pos p.1
    have kd : Kp H' (upd H' l (.lst vs.dropLast)) := .lst hH _
    have kSd : Same H (upd H' l (.lst vs.dropLast)) := fun b' o z => by
      rw [upd_ne (ne_of_none z hlH)]
      exact k _ _ z
    refine ite_t (by rw [hv]; rfl) ⟨fun σ' H'' => ∃ (lv rv : Option V) (vs : List V) (ps' : List (PyData × PyData)), σ' = [some x, some y, some (.ref l), lv, rv] ∧ Same H H'' ∧ H'' l = some (.lst vs) ∧ Paired (PaV P w H'') vs ps' ∧ (∀ p ∈ ps', GoodP p) ∧ (inkD d = inkD e ↔ ∀ p ∈ ps', inkD p.1 = inkD p.2) ∧ sumC ps' < sumC ps,
      fun σ' H'' ⟨lv, rv, vs', ps', z1, z2, z3, z4, z5, z6, z7⟩ => ⟨sumC ps', z7, lv, rv, vs', ps', z1, z2, z3, z4, z5, z6, rfl, by omega⟩, ?_⟩
    refine ⟨_, rfl, .inl ⟨rfl, _, SqL.of hH⟩, l, vs, _, rfl, rfl, hH, e1, ?_⟩
    refine ⟨t', [a, b], rfl, SqT.of (kd.1 _ _ ht'), rfl, a, [b], rfl, b, [], rfl, rfl, ?_⟩
    refine ⟨_, rfl, _, rfl, a, b, p.1, p.2, rfl, ha.kp kd, hb.kp kd, gs1, gs2, go1, go2, fun bb H3 k3' hal => ⟨_, rfl, ?_⟩⟩
    cases bb with
    | false =>
      refine iteT (q3 od oe false H3 (kSd.trans k3') ⟨fun z => (nomatch z), fun z => ?_⟩)
      exact absurd (hiff.mp z p hpm) (hal.1 rfl)
    | true =>
      have kd3 : Kp H' H3 := kd.trans (.same k3')
      refine iteF ⟨_, rfl, .inl ⟨rfl, _, SqL.of (k3' _ _ upd_same)⟩, _, rfl, _, rfl, a, b, p.1, p.2, rfl, ha.kp kd3, hb.kp kd3, gs1, gs2, go1, go2, hal.2 rfl, fun H4 l' zs qs k4' hl' hH4 hpr4 hgd4 hiff4 hsum4 => ?_⟩
      have hl4 : H4 l = some (.lst vs.dropLast) := k4' _ _ (k3' _ _ upd_same)
      have kd4 : Kp H' H4 := kd3.trans (.same k4')
      have kl : Kp H4 (upd H4 l (.lst (vs.dropLast ++ zs))) := .lst hl4 _
      have h1 := len_sumC ps.dropLast
      have h2 := len_sumC qs
      have hq : sumC qs + 1 = cnt p.1 := hsum4
      have l4 : vs.dropLast.length = ps.dropLast.length := Paired.length e4
      have l5 : zs.length = qs.length := Paired.length hpr4
      refine ⟨l, l', vs.dropLast, zs, rfl, rfl, hl4, hH4, Nat.le_of_lt (smallM (by omega)), ?_⟩
      refine ⟨_, _, _, ps.dropLast ++ qs, rfl, fun b' o z => ?_, upd_same, paired_append (pav_kp e4 (kd4.trans kl)) (pav_kp hpr4 kl), fun p' hp' => ?_, ?_, ?_⟩
      · rw [upd_ne (ne_of_none z hlH)]
        exact k4' _ _ (k3' _ _ (kSd _ _ z))
      · rcases List.mem_append.mp hp' with h | h
        · exact hgd p' (by rw [e2]; exact List.mem_append_left _ h)
        · exact hgd4 p' h
      · rw [hiff]
        constructor
        · intro z p' hp'
          rcases List.mem_append.mp hp' with h | h
          · exact z p' (by rw [e2]; exact List.mem_append_left _ h)
          · exact hiff4.mp (z p hpm) p' h
        · intro z p' hp'
          rw [e2] at hp'
          rcases List.mem_append.mp hp' with h | h
          · exact z p' (List.mem_append_left _ h)
          · rw [List.mem_singleton.mp h]
            exact hiff4.mpr fun p'' h'' => z p'' (List.mem_append_right _ h'')
      · rw [sumC_app]
        omega
end
end K00
set_option Elab.async false
set_option linter.all false
set_option maxRecDepth 100000
set_option maxHeartbeats 4000000
/-! K00W: the pot: made, drawn from. -/
namespace K00
open PySem PySem.Spec L2
open PyProof.Rows (envOfC)
/-- a pot at p from which at most c numbers were stirred -/
def PotAt (H : Hp) (p : Addr) (c : Nat) : Prop := ∃ (a b k : Int), H p = some (.lst [.int a, .int b, .int k]) ∧ 0 ≤ b ∧ b < 2305843009213693921 ∧ 0 ≤ k ∧ k ≤ (c : Int)
theorem PotAt.same {H H' : Hp} {p : Addr} {c : Nat} (h : PotAt H p c) (k : Same H H') : PotAt H' p c := by
  obtain ⟨a, b, n, h1, h2⟩ := h
  exact ⟨a, b, n, k _ _ h1, h2⟩
theorem PotAt.mono {H : Hp} {p : Addr} {c d : Nat} (h : PotAt H p c) (k : c ≤ d) : PotAt H p d := by
  obtain ⟨a, b, n, h1, h2, h3, h4, h5⟩ := h
  exact ⟨a, b, n, h1, h2, h3, h4, by omega⟩
theorem PotAt.lst {H : Hp} {p : Addr} {c : Nat} (h : PotAt H p c) : ∃ xs, H p = some (.lst xs) := by
  obtain ⟨a, b, n, h1, _⟩ := h
  exact ⟨_, h1⟩
theorem prime_at (k : Int) : ∃ z : Int, atI ([.int 2147483647, .int 2147483629, .int 2147483587, .int 2147483579, .int 2147483563] : List V) (k % 5) = some (.int z) ∧ 2147483563 ≤ z ∧ z ≤ 2147483647 := by
  have h1 : 0 ≤ k % 5 := Int.emod_nonneg _ (by decide)
  have h2 : k % 5 < 5 := Int.emod_lt_of_pos _ (by decide)
  generalize k % 5 = r at h1 h2
  have h : r = 0 ∨ r = 1 ∨ r = 2 ∨ r = 3 ∨ r = 4 := by omega
  rcases h with rfl | rfl | rfl | rfl | rfl
  · exact ⟨_, rfl, by decide, by decide⟩
  · exact ⟨_, rfl, by decide, by decide⟩
  · exact ⟨_, rfl, by decide, by decide⟩
  · exact ⟨_, rfl, by decide, by decide⟩
  · exact ⟨_, rfl, by decide, by decide⟩
theorem stir_ok {b k : Int} (hb : 0 ≤ b) (hb2 : b < 2305843009213693921) (hk : 0 ≤ k) (hk2 : k ≤ 70000) : (b + 70001 * k * k + 67).natAbs < 2 ^ 64 := by
  have h1 : k * k ≤ 70000 * 70000 := Int.mul_le_mul hk2 hk2 hk (by omega)
  have h0 : 0 ≤ k * k := Int.mul_nonneg hk hk
  have e : 70001 * k * k = 70001 * (k * k) := Int.mul_assoc _ _ _
  rw [e]
  omega
section
variable {P : Program} {w : World} {K : PySem.W.Frag} {mg : Str → Option Value} {base : Heap} {f g g2 : Addr} {fd gd gd2 : FuncData}
/-! ### _law_take -/
def spTake : Sp := fun vs H Q _ => ∃ (p : Addr) (u : Int) (c : Nat), vs = [.ref p, .int u] ∧ 1 ≤ u ∧ u ≤ 1000000000 ∧ PotAt H p c ∧ c ≤ 60000 ∧
  ∀ (n : Int) (H' : Hp), 0 ≤ n → n < u → Ch p H H' → PotAt H' p (c + 1) → Q (.int n) H'
theorem scTake : FnScope ["_law_pot_here", "_law_upto", "_law_digit", "_law_prime", "_law_stirred"] ["_law_pot_here", "_law_upto"] (defScope (top 36)) := ⟨rfl, rfl, rfl, by decide +kernel, rfl, by decide +kernel, by decide +kernel⟩
theorem ok_take (F : FnD K "_law_take" 36 f fd) (B : Bl mg) : FnOk P w K mg base CX0 1 f fd ["_law_pot_here", "_law_upto"] spTake := by
  refine F.ok scTake (fun vs H Q E h => ?_) (fun cdv A outer s H vs Q E hr h => ?_)
  · obtain ⟨p, u, c, rfl, _⟩ := h
    rfl
  obtain ⟨p, u, c, rfl, u1, u2, ⟨a, b, k, hp, b1, b2, k1, k2⟩, hc, q⟩ := h
  refine ⟨_, PSs.nox (pss_cons (ps_if (pt_cmpR op_gt (pe_ix ix_list (pv 0) pe_int (fun _ _ => rfl)) pe_int (nomark _))
      (pss_cons (ps_set (i := 2) scTake.nd rfl (Or.inl rfl) (pe_op op_mod (pe_callTy call_int1 (by rfl) B.int (by decide +kernel) (pa_cons (pe_ix ix_list (pv 0) pe_int (fun _ _ => rfl)) pa_nil)) (pv 1)))
      (pss_cons (ps_asg (pe_op op_fdiv (pe_ix ix_list (pv 0) pe_int (fun _ _ => rfl)) (pv 1)) (pg_sub (pv 0) pe_int set_list))
      (pss_one (ps_ret (pv 2))))) pss_nil)
    (pss_cons (ps_asg (pe_op op_add (pe_ix ix_list (pv 0) pe_int (fun _ _ => rfl)) pe_int) (pg_sub (pv 0) pe_int set_list))
    (pss_cons (ps_set (i := 3) scTake.nd rfl (Or.inl rfl) (pe_ix ix_list (pe_lst (pa_cons pe_int (pa_cons pe_int (pa_cons pe_int (pa_cons pe_int (pa_cons pe_int pa_nil))))))
        (pe_op op_mod (pe_callTy call_int1 (by rfl) B.int (by decide +kernel) (pa_cons (pe_ix ix_list (pv 0) pe_int (fun _ _ => rfl)) pa_nil)) pe_int) (fun _ _ => rfl)))
    (pss_cons (ps_set (i := 4) scTake.nd rfl (Or.inl rfl) (pe_op op_mod (pe_callTy call_int1 (by rfl) B.int (by decide +kernel) (pa_cons
        (pe_op op_pow (pe_op op_add (pe_op op_add (pe_ix ix_list (pv 0) pe_int (fun _ _ => rfl)) (pe_op op_mul (pe_op op_mul pe_int (pe_ix ix_list (pv 0) pe_int (fun _ _ => rfl))) (pe_ix ix_list (pv 0) pe_int (fun _ _ => rfl)))) pe_int) pe_int) pa_nil)) (pv 3)))
    (pss_one (ps_ret (pe_op op_mod (pe_callTy call_int1 (by rfl) B.int (by decide +kernel) (pa_cons
        (pe_op op_fdiv (pe_op op_mul (pv 4) (pe_op op_add (pe_op op_mod (pe_callTy call_int1 (by rfl) B.int (by decide +kernel) (pa_cons (pv 4) pa_nil)) pe_int)
          (pe_op op_mul pe_int (pe_ix ix_list (pv 0) pe_int (fun _ _ => rfl))))) pe_int) pa_nil)) (pv 1)))))))), ?_⟩
  refine ⟨_, rfl, p, _, 0, .int a, rfl, rfl, SqL.of hp, rfl, _, _, rfl, rfl, _, rfl, ?_⟩
  refine ite2 (fun _ => ?_) (fun _ => ?_)
  · refine ⟨_, rfl, p, _, 0, .int a, rfl, rfl, SqL.of hp, rfl, .inl ⟨_, rfl, _, rfl, _, _, rfl, rfl, (by omega), ?_⟩⟩
    refine ⟨_, rfl, p, _, 0, .int a, rfl, rfl, SqL.of hp, rfl, _, rfl, _, _, rfl, rfl, ⟨by omega, by omega⟩, ?_⟩
    refine ⟨_, rfl, p, _, _, 0, rfl, rfl, hp, rfl, ?_⟩
    refine ⟨_, rfl, ?_⟩
    exact q _ _ (Int.emod_nonneg _ (by omega)) (Int.emod_lt_of_pos _ (by omega)) ch_upd ⟨_, b, k, upd_same, b1, b2, k1, by omega⟩
  · refine ⟨_, rfl, p, _, 2, .int k, rfl, rfl, SqL.of hp, rfl, _, _, rfl, rfl, ?_⟩
    refine ⟨_, rfl, p, _, _, 2, rfl, rfl, hp, rfl, ?_⟩
    have e1 : upd H p (.lst [.int a, .int b, .int (k + 1)]) p = some (.lst [.int a, .int b, .int (k + 1)]) := upd_same
    obtain ⟨z, hz, z1, z2⟩ := prime_at (k + 1)
    refine ⟨(by show 5 ≤ sizeLine; decide), fun l hl => ?_⟩
    have e2 : upd (upd H p (.lst [.int a, .int b, .int (k + 1)])) l (.lst [.int 2147483647, .int 2147483629, .int 2147483587, .int 2147483579, .int 2147483563]) p = some (.lst [.int a, .int b, .int (k + 1)]) := by
      rw [upd_ne (ne_of_none e1 hl)]
      exact e1
    refine ⟨_, rfl, p, _, 2, .int (k + 1), rfl, rfl, SqL.of e2, rfl, .inl ⟨_, rfl, _, _, rfl, rfl, (by show (0 : Int) < 5; decide), l, _, _, .int z, rfl, rfl, SqL.of upd_same, hz, ?_⟩⟩
    refine ⟨_, rfl, p, _, 1, .int b, rfl, rfl, SqL.of e2, rfl, _, rfl, p, _, 2, .int (k + 1), rfl, rfl, SqL.of e2, rfl, _, _, rfl, rfl, .inl ⟨by decide, by decide⟩, ?_⟩
    refine ⟨_, rfl, p, _, 2, .int (k + 1), rfl, rfl, SqL.of e2, rfl, _, _, rfl, rfl, .inl ⟨by omega, by omega⟩, _, _, rfl, rfl, _, _, rfl, rfl, _, _, rfl, rfl, ⟨by decide, by decide, stir_ok b1 b2 (by omega) (by omega)⟩, ?_⟩
    refine .inl ⟨_, rfl, _, rfl, _, _, rfl, rfl, (by omega), ?_⟩
    have s1 := Int.emod_nonneg ((b + 70001 * (k + 1) * (k + 1) + 67) ^ (3 : Int).toNat) (b := z) (by omega)
    have s2 := Int.emod_lt_of_pos ((b + 70001 * (k + 1) * (k + 1) + 67) ^ (3 : Int).toNat) (b := z) (by omega)
    refine ⟨_, rfl, _, rfl, .inl ⟨_, rfl, _, _, rfl, rfl, (by show (0 : Int) < 10007; decide), ?_⟩⟩
    refine ⟨_, rfl, p, _, 2, .int (k + 1), rfl, rfl, SqL.of e2, rfl, _, _, rfl, rfl, .inl ⟨by decide, by decide⟩, _, _, rfl, rfl, _, _, rfl, rfl, .inl ⟨by omega, by omega⟩, ?_⟩
    refine ⟨_, _, rfl, rfl, ⟨by decide, by decide⟩, .inl ⟨_, rfl, _, rfl, _, _, rfl, rfl, (by omega), ?_⟩⟩
    refine q _ _ (Int.emod_nonneg _ (by omega)) (Int.emod_lt_of_pos _ (by omega)) (ch_upd.trans (Ch.same (same_new hl _))) ⟨a, b, k + 1, e2, b1, b2, by omega, by omega⟩
end
/-- a ** b of ints that stay below 2 ^ 27 bits -/
theorem op_powB {X : Cx} : OpR X (binaryOp .Pow) (rI (fun i j => 0 ≤ j ∧ (Builtin.Int.intBits i : Int) * j ≤ 2 ^ 27) fun i j => .int (i ^ j.toNat)) := opI fun _ _ _ _ _ _ _ hc q => PyProof.Rows.pow_int hc.1 hc.2 q
theorem b01 (b : Bool) : -(2 ^ 64) < (if b = true then (1 : Int) else 0) ∧ (if b = true then (1 : Int) else 0) < 2 ^ 64 := by cases b <;> decide
section
variable {P : Program} {w : World} {K : PySem.W.Frag} {mg : Str → Option Value} {base : Heap} {f g g2 : Addr} {fd gd gd2 : FuncData}
/-! ### _law_of -/
def spOf : Sp := fun vs H Q _ => ∃ (p a : Addr) (xs : List V) (c : Nat), vs = [.ref p, .ref a] ∧ H a = some (.lst xs) ∧ a ≠ p ∧ 1 ≤ xs.length ∧ xs.length ≤ 1000 ∧ PotAt H p c ∧ c ≤ 60000 ∧
  ∀ (x : V) (H' : Hp), x ∈ xs → Ch p H H' → PotAt H' p (c + 1) → Q x H'
theorem scOf : FnScope ["_law_pot_here", "_law_some"] ["_law_pot_here", "_law_some"] (defScope (top 37)) := ⟨rfl, rfl, rfl, by decide +kernel, rfl, by decide +kernel, by decide +kernel⟩
theorem ok_of (F : FnD K "_law_of" 37 f fd) (B : Bl mg) (G : FnOk P w K mg base CX0 1 g gd ["_law_pot_here", "_law_upto"] spTake) (bG : Binds K gd ["_law_pot_here", "_law_upto"] []) (kG : PySem.W.keepIn K (.ref g) = true) (gG : mg "_law_take" = some (.ref g)) :
    FnOk P w K mg base CX0 2 f fd ["_law_pot_here", "_law_some"] spOf := by
  refine F.ok scOf (fun vs H Q E h => ?_) (fun cdv A outer s H vs Q E hr h => ?_)
  · obtain ⟨p, a, xs, c, rfl, _⟩ := h
    rfl
  obtain ⟨p, a, xs, c, rfl, ha, nap, l1, l2, hp, hc, q⟩ := h
  refine ⟨_, PSs.nox (pss_one (ps_ret (pe_ix ix_list (pv 1) (pe_call G hr rfl gG kG bG .nil pass0 (pa_cons (pv 0) (pa_cons (pe_callB call_len_seq (by rfl) B.len PySem.boot_len (pa_cons (pv 1) pa_nil)) pa_nil))) (fun _ _ => rfl)))), ?_⟩
  refine ⟨_, rfl, _, rfl, _, rfl, a, xs, rfl, .inl (SqL.of ha), p, _, c, rfl, by omega, by omega, hp, hc, fun n H' n0 n1 k hp' => ?_⟩
  have hn : n.toNat < xs.length := by omega
  have en : n = ((n.toNat : Nat) : Int) := by omega
  have at_ : atI xs ((n.toNat : Nat) : Int) = some xs[n.toNat] := atI_nat (List.getElem?_eq_getElem hn)
  rw [← en] at at_
  exact ⟨a, xs, n, xs[n.toNat], rfl, rfl, SqL.of (k _ _ nap ha), at_, q _ _ (List.getElem_mem hn) k hp'⟩
/-! ### _law_pot_of -/
def spPot (K : PySem.W.Frag) : Sp := fun vs H Q _ => ∃ (a : Addr) (ns : List Int) (k : Int), vs = [.ref a, .int k] ∧ SqL K H a (ns.map V.int) ∧ 0 ≤ k ∧ k ≤ 2 ∧
  ∀ (p : Addr) (H' : Hp), Same H H' → H p = none → PotAt H' p 0 → Q (.ref p) H'
theorem scPot : FnScope ["_law_script", "_law_k", "_law_cell", "_law_own"] ["_law_script", "_law_k"] (defScope (top 35)) := ⟨rfl, rfl, rfl, by decide +kernel, rfl, by decide +kernel, by decide +kernel⟩
theorem ok_pot (F : FnD K "_law_pot" 35 f fd) (B : Bl mg) : FnOk P w K mg base CX0 1 f fd ["_law_script", "_law_k"] (spPot K) := by
  refine F.ok scPot (fun vs H Q E h => ?_) (fun cdv A outer s H vs Q E hr h => ?_)
  · obtain ⟨a, ns, k, rfl, _⟩ := h
    rfl
  obtain ⟨a, ns, k, rfl, hS, k1, k2, q⟩ := h
  refine ⟨_, PSs.nox (pss_cons (ps_set (i := 2) scPot.nd rfl (Or.inl rfl) (pe_ifExp (pt_cmpR op_lt (pv 1) (pe_callB call_len_seq (by rfl) B.len PySem.boot_len (pa_cons (pv 0) pa_nil)) (nomark _))
        (pe_ix ix_list (pv 0) (pv 1) (fun _ _ => rfl)) (pe_op op_add (pe_op op_mul pe_int (pv 1)) pe_int)))
    (pss_cons (ps_set (i := 3) scPot.nd rfl (Or.inl rfl) (pe_op op_mul
        (pe_op op_mod (pe_callTy call_int1 (by rfl) B.int (by decide +kernel) (pa_cons (pe_callB call_abs (by rfl) B.abs (by decide +kernel) (pa_cons (pv 2) pa_nil)) pa_nil)) (pe_op op_powB (pe_op op_pow pe_int pe_int) pe_int))
        (pe_callTy call_int1 (by rfl) B.int (by decide +kernel) (pa_cons (pe_cmpR op_ge (pe_callB call_abs (by rfl) B.abs (by decide +kernel) (pa_cons (pv 2) pa_nil)) (pe_op op_pow pe_int pe_int) (nomark _)) pa_nil))))
    (pss_one (ps_ret (pe_lst (pa_cons (pv 3) (pa_cons (pe_op op_mod (pe_callTy call_int1 (by rfl) B.int (by decide +kernel) (pa_cons
        (pe_op op_add (pe_op op_add (pe_op op_mul (pe_op op_mod (pe_callTy call_int1 (by rfl) B.int (by decide +kernel) (pa_cons (pv 2) pa_nil)) pe_int) pe_int)
          (pe_op op_mul (pe_op op_mul pe_int (pv 1)) (pv 1))) pe_int) pa_nil)) pe_int) (pa_cons pe_int pa_nil)))))))), ?_⟩
  refine ⟨_, rfl, _, rfl, a, _, rfl, .inl hS, _, _, rfl, rfl, _, rfl, ?_⟩
  refine ite2 (fun c => ?b1) (fun c => ?b2)
  case b1 =>
    have c' : k < (((ns.map V.int).length : Nat) : Int) := of_decide_eq_true c
    rw [List.length_map] at c'
    have hk : k.toNat < ns.length := by omega
    have ek : k = ((k.toNat : Nat) : Int) := by omega
    have at_ : atI (ns.map V.int) ((k.toNat : Nat) : Int) = some (.int ns[k.toNat]) := atI_nat (by rw [List.getElem?_map, List.getElem?_eq_getElem hk] <;> rfl)
    rw [← ek] at at_
    refine ⟨_, rfl, _, rfl, a, _, _, _, rfl, rfl, hS, at_, ?_⟩
    generalize ns[k.toNat] = cell
    refine ⟨_, rfl, _, rfl, .inl ⟨_, rfl, _, _, rfl, rfl, ⟨by decide, by decide, by decide⟩, _, _, rfl, rfl, ⟨by decide, by decide +kernel⟩, _, _, rfl, rfl, (by show (0 : Int) < _; decide +kernel), ?_⟩⟩
    refine ⟨_, rfl, _, rfl, _, _, rfl, rfl, ⟨by decide, by decide, by decide⟩, _, _, rfl, rfl, .inr ⟨_, rfl, _, _, rfl, rfl, .inr (b01 _), ?_⟩⟩
    refine ⟨_, rfl, _, rfl, .inl ⟨_, rfl, _, _, rfl, rfl, (by show (0 : Int) < 2305843009213693951; decide), _, _, rfl, rfl, .inr ⟨by decide, by decide⟩, ?_⟩⟩
    refine ⟨_, rfl, _, _, rfl, rfl, .inl ⟨by decide, by decide⟩, _, rfl, _, _, rfl, rfl, .inl ⟨by omega, by omega⟩, _, _, rfl, rfl, _, _, rfl, rfl, .inl ⟨_, rfl, _, _, rfl, rfl, (by show (0 : Int) < 2305843009213693921; decide), ?_⟩⟩
    refine ⟨(by show 3 ≤ sizeLine; decide), fun p hp => q p _ (same_new hp _) hp ⟨_, _, 0, upd_same, Int.emod_nonneg _ (by decide), Int.emod_lt_of_pos _ (by decide), by decide, by decide⟩⟩
  case b2 =>
    refine ⟨_, rfl, _, _, rfl, rfl, .inl ⟨by decide, by decide⟩, _, _, rfl, rfl, ?_⟩
    generalize (41 * k + 23) = cell
    refine ⟨_, rfl, _, rfl, .inl ⟨_, rfl, _, _, rfl, rfl, ⟨by decide, by decide, by decide⟩, _, _, rfl, rfl, ⟨by decide, by decide +kernel⟩, _, _, rfl, rfl, (by show (0 : Int) < _; decide +kernel), ?_⟩⟩
    refine ⟨_, rfl, _, rfl, _, _, rfl, rfl, ⟨by decide, by decide, by decide⟩, _, _, rfl, rfl, .inr ⟨_, rfl, _, _, rfl, rfl, .inr (b01 _), ?_⟩⟩
    refine ⟨_, rfl, _, rfl, .inl ⟨_, rfl, _, _, rfl, rfl, (by show (0 : Int) < 2305843009213693951; decide), _, _, rfl, rfl, .inr ⟨by decide, by decide⟩, ?_⟩⟩
    refine ⟨_, rfl, _, _, rfl, rfl, .inl ⟨by decide, by decide⟩, _, rfl, _, _, rfl, rfl, .inl ⟨by omega, by omega⟩, _, _, rfl, rfl, _, _, rfl, rfl, .inl ⟨_, rfl, _, _, rfl, rfl, (by show (0 : Int) < 2305843009213693921; decide), ?_⟩⟩
    refine ⟨(by show 3 ≤ sizeLine; decide), fun p hp => q p _ (same_new hp _) hp ⟨_, _, 0, upd_same, Int.emod_nonneg _ (by decide), Int.emod_lt_of_pos _ (by decide), by decide, by decide⟩⟩
end
end K00
set_option Elab.async false
set_option linter.all false
set_option maxRecDepth 100000
set_option maxHeartbeats 4000000
/-! K00X: bounds of what is drawn. -/
namespace K00
open PySem PySem.Spec L2
open PyProof.Rows (envOfC sortedS)
mutual
def SmN (k : Nat) : PyData → Prop
  | .none => True
  | .bool _ => True
  | .int _ => True
  | .str s => s.length ≤ 1000 ∧ PyData.strOk s = true
  | .tuple xs => xs.length ≤ k ∧ SmNL k xs
  | .list xs => xs.length ≤ k ∧ SmNL k xs
  | .dict ds => ds.length ≤ k ∧ (ds.map fun p => kS p.1).Nodup ∧ SmNK k ds
def SmNL (k : Nat) : List PyData → Prop
  | [] => True
  | x :: r => SmN k x ∧ SmNL k r
def SmNK (k : Nat) : List (PyData × PyData) → Prop
  | [] => True
  | (a, v) :: r => SmN k a ∧ SmN k v ∧ SmNK k r
end
theorem smNL_iff {k : Nat} : ∀ {xs : List PyData}, SmNL k xs ↔ ∀ x ∈ xs, SmN k x
  | [] => by simp [SmNL]
  | x :: r => by simp [SmNL, smNL_iff (xs := r)]
theorem smNK_iff {k : Nat} : ∀ {xs : List (PyData × PyData)}, SmNK k xs ↔ ∀ p ∈ xs, SmN k p.1 ∧ SmN k p.2
  | [] => by simp [SmNK]
  | (a, v) :: r => by
    simp only [SmNK, smNK_iff (xs := r), List.mem_cons]
    constructor
    · rintro ⟨h1, h2, h3⟩ p (rfl | hp)
      · exact ⟨h1, h2⟩
      · exact h3 p hp
    · intro h
      exact ⟨(h _ (.inl rfl)).1, (h _ (.inl rfl)).2, fun p hp => h p (.inr hp)⟩
mutual
theorem SmN.mono {k m : Nat} (h : k ≤ m) : ∀ {d : PyData}, SmN k d → SmN m d
  | .none, _ => trivial
  | .bool _, _ => trivial
  | .int _, _ => trivial
  | .str _, z => z
  | .tuple xs, z => ⟨Nat.le_trans z.1 h, SmNL.mono h z.2⟩
  | .list xs, z => ⟨Nat.le_trans z.1 h, SmNL.mono h z.2⟩
  | .dict ds, z => ⟨Nat.le_trans z.1 h, z.2.1, SmNK.mono h z.2.2⟩
theorem SmNL.mono {k m : Nat} (h : k ≤ m) : ∀ {xs : List PyData}, SmNL k xs → SmNL m xs
  | [], _ => trivial
  | _ :: _, z => ⟨SmN.mono h z.1, SmNL.mono h z.2⟩
theorem SmNK.mono {k m : Nat} (h : k ≤ m) : ∀ {xs : List (PyData × PyData)}, SmNK k xs → SmNK m xs
  | [], _ => trivial
  | (_, _) :: _, z => ⟨SmN.mono h z.1, SmN.mono h z.2.1, SmNK.mono h z.2.2⟩
end
mutual
theorem SmN.sm {k : Nat} (h : k ≤ 60) : ∀ {d : PyData}, SmN k d → Sm d
  | .none, _ => trivial
  | .bool _, _ => trivial
  | .int _, _ => trivial
  | .str _, z => z
  | .tuple xs, z => ⟨by have := z.1; omega, SmNL.sm h z.2⟩
  | .list xs, z => ⟨by have := z.1; omega, SmNL.sm h z.2⟩
  | .dict ds, z => ⟨Nat.le_trans z.1 h, z.2.1, SmNK.sm h z.2.2⟩
theorem SmNL.sm {k : Nat} (h : k ≤ 60) : ∀ {xs : List PyData}, SmNL k xs → SmL xs
  | [], _ => trivial
  | _ :: _, z => ⟨SmN.sm h z.1, SmNL.sm h z.2⟩
theorem SmNK.sm {k : Nat} (h : k ≤ 60) : ∀ {xs : List (PyData × PyData)}, SmNK k xs → SmK xs
  | [], _ => trivial
  | (_, _) :: _, z => ⟨SmN.sm h z.1, SmN.sm h z.2.1, SmNK.sm h z.2.2⟩
end
/-- drawn: small, so deep, so many parts, shown by so many signs -/
structure Dr (n c L : Nat) (d : PyData) : Prop where
  sm : SmN 4 d
  dep : d.depth ≤ n
  cn : cnt d ≤ c
  sh : d.showable = true
  len : d.shown.length ≤ L
theorem Dr.mono {n c L n' c' L' : Nat} {d : PyData} (h : Dr n c L d) (a : n ≤ n') (b : c ≤ c') (e : L ≤ L') : Dr n' c' L' d := ⟨h.sm, Nat.le_trans h.dep a, Nat.le_trans h.cn b, h.sh, Nat.le_trans h.len e⟩
theorem depthAll_le {n : Nat} : ∀ {xs : List PyData}, (∀ x ∈ xs, x.depth ≤ n) → PyData.depthAll xs ≤ n
  | [], _ => by simp [PyData.depthAll]
  | x :: r, h => by
    have h1 := h x (by simp)
    have h2 := depthAll_le (n := n) (xs := r) fun y hy => h y (by simp [hy])
    simp only [PyData.depthAll]
    omega
theorem depthKv_le {n : Nat} : ∀ {ds : List (PyData × PyData)}, (∀ p ∈ ds, p.1.depth ≤ n ∧ p.2.depth ≤ n) → PyData.depthKv ds ≤ n
  | [], _ => by simp [PyData.depthKv]
  | (a, b) :: r, h => by
    have h1 := h (a, b) (by simp)
    have h2 := depthKv_le (n := n) (ds := r) fun y hy => h y (by simp [hy])
    simp only [PyData.depthKv]
    simp only at h1
    omega
theorem sum_le {c : Nat} : ∀ {xs : List Nat}, (∀ x ∈ xs, x ≤ c) → xs.sum ≤ xs.length * c
  | [], _ => by simp
  | x :: r, h => by
    have h1 := h x (by simp)
    have h2 := sum_le (c := c) (xs := r) fun y hy => h y (by simp [hy])
    rw [List.sum_cons, List.length_cons, Nat.add_mul]
    omega
theorem textFrom_le {L : Nat} : ∀ (ts : List Str) (k : Nat) (acc : Str), (∀ t ∈ ts, t.length ≤ L) → (textFrom k acc ts).length ≤ acc.length + ts.length * (L + 2)
  | [], _, acc, _ => by simp [textFrom]
  | t :: r, k, acc, h => by
    have h1 := h t (by simp)
    have h2 := textFrom_le (L := L) r (k + 1) (acc ++ (if k > 0 then ", " else "" : String) ++ t) fun y hy => h y (by simp [hy])
    have e : (acc ++ (if k > 0 then ", " else "" : String) ++ t).length = acc.length + (if k > 0 then 2 else 0) + t.length := by
      rw [strLen_append, strLen_append]
      split <;> rfl
    rw [textFrom, List.length_cons, Nat.add_mul]
    rw [e] at h2
    have : (if k > 0 then 2 else 0) ≤ 2 := by split <;> omega
    omega
theorem join_le {L : Nat} : ∀ (ts : List Str), (∀ t ∈ ts, t.length ≤ L) → (Str.join ", " ts).length ≤ ts.length * (L + 2)
  | [], _ => by show 0 ≤ _; omega
  | [x], h => by
    have h1 := h x (by simp)
    show x.length ≤ _
    simp
    omega
  | x :: y :: r, h => by
    have h1 := h x (by simp)
    have h2 := join_le (L := L) (y :: r) fun z hz => h z (by simp [hz])
    have e : (Str.join ", " (x :: y :: r)).length = x.length + 2 + (Str.join ", " (y :: r)).length := by
      show (x ++ ", " ++ Str.join ", " (y :: r)).length = _
      rw [strLen_append, strLen_append] <;> rfl
    rw [e, List.length_cons, Nat.add_mul]
    omega
theorem shownAll_eq : ∀ xs, PyData.shownAll xs = xs.map PyData.shown
  | [] => rfl
  | x :: r => by rw [PyData.shownAll, shownAll_eq r, List.map_cons]
theorem shownKv_eq : ∀ ds, PyData.shownKv ds = ds.map fun p => p.1.shown ++ ((": " : String) : Str) ++ p.2.shown
  | [] => rfl
  | (a, b) :: r => by rw [PyData.shownKv, shownKv_eq r, List.map_cons]
theorem showableAll_of : ∀ {xs : List PyData}, (∀ x ∈ xs, x.showable = true) → PyData.showableAll xs = true
  | [], _ => rfl
  | x :: r, h => by
    rw [PyData.showableAll, h x (by simp), showableAll_of fun y hy => h y (by simp [hy])]
    rfl
theorem showableKv_of : ∀ {ds : List (PyData × PyData)}, (∀ p ∈ ds, p.1.showable = true ∧ p.2.showable = true) → PyData.showableKv ds = true
  | [], _ => rfl
  | (a, b) :: r, h => by
    have h1 := h (a, b) (by simp)
    rw [PyData.showableKv, h1.1, h1.2, showableKv_of fun y hy => h y (by simp [hy])]
    rfl
theorem dr_list {n c L m : Nat} {xs : List PyData} (hm : xs.length ≤ m) (h4 : m ≤ 4) (h : ∀ x ∈ xs, Dr n c L x) : Dr (n + 1) (1 + m * c) (2 + m * (L + 2)) (.list xs) := by
  refine ⟨⟨by omega, smNL_iff.mpr fun x hx => (h x hx).sm⟩, ?_, ?_, ?_, ?_⟩
  · have := depthAll_le fun x hx => (h x hx).dep
    simp only [PyData.depth]
    omega
  · rw [cnt_kids]
    have h1 : ((kids (.list xs)).map cnt).sum ≤ ((kids (.list xs)).map cnt).length * c := sum_le fun y hy => by
      obtain ⟨x, hx, rfl⟩ := List.mem_map.mp hy
      exact (h x hx).cn
    rw [List.length_map] at h1
    have h2 : xs.length * c ≤ m * c := Nat.mul_le_mul_right _ hm
    have h3 : (kids (.list xs)).length = xs.length := rfl
    rw [h3] at h1
    omega
  · show PyData.showableAll xs = true
    exact showableAll_of fun x hx => (h x hx).sh
  · show (listText (PyData.shownAll xs)).length ≤ _
    unfold listText
    rw [strLen_append, shownAll_eq]
    have h1 := textFrom_le (L := L) (xs.map PyData.shown) 0 "[" fun t ht => by
      obtain ⟨x, hx, rfl⟩ := List.mem_map.mp ht
      exact (h x hx).len
    rw [List.length_map] at h1
    have e1 : (("[" : String) : Str).length = 1 := rfl
    have e2 : (("]" : String) : Str).length = 1 := rfl
    have h2 : xs.length * (L + 2) ≤ m * (L + 2) := Nat.mul_le_mul_right _ hm
    rw [e1] at h1
    rw [e2]
    omega
/-- a key of a drawn record -/
def KeyN (k : PyData) : Prop := ∃ s, k = .str s ∧ s.length ≤ 1000 ∧ PyData.strOk s = true ∧ (reprText s).length ≤ 10
theorem dr_dict {n c L m : Nat} {ds : List (PyData × PyData)} (hm : ds.length ≤ m) (h4 : m ≤ 4) (nd : (ds.map fun p => kS p.1).Nodup) (h : ∀ p ∈ ds, KeyN p.1 ∧ Dr n c L p.2) : Dr (n + 1) (1 + m * c) (2 + m * (L + 14)) (.dict ds) := by
  refine ⟨⟨by omega, nd, smNK_iff.mpr fun p hp => ?_⟩, ?_, ?_, ?_, ?_⟩
  · obtain ⟨⟨s, e, h1, h2, _⟩, hd⟩ := h p hp
    rw [e]
    exact ⟨⟨h1, h2⟩, hd.sm⟩
  · have := depthKv_le (n := n) fun p hp => (by
      obtain ⟨⟨s, e, _⟩, hd⟩ := h p hp
      rw [e]
      exact ⟨Nat.zero_le _, hd.dep⟩ : p.1.depth ≤ n ∧ p.2.depth ≤ n)
    simp only [PyData.depth]
    omega
  · rw [cnt_kids]
    have h1 : ((kids (.dict ds)).map cnt).sum ≤ ((kids (.dict ds)).map cnt).length * c := sum_le fun y hy => by
      obtain ⟨x, hx, rfl⟩ := List.mem_map.mp hy
      obtain ⟨p, hp, rfl⟩ := List.mem_map.mp hx
      exact (h p hp).2.cn
    rw [List.length_map] at h1
    have h2 : ds.length * c ≤ m * c := Nat.mul_le_mul_right _ hm
    have h3 : (kids (.dict ds)).length = ds.length := List.length_map ..
    rw [h3] at h1
    omega
  · show PyData.showableKv ds = true
    exact showableKv_of fun p hp => by
      obtain ⟨⟨s, e, _⟩, hd⟩ := h p hp
      rw [e]
      exact ⟨rfl, hd.sh⟩
  · show (dictText (PyData.shownKv ds)).length ≤ _
    unfold dictText
    rw [strLen_append, strLen_append, shownKv_eq]
    have h1 := join_le (L := L + 12) (ds.map fun p => p.1.shown ++ ((": " : String) : Str) ++ p.2.shown) fun t ht => by
      obtain ⟨p, hp, rfl⟩ := List.mem_map.mp ht
      obtain ⟨⟨s, e, _, _, h3⟩, hd⟩ := h p hp
      rw [strLen_append, strLen_append, e]
      have e2 : ((": " : String) : Str).length = 2 := rfl
      have e3 : (PyData.shown (.str s)).length ≤ 10 := h3
      have := hd.len
      rw [e2]
      omega
    rw [List.length_map] at h1
    have e1 : (("{" : String) : Str).length = 1 := rfl
    have e2 : (("}" : String) : Str).length = 1 := rfl
    have h2 : ds.length * (L + 12 + 2) ≤ m * (L + 14) := Nat.mul_le_mul_right _ hm
    rw [e1, e2]
    omega
end K00
set_option Elab.async false
set_option linter.all false
set_option maxRecDepth 100000
set_option maxHeartbeats 8000000
namespace K00
open PySem PySem.Spec L2
open PyProof.Rows (envOfC sortedS)
section
variable {X : Cx} {e : Expr} {t : TE}
def tFzK (t : TE) : TE := fun σ H Q => t σ H fun v H' => ∃ d kvs, v = .ref d ∧ H' d = some (.dK kvs) ∧ ((kvs.map (·.1)).Nodup → ∀ o, Q v (upd H' d (.frz o (.dK kvs))))
theorem pe_fzK (h : PE X e t) : PE X e (tFzK t) := by
  refine ⟨fun pins s σ H Q I hq => ?_⟩
  refine thn (h.run pins s σ H _ I hq) fun v s1 ⟨x, H1, I1, rx, d, kvs, ex, hd, q⟩ => ?_
  obtain ⟨od, J⟩ := I1.lock hd trivial
  have hx : ObjOk X.prog X.w H1 s1.heap d (.dK kvs) := I1.hok d _ hd
  obtain ⟨_, _, vs, kv, o, es, ep, h1, h2, h3, h4, h5, h6⟩ := hx
  have e : kvs.map (·.1) = vs.map (·.1) := kv.keys
  exact ⟨x, _, J, rx, q (by rw [e]; exact h6) od⟩
end
section
variable {P : Program} {w : World} {H H' : Hp}
/-- an entry of a record that is made -/
def RE (P : Program) (w : World) (KP : Str → Prop) (Pd : PyData → Prop) (H : Hp) (kv : Key × V) : Prop := ∃ s d, kv.1 = Sum.inr s ∧ KP s ∧ Da P w H kv.2 d ∧ Pd d
theorem RE.kp {KP : Str → Prop} {Pd : PyData → Prop} {kv : Key × V} (h : RE P w KP Pd H kv) (k : Kp H H') : RE P w KP Pd H' kv := by
  obtain ⟨s, d, h1, h2, h3, h4⟩ := h
  exact ⟨s, d, h1, h2, h3.kp k, h4⟩
theorem put_all {R : Key × V → Prop} {kvs : List (Key × V)} {k : Key} {v : V} (h : ∀ kv ∈ kvs, R kv) (hk : R (k, v)) : ∀ kv ∈ putK kvs k v, R kv := by
  intro kv hkv
  unfold putK at hkv
  split at hkv
  · obtain ⟨a, ha, e⟩ := List.mem_map.mp hkv
    split at e
    · rename_i c
      rw [← e, c]
      exact hk
    · rw [← e]
      exact h a ha
  · rcases List.mem_append.mp hkv with z | z
    · exact h kv z
    · rw [List.mem_singleton.mp z]
      exact hk
theorem merge_all {R : Key × V → Prop} : ∀ {more kvs : List (Key × V)}, (∀ kv ∈ kvs, R kv) → (∀ kv ∈ more, R kv) → ∀ kv ∈ mergeK kvs more, R kv
  | [], _, h, _ => h
  | (k, v) :: r, kvs, h, hm => merge_all (more := r) (put_all h (hm _ List.mem_cons_self)) fun kv hkv => hm kv (List.mem_cons_of_mem _ hkv)
theorem build {KP : Str → Prop} {Pd : PyData → Prop} : ∀ {kvs : List (Key × V)}, (∀ kv ∈ kvs, RE P w KP Pd H kv) →
    ∃ ds, DaE P w H (kvs.map fun p => (kV p.1, p.2)) ds ∧ (∀ p ∈ ds, ∃ s, p.1 = .str s ∧ KP s ∧ Pd p.2) ∧ kvs.map (·.1) = (ds.map fun p => kS p.1).map Sum.inr
  | [], _ => ⟨[], .nil, (fun _ h => nomatch h), rfl⟩
  | (k, v) :: r, h => by
    obtain ⟨ds, h1, h2, h3⟩ := build (kvs := r) fun kv hkv => h kv (List.mem_cons_of_mem _ hkv)
    obtain ⟨s, d, e1, e2, e3, e4⟩ := h (k, v) List.mem_cons_self
    have e1' : k = Sum.inr s := e1
    subst e1'
    refine ⟨(.str s, d) :: ds, .cons (.str s) e3 h1, fun p hp => ?_, ?_⟩
    · rcases List.mem_cons.mp hp with z | z
      · rw [z]
        exact ⟨s, rfl, e2, e4⟩
      · exact h2 p z
    · rw [List.map_cons, List.map_cons, List.map_cons, h3]
      rfl
theorem nodup_keys {kvs : List (Key × V)} {ds : List (PyData × PyData)} (e : kvs.map (·.1) = (ds.map fun p => kS p.1).map Sum.inr) (n : (kvs.map (·.1)).Nodup) : (ds.map fun p => kS p.1).Nodup := by
  rw [e] at n
  exact (List.pairwise_map.mp n).imp fun h z => h (congrArg Sum.inr z)
/-- a dict that was just made and locked, of such entries -/
theorem made_dict {KP : Str → Prop} {Pd : PyData → Prop} {p : Addr} {o : Obj} {kvs more : List (Key × V)} (hn : H p = none) (h : ∀ kv ∈ more, RE P w KP Pd H kv) (ek : kvs = mergeK [] more) (n : (kvs.map (·.1)).Nodup) :
    ∃ ds, Da P w (upd (upd H p (.dK kvs)) p (.frz o (.dK kvs))) (.ref p) (.dict ds) ∧ ds.length ≤ more.length ∧ (ds.map fun q => kS q.1).Nodup ∧ ∀ q ∈ ds, ∃ s, q.1 = .str s ∧ KP s ∧ Pd q.2 := by
  have hall : ∀ kv ∈ kvs, RE P w KP Pd H kv := by
    rw [ek]
    exact merge_all (fun _ h => nomatch h) h
  obtain ⟨ds, h1, h2, h3⟩ := build hall
  have k : Kp H (upd (upd H p (.dK kvs)) p (.frz o (.dK kvs))) := by
    rw [upd_upd]
    exact .new hn _
  refine ⟨ds, .dic (.inl ⟨kvs, upd_same, rfl⟩) (h1.kp k), ?_, nodup_keys h3 n, h2⟩
  have l1 := h1.length
  rw [List.length_map] at l1
  have l2 := length_mergeK more []
  rw [← ek] at l2
  simp only [List.length_nil] at l2
  omega
end
theorem cut_to (xs : List V) {n : Int} (h : 0 ≤ n) : cutV xs none (some n) = xs.take n.toNat := by
  have en : n = ((n.toNat : Nat) : Int) := by omega
  rw [en]
  unfold cutV
  rw [HT.sIx_nat, HT.sIx_none, List.drop_zero, Int.toNat_natCast, Nat.sub_zero]
  rcases Nat.le_total n.toNat xs.length with z | z
  · rw [Nat.min_eq_left z]
  · rw [Nat.min_eq_right z, List.take_length, List.take_of_length_le z]
theorem cut_from (xs : List V) {n : Int} (h : 0 ≤ n) : cutV xs (some n) none = xs.drop n.toNat := by
  have en : n = ((n.toNat : Nat) : Int) := by omega
  rw [en]
  unfold cutV
  rw [HT.sIx_nat, HT.sIx_none, Int.toNat_natCast]
  rcases Nat.le_total n.toNat xs.length with z | z
  · rw [Nat.min_eq_left z, List.take_of_length_le]
    rw [List.length_drop]
    omega
  · rw [Nat.min_eq_right z, List.drop_eq_nil_of_le z, List.drop_length]
    simp
theorem new_ne {H H' : Hp} {p a : Addr} {o : HO} (k : Same H H') (hp : H p = some o) (ha : H' a = none) : a ≠ p := fun e => by
  have := k _ _ hp
  rw [← e, ha] at this
  cases this
theorem seqIx_nat {n : Int} {k : Nat} (h : 0 ≤ n) (l : n.toNat < k) : seqIndex? n k = some n.toNat := by
  have e : (if n < 0 then n + (k : Int) else n) = n := if_neg (by omega)
  show (if (decide (0 ≤ (if n < 0 then n + (k : Int) else n)) && decide ((if n < 0 then n + (k : Int) else n) < k)) = true then some (if n < 0 then n + (k : Int) else n).toNat else none) = _
  rw [e, decide_eq_true h, decide_eq_true (by omega : n < k)]
  rfl
theorem map_erase {α β : Type} (g : α → β) : ∀ (l : List α) (n : Nat), (l.eraseIdx n).map g = (l.map g).eraseIdx n
  | [], _ => rfl
  | _ :: _, 0 => rfl
  | x :: l, n + 1 => by
    show g x :: (l.eraseIdx n).map g = g x :: (l.map g).eraseIdx n
    rw [map_erase g l n]
/-! ### flats -/
def vD : V → PyData
  | .bl b => .bool b
  | .int i => .int i
  | .str s => .str s
  | _ => .none
def flatV' : V → Bool
  | .non => true
  | .bl _ => true
  | .int _ => true
  | .str _ => true
  | _ => false
theorem da_flat {P : Program} {w : World} {H : Hp} {x : V} (h : flatV' x = true) : Da P w H x (vD x) := by
  cases x with
  | non => exact .non
  | bl b => exact .bl b
  | int i => exact .int i
  | str s => exact .str s
  | _ => exact (Bool.false_ne_true (show false = true from h)).elim
def flats : List V := [.non, .bl true, .bl false, .int 0, .int 1, .int (-1), .int 2, .int 3, .str "a", .str "b", .str "one", .str "two", .str "", .str "q\"\\", .str "x: -, {"]
def flatB (L : Nat) (d : PyData) : Bool := (match d with
  | .str s => Nat.ble s.length 1000 && PyData.strOk s
  | .none => true
  | .bool _ => true
  | .int _ => true
  | _ => false) && (d.showable && Nat.ble d.shown.length L)
theorem flat_dr {L : Nat} {d : PyData} (h : flatB L d = true) : isOne d = true ∧ Dr 0 1 L d := by
  unfold flatB at h
  obtain ⟨h1, h2⟩ := He.ba h
  obtain ⟨h2, h3⟩ := He.ba h2
  have h3' := Nat.le_of_ble_eq_true h3
  cases d with
  | none => exact ⟨rfl, trivial, Nat.le_refl _, Nat.le_refl _, h2, h3'⟩
  | bool b => exact ⟨rfl, trivial, Nat.le_refl _, Nat.le_refl _, h2, h3'⟩
  | int i => exact ⟨rfl, trivial, Nat.le_refl _, Nat.le_refl _, h2, h3'⟩
  | str s =>
    obtain ⟨a1, a2⟩ := He.ba h1
    exact ⟨rfl, ⟨Nat.le_of_ble_eq_true a1, a2⟩, Nat.le_refl _, Nat.le_refl _, h2, h3'⟩
  | list xs => exact (Bool.false_ne_true (show false = true from h1)).elim
  | tuple xs => exact (Bool.false_ne_true (show false = true from h1)).elim
  | dict xs => exact (Bool.false_ne_true (show false = true from h1)).elim
/-- signs below 128 alone, in plain Lean -/
def as7 (s : Str) : Bool := s.cps.toList.all fun c => Nat.blt c 128
mutual
/-- what a text may be told of: short texts of such signs, numbers of nineteen figures at most -/
def Tq : PyData → Prop
  | .none => True
  | .bool _ => True
  | .int i => i.natAbs ≤ 2000000000000000000
  | .str s => s.length ≤ 40 ∧ as7 s = true
  | .tuple _ => False
  | .list xs => TqL xs
  | .dict ds => TqK ds
def TqL : List PyData → Prop
  | [] => True
  | x :: r => Tq x ∧ TqL r
def TqK : List (PyData × PyData) → Prop
  | [] => True
  | (_, v) :: r => Tq v ∧ TqK r
end
theorem tqL_iff : ∀ {xs : List PyData}, TqL xs ↔ ∀ x ∈ xs, Tq x
  | [] => by simp [TqL]
  | x :: r => by simp [TqL, tqL_iff (xs := r)]
theorem tqK_iff : ∀ {xs : List (PyData × PyData)}, TqK xs ↔ ∀ p ∈ xs, Tq p.2
  | [] => by simp [TqK]
  | (a, v) :: r => by simp [TqK, tqK_iff (xs := r)]
def tqB : PyData → Bool
  | .none => true
  | .bool _ => true
  | .int i => Nat.ble i.natAbs 2000000000000000000
  | .str s => Nat.ble s.length 40 && as7 s
  | _ => false
theorem tq_of {d : PyData} (h : tqB d = true) : Tq d := by
  cases d with
  | none => trivial
  | bool b => trivial
  | int i => exact Nat.le_of_ble_eq_true h
  | str s =>
    obtain ⟨a, b⟩ := He.ba (show (Nat.ble s.length 40 && as7 s) = true from h)
    exact ⟨Nat.le_of_ble_eq_true a, b⟩
  | _ => cases h
/-- a drawn document -/
def Th (n c L : Nat) (d : PyData) : Prop := isOne d = true ∧ Dr n c L d ∧ Tq d
theorem flats_ok : flats.all (fun x => flatV' x && (flatB 200 (vD x) && tqB (vD x))) = true := by decide +kernel
section
variable {P : Program} {w : World} {K : PySem.W.Frag} {mg : Str → Option Value} {base : Heap} {f g g2 g3 : Addr} {fd gd gd2 gd3 : FuncData}
def spFlat (P : Program) (w : World) : Sp := fun vs H Q _ => ∃ (p : Addr) (c : Nat), vs = [.ref p] ∧ PotAt H p c ∧ c + 1 ≤ 60000 ∧ ∀ x d H', Th 0 1 200 d → Da P w H' x d → Ch p H H' → PotAt H' p (c + 1) → Q x H'
theorem scFlat : FnScope ["_law_pot_here"] ["_law_pot_here"] (defScope (top 39)) := ⟨rfl, rfl, rfl, by decide +kernel, rfl, by decide +kernel, by decide +kernel⟩
theorem ok_flat (F : FnD K "_law_flat" 39 f fd) (GO : FnOk P w K mg base CX0 2 g gd ["_law_pot_here", "_law_some"] spOf) (bO : Binds K gd ["_law_pot_here", "_law_some"] []) (kO : PySem.W.keepIn K (.ref g) = true) (gO : mg "_law_of" = some (.ref g)) :
    FnOk P w K mg base CX0 3 f fd ["_law_pot_here"] (spFlat P w) := by
  refine F.ok scFlat (fun vs H Q E h => ?_) (fun cdv A outer s H vs Q E hr h => ?_)
  · obtain ⟨p, c, rfl, _⟩ := h
    rfl
  obtain ⟨p, c, rfl, hp, hc, q⟩ := h
  refine ⟨_, PSs.nox (pss_one (ps_ret (pe_call GO hr rfl gO kO bO .nil pass0 (pa_cons (pv 0) (pa_cons (pe_lst (pa_cons pe_non (pa_cons pe_bl (pa_cons pe_bl (pa_cons pe_int (pa_cons pe_int (pa_cons (pe_un un_neg pe_int) (pa_cons pe_int (pa_cons pe_int
        (pa_cons pe_str (pa_cons pe_str (pa_cons pe_str (pa_cons pe_str (pa_cons pe_str (pa_cons pe_str (pa_cons pe_str pa_nil)))))))))))))))) pa_nil))))), ?_⟩
  obtain ⟨ys0, hp0⟩ := hp.lst
  refine ⟨_, rfl, _, rfl, (by show 15 ≤ sizeLine; decide), fun l hl => ?_⟩
  have k := same_new hl (.lst flats)
  have n3 : l ≠ p := fun e => by rw [e, hp0] at hl; cases hl
  refine ⟨p, l, flats, c, rfl, upd_same, n3, by decide, by decide, hp.same k, by omega, fun x H' hx k' hp' => ?_⟩
  obtain ⟨h1, h2⟩ := He.ba (List.all_eq_true.mp flats_ok x hx)
  obtain ⟨h2, h5⟩ := He.ba h2
  obtain ⟨h3, h4⟩ := flat_dr h2
  exact q x (vD x) H' ⟨h3, h4, tq_of h5⟩ (da_flat h1) ((Ch.same k).trans k') hp'
end
section
variable {P : Program} {w : World} {K : PySem.W.Frag} {mg : Str → Option Value} {base : Heap} {f g g2 g3 : Addr} {fd gd gd2 gd3 : FuncData}
/-! ### _law_unlike, of texts -/
def spUnlike : Sp := fun vs H Q _ => ∃ (p a : Addr) (ss : List Str) (m : Int) (c : Nat), vs = [.ref p, .ref a, .int m] ∧ H a = some (.lst (ss.map V.str)) ∧ a ≠ p ∧ ss.length ≤ 10 ∧ 0 ≤ m ∧ m ≤ 10 ∧ PotAt H p c ∧ c + m.toNat ≤ 60000 ∧
  ∀ (l : Addr) (ys : List Str) (H' : Hp), H' l = some (.lst (ys.map V.str)) → H l = none → l ≠ p → ys.length ≤ m.toNat → (∀ s ∈ ys, s ∈ ss) → Ch p H H' → PotAt H' p (c + m.toNat) → Q (.ref l) H'
theorem scUnlike : FnScope ["_law_pot_here", "_law_some", "_law_many", "_law_left", "_law_found", "_law_turn"] ["_law_pot_here", "_law_some", "_law_many"] (defScope (top 38)) := ⟨rfl, rfl, rfl, by decide +kernel, rfl, by decide +kernel, by decide +kernel⟩
theorem ok_unlike (F : FnD K "_law_unlike" 38 f fd) (B : Bl mg) (GT : FnOk P w K mg base CX0 1 g gd ["_law_pot_here", "_law_upto"] spTake) (bT : Binds K gd ["_law_pot_here", "_law_upto"] []) (kT : PySem.W.keepIn K (.ref g) = true) (gT : mg "_law_take" = some (.ref g)) :
    FnOk P w K mg base CX0 2 f fd ["_law_pot_here", "_law_some", "_law_many"] spUnlike := by
  refine F.ok scUnlike (fun vs H Q E h => ?_) (fun cdv A outer s H vs Q E hr h => ?_)
  · obtain ⟨p, a, ss, m, c, rfl, _⟩ := h
    rfl
  obtain ⟨p, a, ss, m, c, rfl, ha, nap, l10, m0, m10, hp, hc, q⟩ := h
  refine ⟨_, PSs.nox (pss_cons (ps_par (i := 3) (j := 4) rfl scUnlike.nd rfl rfl (by decide) rfl rfl (pa_cons (pe_callTy call_list_of (by rfl) B.list (by decide +kernel) (pa_cons (pv 1) pa_nil)) (pa_cons (pe_lst pa_nil) pa_nil)) (by rfl))
    (pss_cons (ps_for PassesOwn.never rfl (pi_range1 (by rfl) B.range (pa_cons (pe_callB (call_min2 rfl) (by rfl) B.min (by decide +kernel) (pa_cons (pv 2) (pa_cons (pe_callB call_len_seq (by rfl) B.len PySem.boot_len (pa_cons (pv 3) pa_nil)) pa_nil))) pa_nil))
        (pg_name (i := 5) scUnlike.nd rfl (Or.inl rfl))
      (pss_one (ps_expr (pe_bm PySem.F.plainAttrs_list PySem.F.slot_list_append PySem.F.type_list_append mt_append (pv 4) (pa_cons
        (pe_bm PySem.F.plainAttrs_list PySem.F.slot_list_pop PySem.F.type_list_pop mt_popAt (pv 3) (pa_cons (pe_call GT hr rfl gT kT bT .nil pass0 (pa_cons (pv 0) (pa_cons (pe_callB call_len_seq (by rfl) B.len PySem.boot_len (pa_cons (pv 3) pa_nil)) pa_nil))) pa_nil)) pa_nil)))))
    (pss_one (ps_ret (pv 4))))), ?_⟩
  obtain ⟨ys0, hp0⟩ := hp.lst
  refine ⟨_, rfl, a, _, rfl, .inl (SqL.of ha), fun l1 hl1 => ⟨(by show 0 ≤ sizeLine; decide), fun l2 hl2 => ⟨_, _, rfl, ?_⟩⟩⟩
  have e1 : upd (upd H l1 (.lst (ss.map V.str))) l2 (.lst []) l1 = some (.lst (ss.map V.str)) := by
    rw [upd_ne (ne_of_none upd_same hl2)]
    exact upd_same
  have k0 : Same H (upd (upd H l1 (.lst (ss.map V.str))) l2 (.lst [])) := (same_new hl1 _).trans (same_new hl2 _)
  have hl2H : H l2 = none := (same_new hl1 _).free hl2
  have n2p : l2 ≠ p := fun e => by rw [e, hp0] at hl2H; cases hl2H
  have n1p : l1 ≠ p := fun e => by rw [e, hp0] at hl1; cases hl1
  have n12 : l1 ≠ l2 := ne_of_none upd_same hl2
  refine ⟨_, rfl, _, rfl, l1, _, rfl, .inl (SqL.of e1), _, _, rfl, ?_⟩
  rw [List.length_map]
  have jb : ∃ j : Nat, (if ((ss.length : Nat) : Int) < m then ((ss.length : Nat) : Int) else m) = (j : Int) ∧ j ≤ ss.length ∧ j ≤ m.toNat := by
    split
    · exact ⟨ss.length, rfl, Nat.le_refl _, by omega⟩
    · exact ⟨m.toNat, by omega, by omega, Nat.le_refl _⟩
  obtain ⟨j, ej, j1, j2⟩ := jb
  rw [ej]
  refine ⟨_, rfl, by omega, by omega, ?_⟩
  refine for_range (lo := 0) (n := j) (fun i σ H1 => ∃ (tv : Option V) (ls fs : List Str), σ = [some (.ref p), some (.ref a), some (.int m), some (.ref l1), some (.ref l2), tv] ∧ H1 l1 = some (.lst (ls.map V.str)) ∧ H1 l2 = some (.lst (fs.map V.str)) ∧
      ls.length + i = ss.length ∧ fs.length = i ∧ (∀ s ∈ ls, s ∈ ss) ∧ (∀ s ∈ fs, s ∈ ss) ∧ Ch p H H1 ∧ PotAt H1 p (c + i))
    ⟨none, ss, [], rfl, e1, upd_same, rfl, rfl, (fun _ h => h), (fun _ h => nomatch h), .same k0, hp.same k0⟩ ?turn ?after
  case turn =>
    rintro i σ H1 hi ⟨tv, ls, fs, rfl, h3, h2, el, ef, s1, s2, k1, hp1⟩
    have hl0 : 1 ≤ ls.length := by omega
    refine ⟨_, rfl, .inl ⟨rfl, _, SqL.of h2⟩, _, rfl, .inl ⟨rfl, _, SqL.of h3⟩, _, rfl, _, rfl, l1, _, rfl, .inl (SqL.of h3), p, _, c + i, rfl, by rw [List.length_map]; omega, by rw [List.length_map]; omega, hp1, by omega, fun n H2 n0 n1 k2 hp2 => ?_⟩
    rw [List.length_map] at n1
    have hn : n.toNat < ls.length := by omega
    have h32 := k2 _ _ n1p h3
    have h22 := k2 _ _ n2p h2
    have hix : seqIndex? n (ls.map V.str).length = some n.toNat := by
      rw [List.length_map]
      exact seqIx_nat n0 hn
    refine ⟨l1, _, n, n.toNat, .str ls[n.toNat], rfl, rfl, h32, by omega, by omega, hix, by rw [List.getElem?_map, List.getElem?_eq_getElem hn] <;> rfl, ?_⟩
    have e22 : upd H2 l1 (.lst ((ls.map V.str).eraseIdx n.toNat)) l2 = some (.lst (fs.map V.str)) := by
      rw [upd_ne (Ne.symm n12)]
      exact h22
    refine ⟨l2, _, _, rfl, rfl, e22, by rw [List.length_map]; exact small1000 (by omega), ?_⟩
    refine ⟨_, ls.eraseIdx n.toNat, fs ++ [ls[n.toNat]], rfl, ?_, ?_, ?_, by rw [List.length_append, ef]; rfl, fun t ht => s1 t (List.mem_of_mem_eraseIdx ht), fun t ht => ?_, fun b o nb e => ?_, ?_⟩
    · rw [upd_ne n12, upd_same, ← map_erase]
    · rw [upd_same, List.map_append]
      rfl
    · rw [List.length_eraseIdx_of_lt hn]
      omega
    · rcases List.mem_append.mp ht with z | z
      · exact s2 t z
      · rw [List.mem_singleton.mp z]
        exact s1 _ (List.getElem_mem hn)
    · have nb2 : b ≠ l2 := ne_of_none e hl2H
      have nb1 : b ≠ l1 := ne_of_none e hl1
      rw [upd_ne nb2, upd_ne nb1]
      exact k2 _ _ nb (k1 _ _ nb e)
    · obtain ⟨x1, x2, x3, z1, z2, z3, z4, z5⟩ := hp2
      exact ⟨x1, x2, x3, by rw [upd_ne (Ne.symm n2p), upd_ne (Ne.symm n1p)]; exact z1, z2, z3, z4, by omega⟩
  case after =>
    rintro σ H1 ⟨tv, ls, fs, rfl, h3, h2, el, ef, s1, s2, k1, hp1⟩
    exact ⟨_, rfl, q l2 fs H1 h2 hl2H n2p (by omega) s2 k1 (hp1.mono (by omega))⟩
end
end K00
set_option Elab.async false
set_option linter.all false
set_option maxRecDepth 100000
set_option maxHeartbeats 4000000
/-! G87A: texts as their signs. -/
namespace K87
open PySem PySem.Spec L2 K00 TL
/-- put together with something between -/
def jn (sep : List Nat) : List (List Nat) → List Nat
  | [] => []
  | [x] => x
  | x :: y :: r => x ++ sep ++ jn sep (y :: r)
theorem join_tl (y : Str) : ∀ parts : List Str, tl (Txt.join y parts) = jn (tl y) (parts.map tl) := by
  intro parts
  rw [join_eq]
  induction parts with
  | nil => rfl
  | cons w r ih =>
    cases r with
    | nil => rfl
    | cons v t =>
      show tl (w ++ y ++ Str.join y (v :: t)) = tl w ++ tl y ++ jn (tl y) ((v :: t).map tl)
      rw [tl_append, tl_append, ih]
theorem jn_mem {sep : List Nat} {c : Nat} : ∀ {xs : List (List Nat)}, c ∈ jn sep xs → c ∈ sep ∨ ∃ x ∈ xs, c ∈ x
  | [], h => by cases h
  | [x], h => .inr ⟨x, List.mem_cons_self, h⟩
  | x :: y :: r, h => by
    rcases List.mem_append.mp (show c ∈ (x ++ sep) ++ jn sep (y :: r) from h) with z | z
    · rcases List.mem_append.mp z with z | z
      · exact .inr ⟨x, List.mem_cons_self, z⟩
      · exact .inl z
    · rcases jn_mem z with h | ⟨a, ha, hc⟩
      · exact .inl h
      · exact .inr ⟨a, List.mem_cons_of_mem _ ha, hc⟩
theorem jn_len {sep : List Nat} : ∀ (xs : List (List Nat)), (jn sep xs).length ≤ (xs.map fun x => x.length + sep.length).sum
  | [] => Nat.zero_le _
  | [x] => by show x.length ≤ _; simp
  | x :: y :: r => by
    have h := jn_len (sep := sep) (y :: r)
    show ((x ++ sep) ++ jn sep (y :: r)).length ≤ _
    rw [List.length_append, List.length_append, List.map_cons, List.sum_cons]
    omega
theorem as7_iff {s : Str} : as7 s = true ↔ ∀ c ∈ tl s, c < 128 := by
  constructor
  · exact fun h c hc => Nat.blt_eq.mp (List.all_eq_true.mp h c hc)
  · exact fun h => List.all_eq_true.mpr fun c hc => Nat.blt_eq.mpr (h c hc)
theorem as7_join {y : Str} {parts : List Str} (hy : as7 y = true) (h : ∀ p ∈ parts, as7 p = true) : as7 (Txt.join y parts) = true := as7_iff.mpr fun c hc => by
  rw [join_tl] at hc
  rcases jn_mem hc with z | ⟨x, hx, z⟩
  · exact as7_iff.mp hy c z
  · obtain ⟨p, hp, rfl⟩ := List.mem_map.mp hx
    exact as7_iff.mp (h p hp) c z
theorem sum_le7 {c : Nat} : ∀ {xs : List Nat}, (∀ x ∈ xs, x ≤ c) → xs.sum ≤ xs.length * c
  | [], _ => by simp
  | x :: r, h => by
    have h1 := h x List.mem_cons_self
    have h2 := sum_le7 (c := c) (xs := r) fun y hy => h y (List.mem_cons_of_mem _ hy)
    rw [List.sum_cons, List.length_cons, Nat.add_mul]
    omega
theorem join_len7 {y : Str} {c : Nat} (parts : List Str) (h : ∀ p ∈ parts, p.length ≤ c) : (Txt.join y parts).length ≤ parts.length * (c + y.length) := by
  rw [len_tl, join_tl]
  refine Nat.le_trans (jn_len _) ?_
  have := sum_le7 (c := c + y.length) (xs := (parts.map tl).map fun x => x.length + (tl y).length) fun z hz => by
    obtain ⟨x, hx, rfl⟩ := List.mem_map.mp hz
    obtain ⟨p, hp, rfl⟩ := List.mem_map.mp hx
    have := h p hp
    rw [← len_tl, ← len_tl]
    omega
  rwa [List.length_map, List.length_map] at this
theorem as7_ok {s : Str} (h : as7 s = true) : PyData.strOk s = true := by
  unfold PyData.strOk
  refine Array.all_eq_true'.mpr fun c hc => ?_
  have := as7_iff.mp h c (by show c ∈ s.cps.toList; exact Array.mem_toList_iff.mpr hc)
  exact decide_eq_true (by omega)
theorem repr_len7 {s : Str} (h : as7 s = true) : (reprText s).length ≤ 10 * s.length + 2 := StrLaws.reprText_len s fun c hc => Nat.lt_trans (as7_iff.mp h c hc) (by decide)
/-- a text that may be drawn -/
theorem th_str {s : Str} (h : as7 s = true) (l : s.length ≤ 19) : Th 0 1 200 (.str s) :=
  ⟨rfl, ⟨⟨by omega, as7_ok h⟩, Nat.le_refl _, Nat.le_refl _, rfl, by have := repr_len7 h; show (reprText s).length ≤ 200; omega⟩, ⟨by omega, h⟩⟩
def ts (i : Int) : Str := Str.ofString (toString i)
theorem ts_len {i : Int} (h : i.natAbs ≤ 2000000000000000000) : (ts i).length ≤ 20 := by
  have z := PySem.int_text_length_le10 (a := i) (k := 19) (by decide) (Nat.lt_of_le_of_lt h (by decide))
  have e : (ts i).length = (toString i).length := by
    rw [len_tl]
    show ((Str.ofString (toString i)).cps.toList).length = _
    rw [PyProof.Rows.signs_ofString, List.length_map]
    exact String.length_toList
  omega
theorem log_le7 {i : Int} (h : i.natAbs ≤ 2000000000000000000) : i.natAbs.log2 < 1920 := by
  by_cases z : i.natAbs = 0
  · rw [z]
    decide
  · have := (Nat.log2_lt z (k := 62)).mpr (by omega)
    omega
theorem th_int {i : Int} (h : i.natAbs ≤ 2000000000000000000) : Th 0 1 200 (.int i) :=
  ⟨rfl, ⟨trivial, Nat.le_refl _, Nat.le_refl _, decide_eq_true (log_le7 h), by have := ts_len h; show (ts i).length ≤ 200; omega⟩, h⟩
end K87
set_option Elab.async false
set_option linter.all false
set_option maxRecDepth 100000
set_option maxHeartbeats 8000000
/-! G87B: _law_strange. -/
namespace K87
open PySem PySem.Spec L2 K00 TL
open PyProof.Rows (envOfC sortedS)
def signsW : List Str := ["\"", "\\", "[", "{", ": ", ", ", "-", "yes", " ", "x", "]", "}", "~", "0"]
theorem signs_ok : signsW.all (fun s => as7 s && Nat.ble s.length 3) = true := by decide +kernel
theorem signs_of {s : Str} (h : s ∈ signsW) : as7 s = true ∧ s.length ≤ 3 := by
  obtain ⟨a, b⟩ := He.ba (List.all_eq_true.mp signs_ok s h)
  exact ⟨a, Nat.le_of_ble_eq_true b⟩
section
variable {P : Program} {w : World} {K : PySem.W.Frag} {mg : Str → Option Value} {base : Heap} {f g g2 g3 : Addr} {fd gd gd2 gd3 : FuncData}
def spStrange (P : Program) (w : World) : Sp := fun vs H Q _ => ∃ (p : Addr) (c : Nat), vs = [.ref p] ∧ PotAt H p c ∧ c + 8 ≤ 60000 ∧ ∀ x d H', Th 0 1 200 d → Da P w H' x d → Ch p H H' → PotAt H' p (c + 8) → Q x H'
abbrev NgS : List Str := ["_law_pot_here", "_law_signs", "_law_turn"]
theorem scStr : FnScope NgS ["_law_pot_here"] (defScope (top 41)) := ⟨rfl, rfl, rfl, by decide +kernel, rfl, by decide +kernel, by decide +kernel⟩
theorem ok_strange (F : FnD K "_law_strange" 41 f fd) (B : Bl mg) (GT : FnOk P w K mg base CX0 1 g2 gd2 ["_law_pot_here", "_law_upto"] spTake) (bT : Binds K gd2 ["_law_pot_here", "_law_upto"] []) (kT : PySem.W.keepIn K (.ref g2) = true) (gT : mg "_law_take" = some (.ref g2))
    (GO : FnOk P w K mg base CX0 2 g gd ["_law_pot_here", "_law_some"] K00.spOf) (bO : Binds K gd ["_law_pot_here", "_law_some"] []) (kO : PySem.W.keepIn K (.ref g) = true) (gO : mg "_law_of" = some (.ref g)) :
    FnOk P w K mg base CX0 3 f fd ["_law_pot_here"] (spStrange P w) := by
  refine F.ok scStr (fun vs H Q E h => ?_) (fun cdv A outer s H vs Q E hr h => ?_)
  · obtain ⟨p, c, rfl, _⟩ := h
    rfl
  obtain ⟨p, c, rfl, hp, hc, q⟩ := h
  have hr1 : Room 1 _ := hr.mono (by decide)
  refine ⟨_, PSs.nox (pss_cons (ps_set (i := 1) scStr.nd rfl (Or.inr rfl) (pe_lst (pa_cons pe_str (pa_cons pe_str (pa_cons pe_str (pa_cons pe_str (pa_cons pe_str (pa_cons pe_str (pa_cons pe_str (pa_cons pe_str (pa_cons pe_str (pa_cons pe_str (pa_cons pe_str (pa_cons pe_str (pa_cons pe_str (pa_cons pe_str pa_nil))))))))))))))))
    (pss_cons (ps_if (pt_cmpR op_eq (pe_call GT hr1 rfl gT kT bT .nil pass0 (pa_cons (pv 0) (pa_cons pe_int pa_nil))) pe_int (nomark _))
      (pss_one (ps_ret (pe_op op_mul (pe_op op_add (pe_op op_mul (pe_call GT hr1 rfl gT kT bT .nil pass0 (pa_cons (pv 0) (pa_cons (pe_op op_pow pe_int pe_int) pa_nil))) (pe_op op_pow pe_int pe_int))
          (pe_call GT hr1 rfl gT kT bT .nil pass0 (pa_cons (pv 0) (pa_cons (pe_op op_pow pe_int pe_int) pa_nil))))
        (pe_op op_sub pe_int (pe_op op_mul pe_int (pe_call GT hr1 rfl gT kT bT .nil pass0 (pa_cons (pv 0) (pa_cons pe_int pa_nil)))))))) pss_nil)
    (pss_one (ps_ret (pe_join pe_str (pe_lc (own := [("_law_turn", 2)]) (g := gName 2) (tt := tYes) rfl scStr.nd (pi_range1 (by rfl) B.range (pa_cons (pe_call GT hr1 rfl gT kT bT .nil pass0 (pa_cons (pv 0) (pa_cons pe_int pa_nil))) pa_nil))
        (blkOk_by (N := NgS) (sc := defScope (top 41)) (by decide +kernel)) (fun _ _ _ _ _ => pg_name (i := 2) scStr.nd rfl (Or.inl rfl)) (fun _ _ _ _ _ => pts_nil)
        (fun _ _ _ _ _ => pe_call GO hr rfl gO kO bO .nil pass0 (pa_cons (pv 0) (pa_cons (pv 1) pa_nil))))))))), ?_⟩
  obtain ⟨ys0, hp0⟩ := hp.lst
  refine ⟨(by show 14 ≤ sizeLine; decide), fun L hL => ?_⟩
  have s0 := same_new hL (.lst (signsW.map V.str))
  have nLp : L ≠ p := fun e => by rw [e, hp0] at hL; cases hL
  refine ⟨_, rfl, p, 3, c, rfl, by decide, by decide, hp.same s0, by omega, fun n H1 n0 n1 ch1 hp1 => ⟨rfl, _, rfl, ?_⟩⟩
  have ch01 : Ch p H H1 := (Ch.same s0).trans ch1
  by_cases nz : n = 0
  · refine ite_t (decide_eq_true (by rw [nz])) ?_
    have cp : CPow 10 9 := ⟨by decide, by decide, by decide⟩
    refine ⟨_, rfl, _, _, rfl, rfl, cp, p, _, c + 1, rfl, by decide, by decide, hp1, by omega, fun a H2 a0 a1 ch2 hp2 => ?_⟩
    have e9 : (10 : Int) ^ (9 : Int).toNat = 1000000000 := by decide
    rw [e9] at a1
    refine ⟨_, _, rfl, rfl, cp, _, _, rfl, rfl, .inl ⟨by omega, by omega⟩, ?_⟩
    refine ⟨_, rfl, _, _, rfl, rfl, cp, p, _, c + 2, rfl, by decide, by decide, hp2, by omega, fun b H3 b0 b1 ch3 hp3 => ?_⟩
    rw [e9] at b1
    refine ⟨_, _, rfl, rfl, _, rfl, p, 2, c + 3, rfl, by decide, by decide, hp3, by omega, fun t H4 t0 t1 ch4 hp4 => ?_⟩
    refine ⟨_, _, rfl, rfl, .inl ⟨by decide, by decide⟩, _, _, rfl, rfl, _, _, rfl, rfl, .inr ⟨by omega, by omega⟩, ?_⟩
    rw [e9]
    refine q _ (.int ((a * 1000000000 + b) * (1 - 2 * t))) H4 (th_int ?_) (.int _) (ch01.trans (ch2.trans (ch3.trans ch4))) (hp4.mono (by omega))
    have ht : t = 0 ∨ t = 1 := by omega
    rcases ht with rfl | rfl <;> omega
  refine ite_f (decide_eq_false (fun z => nz (V.int.inj z))) ?_
  refine ⟨⟨_, rfl⟩, _, rfl, p, 7, c + 1, rfl, by decide, by decide, hp1, by omega, fun m H2 m0 m1 ch2 hp2 => ⟨m, rfl, by omega, by omega, fun D hD => ?_⟩⟩
  have hL2 : H2 L = some (.lst (signsW.map V.str)) := ch2 _ _ nLp (ch1 _ _ nLp upd_same)
  obtain ⟨ys2, hq2⟩ := hp2.lst
  have nD : D ≠ p := fun e => by rw [e, hq2] at hD; cases hD
  have nDL : D ≠ L := fun e => by rw [e, hL2] at hD; cases hD
  have ch02 : Ch p H H2 := ch01.trans ch2
  have hDH : H D = none := by
    cases z : H D with
    | none => rfl
    | some o => rw [ch02 _ _ nD z] at hD; cases hD
  refine lc_range (lo := 0) (n := m.toNat) (fun i H3 => ∃ ss : List Str, H3 D = some (.lst (ss.map V.str)) ∧ ss.length = i ∧ (∀ s ∈ ss, s ∈ signsW) ∧ H3 L = some (.lst (signsW.map V.str)) ∧ Ch p H H3 ∧ PotAt H3 p (c + 2 + i))
    ⟨[], upd_same, rfl, (fun _ h => nomatch h), by rw [upd_ne (Ne.symm nDL)]; exact hL2, ch02.trans (.same (same_new hD _)), (hp2.same (same_new hD _)).mono (by omega)⟩ ?_ ?_
  · rintro i H3 hi ⟨ss, hD3, sl, hs, hL3, ch3, hp3⟩
    refine ⟨rfl, ?_⟩
    simp only [tYes, if_true]
    refine ⟨_, rfl, _, rfl, p, L, signsW.map V.str, c + 2 + i, rfl, hL3, nLp, by decide, by decide, hp3, by omega, fun x H4 hx ch4 hp4 => ?_⟩
    obtain ⟨y, hy, rfl⟩ := List.mem_map.mp hx
    have hD4 := ch4 _ _ nD hD3
    refine ⟨_, hD4, K00.small1000 (by rw [List.length_map]; omega), ss ++ [y], by rw [upd_same, List.map_append]; rfl, by simp [sl], fun s hs' => ?_, ?_, fun b o nb e => ?_, ?_⟩
    · rcases List.mem_append.mp hs' with z | z
      · exact hs s z
      · rw [List.mem_singleton.mp z]
        exact hy
    · rw [upd_ne (Ne.symm nDL)]
      exact ch4 _ _ nLp hL3
    · rw [upd_ne (ne_of_none e hDH)]
      exact ch4 _ _ nb (ch3 _ _ nb e)
    · obtain ⟨x1, x2, x3, z1, z2, z3, z4, z5⟩ := hp4
      exact ⟨x1, x2, x3, by rw [upd_ne (Ne.symm nD)]; exact z1, z2, z3, z4, by omega⟩
  · rintro H3 ⟨ss, hD3, sl, hs, hL3, ch3, hp3⟩
    have ll : (Txt.join "" ss).length ≤ ss.length * (3 + 0) := join_len7 (y := "") (c := 3) ss fun s h => (signs_of (hs s h)).2
    have su := sum_le7 (c := 3) (xs := ss.map (·.length)) fun z hz => by
      obtain ⟨s, h, rfl⟩ := List.mem_map.mp hz
      exact (signs_of (hs s h)).2
    rw [List.length_map] at su
    have e0 : (("" : String) : Str).length = 0 := rfl
    refine ⟨_, D, ss, rfl, rfl, .inl (SqL.of hD3), by rw [e0]; omega, ?_⟩
    exact q _ (.str (Txt.join "" ss)) H3 (th_str (as7_join (by decide +kernel) fun s h => (signs_of (hs s h)).1) (by omega)) (.str _) ch3 (hp3.mono (by omega))
end
end K87
set_option Elab.async false
set_option linter.all false
set_option maxRecDepth 100000
set_option maxHeartbeats 8000000
/-! G87C: _law_thing. -/
namespace K87
open PySem PySem.Spec L2 K00 TL
open PyProof.Rows (envOfC sortedS)
/-- how many draws, parts, signs a document so deep has -/
def potT : Nat → Nat
  | 0 => 10
  | n + 1 => 10 + 4 * potT n
def cT : Nat → Nat
  | 0 => 1
  | n + 1 => 1 + 4 * cT n
def lT : Nat → Nat
  | 0 => 200
  | n + 1 => 2 + 4 * (lT n + 14)
theorem cT_pos : ∀ n, 1 ≤ cT n
  | 0 => Nat.le_refl _
  | n + 1 => by unfold cT; omega
theorem lT_pos : ∀ n, 200 ≤ lT n
  | 0 => Nat.le_refl _
  | n + 1 => by have := lT_pos n; unfold lT; omega
theorem potT_pos : ∀ n, 10 ≤ potT n
  | 0 => Nat.le_refl _
  | n + 1 => by unfold potT; omega
/-- names of fields that are drawn -/
def KPn (s : Str) : Prop := nameB s = true ∧ s.length ≤ 1000 ∧ PyData.strOk s = true ∧ (reprText s).length ≤ 10
def kpB (s : Str) : Bool := nameB s && (Nat.ble s.length 1000 && (PyData.strOk s && Nat.ble (reprText s).length 10))
theorem kp_of {s : Str} (h : kpB s = true) : KPn s := by
  unfold kpB at h
  obtain ⟨h1, h⟩ := He.ba h
  obtain ⟨h2, h⟩ := He.ba h
  obtain ⟨h3, h4⟩ := He.ba h
  exact ⟨h1, Nat.le_of_ble_eq_true h2, h3, Nat.le_of_ble_eq_true h4⟩
theorem keyN_of {ds : List (PyData × PyData)} {p : PyData × PyData} {s : Str} (e : p.1 = .str s) (h : KPn s) : KeyN p.1 := ⟨s, e, h.2.1, h.2.2.1, h.2.2.2⟩
theorem isOne_list {xs : List PyData} (h : ∀ x ∈ xs, isOne x = true) : isOne (.list xs) = true := by
  rw [isOne_kids]
  show (true && xs.all isOne) = true
  rw [Bool.true_and]
  exact List.all_eq_true.mpr h
theorem isOne_dict {ds : List (PyData × PyData)} (h : ∀ p ∈ ds, (∃ s, p.1 = .str s ∧ nameB s = true) ∧ isOne p.2 = true) : isOne (.dict ds) = true := by
  rw [isOne_kids]
  refine Bool.and_eq_true_iff.mpr ⟨List.all_eq_true.mpr fun p hp => ?_, List.all_eq_true.mpr fun x hx => ?_⟩
  · obtain ⟨⟨s, e, hs⟩, _⟩ := h p hp
    rw [e]
    exact hs
  · obtain ⟨p, hp, rfl⟩ := List.mem_map.mp hx
    exact (h p hp).2
abbrev fieldsW : List Str := ["x", "yes", "no", "abcdefgh", "k", "zz"]
theorem six_ok : fieldsW.all kpB = true := by decide +kernel
abbrev NgT : List Str := ["_law_pot_here", "_law_deep", "_law_pick", "_law_turn", "_law_fields", "_law_field"]
theorem tq_list {xs : List PyData} (h : ∀ x ∈ xs, Tq x) : Tq (.list xs) := tqL_iff.mpr h
theorem tq_dict {xs : List (PyData × PyData)} (h : ∀ p ∈ xs, Tq p.2) : Tq (.dict xs) := tqK_iff.mpr h
theorem th_mono {n c L n' c' L' : Nat} {d : PyData} (h : Th n c L d) (a : n ≤ n') (b : c ≤ c') (e : L ≤ L') : Th n' c' L' d := ⟨h.1, h.2.1.mono a b e, h.2.2⟩
section
variable {P : Program} {w : World} {K : PySem.W.Frag} {mg : Str → Option Value} {base : Heap} {f g g2 g3 g4 : Addr} {fd gd gd2 gd3 gd4 : FuncData}
def spThing (P : Program) (w : World) (n : Nat) : Sp := fun vs H Q _ => ∃ (p : Addr) (c : Nat), vs = [.ref p, .int (n : Nat)] ∧ PotAt H p c ∧ c + potT n ≤ 60000 ∧
  ∀ x d H', Th n (cT n) (lT n) d → Da P w H' x d → Ch p H H' → PotAt H' p (c + potT n) → Q x H'
theorem scThing : FnScope NgT ["_law_pot_here", "_law_deep"] (defScope (top 42)) := ⟨rfl, rfl, rfl, by decide +kernel, rfl, by decide +kernel, by decide +kernel⟩
theorem ok_thing0 (F : FnD K "_law_thing" 42 f fd) (B : Bl mg) (GF : FnOk P w K mg base CX0 3 g gd ["_law_pot_here"] (spFlat P w)) (bF : Binds K gd ["_law_pot_here"] []) (kF : PySem.W.keepIn K (.ref g) = true) (gF : mg "_law_flat" = some (.ref g))
    (GS : FnOk P w K mg base CX0 3 g4 gd4 ["_law_pot_here"] (spStrange P w)) (bS : Binds K gd4 ["_law_pot_here"] []) (kS : PySem.W.keepIn K (.ref g4) = true) (gS : mg "_law_strange" = some (.ref g4))
    (GT : FnOk P w K mg base CX0 1 g2 gd2 ["_law_pot_here", "_law_upto"] spTake) (bT : Binds K gd2 ["_law_pot_here", "_law_upto"] []) (kT : PySem.W.keepIn K (.ref g2) = true) (gT : mg "_law_take" = some (.ref g2)) :
    FnOk P w K mg base CX0 4 f fd ["_law_pot_here", "_law_deep"] (spThing P w 0) := by
  refine F.ok scThing (fun vs H Q E h => ?_) (fun cdv A outer s H vs Q E hr h => ?_)
  · obtain ⟨p, c, rfl, _⟩ := h
    rfl
  obtain ⟨p, c, rfl, hp, hc, q⟩ := h
  have hr1 : Room 1 _ := hr.mono (by omega)
  have hr3 : Room 3 _ := hr.mono (by omega)
  refine ⟨_, PSs.nox (pss_cons (ps_set (i := 2) scThing.nd rfl (Or.inl rfl) (pe_call GT hr1 rfl gT kT bT .nil pass0 (pa_cons (pv 0) (pa_cons pe_int pa_nil))))
    (pss_cons (ps_if (PW.pt (pw_or (pt_cmpR op_lt (pv 2) pe_int (nomark _)) (pw_or1 (pt_cmpR op_eq (pv 1) pe_int (nomark _))))) (pss_one (ps_ret (pe_ifExp (pt_cmpR op_eq (pe_call GT hr1 rfl gT kT bT .nil pass0 (pa_cons (pv 0) (pa_cons pe_int pa_nil))) pe_int (nomark _))
        (pe_call GS hr3 rfl gS kS bS .nil pass0 (pa_cons (pv 0) pa_nil)) (pe_call GF hr3 rfl gF kF bF .nil pass0 (pa_cons (pv 0) pa_nil))))) pss_nil)
    (pss_cons (ps_if (pt_cmpR op_lt (pv 2) pe_int (nomark _)) (pss_one (ps_ret pe_no)) pss_nil)
    (pss_cons (ps_set (i := 4) scThing.nd rfl (Or.inl rfl) pe_no) (pss_one (ps_ret pe_no)))))), ?_⟩
  have p10 : potT 0 = 10 := rfl
  refine ⟨_, rfl, p, 6, c, rfl, by decide, by decide, hp, by omega, fun pick H1 pk0 pk1 k1 hp1 => ?_⟩
  refine ⟨_, rfl, _, _, rfl, rfl, _, rfl, ?_⟩
  refine ite2 (fun _ => ?_) (fun _ => ⟨_, rfl, rfl, _, rfl, ite_t (decide_eq_true rfl) ?_⟩)
  all_goals
    refine ⟨_, rfl, p, 2, c + 1, rfl, by decide, by decide, hp1, by omega, fun t H2 t0 t1 k2 hp2 => ⟨rfl, _, rfl, ?_⟩⟩
    refine ite2 (fun _ => ?_) (fun _ => ?_)
    · refine ⟨_, rfl, p, c + 2, rfl, hp2, by have := potT_pos 0; omega, fun x d H' h1 h3 k hp' => ?_⟩
      exact q x d H' h1 h3 (k1.trans (k2.trans k)) (hp'.mono (by have := potT_pos 0; omega))
    · refine ⟨_, rfl, p, c + 2, rfl, hp2, by have := potT_pos 0; omega, fun x d H' h1 h3 k hp' => ?_⟩
      exact q x d H' h1 h3 (k1.trans (k2.trans k)) (hp'.mono (by have := potT_pos 0; omega))
theorem ok_thingS {n : Nat} (F : FnD K "_law_thing" 42 f fd) (B : Bl mg) (GF : FnOk P w K mg base CX0 3 g gd ["_law_pot_here"] (spFlat P w)) (bF : Binds K gd ["_law_pot_here"] []) (kF : PySem.W.keepIn K (.ref g) = true) (gF : mg "_law_flat" = some (.ref g))
    (GS : FnOk P w K mg base CX0 3 g4 gd4 ["_law_pot_here"] (spStrange P w)) (bS : Binds K gd4 ["_law_pot_here"] []) (kS : PySem.W.keepIn K (.ref g4) = true) (gS : mg "_law_strange" = some (.ref g4))
    (GT : FnOk P w K mg base CX0 1 g2 gd2 ["_law_pot_here", "_law_upto"] spTake) (bT : Binds K gd2 ["_law_pot_here", "_law_upto"] []) (kT : PySem.W.keepIn K (.ref g2) = true) (gT : mg "_law_take" = some (.ref g2))
    (GU : FnOk P w K mg base CX0 2 g3 gd3 ["_law_pot_here", "_law_some", "_law_many"] spUnlike) (bU : Binds K gd3 ["_law_pot_here", "_law_some", "_law_many"] []) (kU : PySem.W.keepIn K (.ref g3) = true) (gU : mg "_law_unlike" = some (.ref g3))
    (GR : FnOk P w K mg base CX0 (n + 4) f fd ["_law_pot_here", "_law_deep"] (spThing P w n)) (bR : Binds K fd ["_law_pot_here", "_law_deep"] []) (gR : mg "_law_thing" = some (.ref f)) :
    FnOk P w K mg base CX0 (n + 5) f fd ["_law_pot_here", "_law_deep"] (spThing P w (n + 1)) := by
  refine F.ok scThing (fun vs H Q E h => ?_) (fun cdv A outer s H vs Q E hr h => ?_)
  · obtain ⟨p, c, rfl, _⟩ := h
    rfl
  obtain ⟨p, c, rfl, hp, hc, q⟩ := h
  have hr1 : Room 1 _ := hr.mono (by omega)
  have hr2 : Room 2 _ := hr.mono (by omega)
  have hr3 : Room 3 _ := hr.mono (by omega)
  refine ⟨_, PSs.nox (pss_cons (ps_set (i := 2) scThing.nd rfl (Or.inl rfl) (pe_call GT hr1 rfl gT kT bT .nil pass0 (pa_cons (pv 0) (pa_cons pe_int pa_nil))))
    (pss_cons (ps_if (PW.pt (pw_or (pt_cmpR op_lt (pv 2) pe_int (nomark _)) (pw_or1 (pt_cmpR op_eq (pv 1) pe_int (nomark _))))) (pss_one (ps_ret (pe_ifExp (pt_cmpR op_eq (pe_call GT hr1 rfl gT kT bT .nil pass0 (pa_cons (pv 0) (pa_cons pe_int pa_nil))) pe_int (nomark _))
        (pe_call GS hr3 rfl gS kS bS .nil pass0 (pa_cons (pv 0) pa_nil)) (pe_call GF hr3 rfl gF kF bF .nil pass0 (pa_cons (pv 0) pa_nil))))) pss_nil)
    (pss_cons (ps_if (pt_cmpR op_lt (pv 2) pe_int (nomark _)) (pss_one (ps_ret
        (pe_fz (pe_lc (own := [("_law_turn", 3)]) (g := gName 3) (tt := tYes) rfl scThing.nd (pi_range1 (by rfl) B.range (pa_cons (pe_call GT hr1 rfl gT kT bT .nil pass0 (pa_cons (pv 0) (pa_cons pe_int pa_nil))) pa_nil))
          (blkOk_by (N := NgT) (sc := defScope (top 42)) (by decide +kernel))
          (fun _ _ _ _ _ => pg_name (i := 3) scThing.nd rfl (Or.inl rfl)) (fun _ _ _ _ _ => pts_nil)
          (fun _ _ _ _ _ => pe_call GR hr rfl gR F.kp bR .nil pass0 (pa_cons (pv 0) (pa_cons (pe_op op_sub (pv 1) pe_int) pa_nil))))))) pss_nil)
    (pss_cons (ps_set (i := 4) scThing.nd rfl (Or.inl rfl) (pe_call GU hr2 rfl gU kU bU .nil pass0 (pa_cons (pv 0) (pa_cons (pe_lst (pa_cons pe_str (pa_cons pe_str (pa_cons pe_str (pa_cons pe_str (pa_cons pe_str (pa_cons pe_str pa_nil)))))))
        (pa_cons (pe_call GT hr1 rfl gT kT bT .nil pass0 (pa_cons (pv 0) (pa_cons pe_int pa_nil))) pa_nil)))))
    (pss_one (ps_ret (pe_fzK (pe_callTy (call_dictP rfl) (by rfl) B.dict (by decide +kernel) (pa_cons
        (pe_lc (own := [("_law_field", 5)]) (g := gName 5) (tt := tYes) rfl scThing.nd (pi_list (pv 4)) (blkOk_by (N := NgT) (sc := defScope (top 42)) (by decide +kernel))
          (fun _ _ _ _ _ => pg_name (i := 5) scThing.nd rfl (Or.inl rfl)) (fun _ _ _ _ _ => pts_nil)
          (fun _ _ _ _ _ => pe_tup (pa_cons (pv 5) (pa_cons (pe_call GR hr rfl gR F.kp bR .nil pass0 (pa_cons (pv 0) (pa_cons (pe_op op_sub (pv 1) pe_int) pa_nil))) pa_nil)))) pa_nil))))))))), ?_⟩
  obtain ⟨ys0, hp0⟩ := hp.lst
  have pp := potT_pos n
  have pS : potT (n + 1) = 10 + 4 * potT n := rfl
  have cS := cT_pos (n + 1)
  have lS := lT_pos (n + 1)
  refine ⟨_, rfl, p, 6, c, rfl, by decide, by decide, hp, by omega, fun pick H1 pk0 pk1 k1 hp1 => ?_⟩
  obtain ⟨ys1, hq1⟩ := hp1.lst
  refine ⟨_, rfl, _, _, rfl, rfl, _, rfl, ?_⟩
  refine ite2 (fun _ => ?_) (fun _ => ⟨_, rfl, rfl, _, rfl, ite_f (decide_eq_false (fun z => by have := V.int.inj z; omega)) ⟨_, rfl, _, _, rfl, rfl, _, rfl, ?_⟩⟩)
  · refine ⟨_, rfl, p, 2, c + 1, rfl, by decide, by decide, hp1, by omega, fun t H2 t0 t1 k2 hp2 => ⟨rfl, _, rfl, ?_⟩⟩
    refine ite2 (fun _ => ?_) (fun _ => ?_)
    · refine ⟨_, rfl, p, c + 2, rfl, hp2, by omega, fun x d H' h1 h3 k hp' => ?_⟩
      exact q x d H' (th_mono h1 (by omega) (by omega) (by omega)) h3 (k1.trans (k2.trans k)) (hp'.mono (by omega))
    · refine ⟨_, rfl, p, c + 2, rfl, hp2, by omega, fun x d H' h1 h3 k hp' => ?_⟩
      exact q x d H' (th_mono h1 (by omega) (by omega) (by omega)) h3 (k1.trans (k2.trans k)) (hp'.mono (by omega))
  refine ite2 (fun _ => ?_) (fun _ => ?_)
  · refine ⟨_, rfl, p, 4, c + 1, rfl, by decide, by decide, hp1, by omega, fun m H2 m0 m1 k2 hp2 => ⟨m, rfl, by omega, by omega, fun D hD => ?_⟩⟩
    obtain ⟨ys2, hq2⟩ := hp2.lst
    have nD : D ≠ p := fun e => by rw [e, hq2] at hD; cases hD
    have hDH : H D = none := by
      cases z : H D with
      | none => rfl
      | some o => rw [k2 _ _ nD (k1 _ _ nD z)] at hD; cases hD
    have em : m = ((m.toNat : Nat) : Int) := by omega
    rw [em]
    refine lc_range (lo := 0) (n := m.toNat) (fun i H3 => ∃ vs ds, H3 D = some (.lst vs) ∧ vs.length = i ∧ DaL P w H3 vs ds ∧ (∀ d ∈ ds, Th n (cT n) (lT n) d) ∧ Ch p H H3 ∧ PotAt H3 p (c + 2 + i * potT n))
      ⟨[], [], upd_same, rfl, .nil, (fun _ h => nomatch h), (k1.trans k2).trans (.same (same_new hD _)), (hp2.same (same_new hD _)).mono (by omega)⟩ ?_ ?_
    · rintro i H3 hi ⟨vs, ds, hD3, hvl, hda, hdr, k3, hp3⟩
      refine ⟨rfl, ?_⟩
      simp only [tYes, if_true]
      have hb : (i + 1) * potT n ≤ 4 * potT n := Nat.mul_le_mul_right _ (by omega)
      have hb1 : (i + 1) * potT n = i * potT n + potT n := by rw [Nat.add_mul, Nat.one_mul]
      refine ⟨_, rfl, _, rfl, _, _, rfl, rfl, p, c + 2 + i * potT n, ?_, hp3, by omega, fun x d H4 h1 h3 k4 hp4 => ?_⟩
      · show ([V.ref p, V.int (((n + 1 : Nat) : Int) - 1)] : List V) = [V.ref p, V.int (n : Int)]
        rw [show ((n + 1 : Nat) : Int) - 1 = (n : Int) by omega]
      obtain ⟨ys3, hq3⟩ := hp3.lst
      have kp4 : Kp H3 H4 := .ch k4 hq3
      have hD4 := k4 _ _ nD hD3
      have kl : Kp H4 (upd H4 D (.lst (vs ++ [x]))) := .lst hD4 _
      refine ⟨vs, hD4, K00.small1000 (by omega), vs ++ [x], ds ++ [d], upd_same, by simp [hvl], (hda.kp (kp4.trans kl)).snoc (h3.kp kl), fun e he => ?_, fun b o nb e => ?_, ?_⟩
      · rcases List.mem_append.mp he with z | z
        · exact hdr e z
        · rw [List.mem_singleton.mp z]
          exact h1
      · rw [upd_ne (ne_of_none e hDH)]
        exact k4 _ _ nb (k3 _ _ nb e)
      · obtain ⟨x1, x2, x3, z1, z2, z3, z4, z5⟩ := hp4
        refine ⟨x1, x2, x3, by rw [upd_ne (Ne.symm nD)]; exact z1, z2, z3, z4, ?_⟩
        have e1 : (i + 1) * potT n = i * potT n + potT n := by rw [Nat.add_mul, Nat.one_mul]
        rw [e1]
        omega
    · rintro H3 ⟨vs, ds, hD3, hvl, hda, hdr, k3, hp3⟩
      refine ⟨D, _, rfl, hD3, trivial, fun o => ?_⟩
      have hl := hda.length
      have dl : ds.length ≤ 4 := by omega
      have kl : Kp H3 (upd H3 D (.frz o (.lst vs))) := .lst hD3 _
      have hb : m.toNat * potT n ≤ 4 * potT n := Nat.mul_le_mul_right _ (by omega)
      refine q _ (.list ds) _ ⟨isOne_list fun d hd => (hdr d hd).1, (dr_list dl (by omega) fun d hd => (hdr d hd).2.1).mono (Nat.le_refl _) (Nat.le_refl _) (by show _ ≤ 2 + 4 * (lT n + 14); omega), tq_list fun d hd => (hdr d hd).2.2⟩ (.lst upd_same (hda.kp kl)) (fun b o nb e => ?_) ?_
      · rw [upd_ne (ne_of_none e hDH)]
        exact k3 _ _ nb e
      · obtain ⟨x1, x2, x3, z1, z2, z3, z4, z5⟩ := hp3
        exact ⟨x1, x2, x3, by rw [upd_ne (Ne.symm nD)]; exact z1, z2, z3, z4, by omega⟩
  · refine ⟨_, rfl, (by show 6 ≤ sizeLine; decide), fun a ha => ?_⟩
    have nap : a ≠ p := fun e => by rw [e, hq1] at ha; cases ha
    refine ⟨_, rfl, p, 5, c + 1, rfl, by decide, by decide, hp1.same (same_new ha _), by omega, fun m H2 m0 m1 k2 hp2 => ?_⟩
    have ha2 : H2 a = some (.lst ((fieldsW : List Str).map V.str)) := k2 _ _ nap upd_same
    have kH2 : Ch p H H2 := (k1.trans (.same (same_new ha _))).trans k2
    refine ⟨p, a, fieldsW, m, c + 2, rfl, ha2, nap, by decide, m0, by omega, hp2, by omega, fun l ys H3 hl3 hl2 nlp hyl hys k3 hp3 => ?_⟩
    obtain ⟨ys3, hq3⟩ := hp3.lst
    refine ⟨_, rfl, l, rfl, ⟨_, SqL.of hl3⟩, fun D hD => ?_⟩
    have nD : D ≠ p := fun e => by rw [e, hq3] at hD; cases hD
    have nDl : D ≠ l := fun e => by rw [e, hl3] at hD; cases hD
    have hDH : H D = none := by
      cases z : H D with
      | none => rfl
      | some o => rw [k3 _ _ nD (kH2 _ _ nD z)] at hD; cases hD
    refine lc_it (walk_list (K := K) (a := l) (xs := ys.map V.str)) (fun i H4 => ∃ ts kvs, H4 D = some (.lst (ts.map V.ref)) ∧ ts.length = i ∧ Paired (fun (t : Addr) (kv : Key × V) => H4 t = some (.tup [kV kv.1, kv.2])) ts kvs ∧
        (∀ kv ∈ kvs, RE P w KPn (fun d => Th n (cT n) (lT n) d) H4 kv) ∧ H4 l = some (.lst (ys.map V.str)) ∧ Ch p H H4 ∧ PotAt H4 p (c + 2 + m.toNat + i * potT n))
      ⟨[], [], upd_same, rfl, .nil, (fun _ h => nomatch h), by rw [upd_ne (Ne.symm nDl)]; exact hl3, (kH2.trans k3).trans (.same (same_new hD _)), (hp3.same (same_new hD _)).mono (by omega)⟩ (fun _ H4 _ z => by obtain ⟨_, _, _, _, _, _, z, _⟩ := z; exact SqL.of z) ?_ ?_
    · rintro i v H4 H4' hi ⟨ts, kvs, hD4, htl, hpr, hre, hl4, k4, hp4⟩ ⟨rfl, hv⟩
      rw [List.length_map] at hi
      rw [List.getElem?_map, List.getElem?_eq_getElem hi] at hv
      cases hv
      refine ⟨rfl, ?_⟩
      simp only [tYes, if_true]
      have hb : (i + 1) * potT n ≤ 4 * potT n := Nat.mul_le_mul_right _ (by omega)
      have hb1 : (i + 1) * potT n = i * potT n + potT n := by rw [Nat.add_mul, Nat.one_mul]
      refine ⟨_, rfl, _, rfl, _, rfl, _, _, rfl, rfl, p, c + 2 + m.toNat + i * potT n, ?_, hp4, by omega, fun x d H5 h1 h3 k5 hp5 => ⟨(by show 2 ≤ sizeLine; decide), fun t ht => ?_⟩⟩
      · show ([V.ref p, V.int (((n + 1 : Nat) : Int) - 1)] : List V) = [V.ref p, V.int (n : Int)]
        rw [show ((n + 1 : Nat) : Int) - 1 = (n : Int) by omega]
      obtain ⟨ys4, hq4⟩ := hp4.lst
      have kp5 : Kp _ H5 := .ch k5 hq4
      have hD5 := k5 _ _ nD hD4
      have ntD : D ≠ t := ne_of_none hD5 ht
      have k6 := same_new ht (.tup [V.str ys[i], x])
      have hD6 := k6 _ _ hD5
      have kl : Kp (upd H5 t (.tup [V.str ys[i], x])) (upd (upd H5 t (.tup [V.str ys[i], x])) D (.lst (ts.map V.ref ++ [V.ref t]))) := .lst hD6 _
      have kall := kp5.trans ((Kp.same k6).trans kl)
      refine ⟨_, hD6, K00.small1000 (by rw [List.length_map]; omega), ts ++ [t], kvs ++ [(Sum.inr ys[i], x)], by rw [upd_same, List.map_append]; rfl, by simp [htl], ?_, fun kv hkv => ?_, ?_, fun b o nb e => ?_, ?_⟩
      · refine paired_append (Paired.mapP hpr fun t kv z => kall.1 _ _ z) (.cons ?_ .nil)
        rw [upd_ne (Ne.symm ntD)]
        exact upd_same
      · rcases List.mem_append.mp hkv with z | z
        · exact (hre kv z).kp kall
        · rw [List.mem_singleton.mp z]
          exact ⟨ys[i], d, rfl, kp_of (List.all_eq_true.mp six_ok _ (hys _ (List.getElem_mem hi))), h3.kp ((Kp.same k6).trans kl), h1⟩
      · rw [upd_ne (Ne.symm nDl)]
        exact k6 _ _ (k5 _ _ nlp hl4)
      · rw [upd_ne (ne_of_none e hDH)]
        exact k6 _ _ (k5 _ _ nb (k4 _ _ nb e))
      · obtain ⟨x1, x2, x3, z1, z2, z3, z4, z5⟩ := hp5
        refine ⟨x1, x2, x3, by rw [upd_ne (Ne.symm nD)]; exact k6 _ _ z1, z2, z3, z4, ?_⟩
        have e1 : (i + 1) * potT n = i * potT n + potT n := by rw [Nat.add_mul, Nat.one_mul]
        rw [e1]
        omega
    · rintro H4 ⟨ts, kvs, hD4, htl, hpr, hre, hl4, k4, hp4⟩
      rw [List.length_map] at htl hp4
      refine ⟨D, ts, kvs, rfl, SqL.of hD4, Paired.mapP hpr fun t kv z => SqT.of z, fun pd hpd => ⟨pd, _, rfl, upd_same, fun nd o => ?_⟩⟩
      obtain ⟨ds, hda, hdl, hnd, hds⟩ := made_dict (o := o) hpd hre rfl nd
      have hkl : kvs.length = ts.length := (Paired.length hpr).symm
      have dl : ds.length ≤ 4 := by omega
      obtain ⟨ys4, hq4⟩ := hp4.lst
      have npd : pd ≠ p := fun e => by rw [e, hq4] at hpd; cases hpd
      have hb : ys.length * potT n ≤ m.toNat * potT n := Nat.mul_le_mul_right _ hyl
      have hb2 : m.toNat * potT n ≤ 4 * potT n := Nat.mul_le_mul_right _ (by omega)
      refine q _ (.dict ds) _ ⟨isOne_dict fun p hp => ?_, dr_dict dl (by omega) hnd fun p hp => ?_, tq_dict fun p hp => ?_⟩ hda (fun b o' nb e => ?_) ?_
      · obtain ⟨s, e, hk, h1, _⟩ := hds p hp
        exact ⟨⟨s, e, hk.1⟩, h1⟩
      · obtain ⟨s, e, hk, _, h2, _⟩ := hds p hp
        exact ⟨keyN_of (ds := ds) e hk, h2⟩
      · obtain ⟨s, e, hk, _, _, h2⟩ := hds p hp
        exact h2
      · rw [upd_upd]
        exact (same_new hpd _) _ _ (k4 _ _ nb e)
      · rw [upd_upd]
        exact (hp4.same (same_new hpd _)).mono (by omega)
end
end K87
set_option Elab.async false
set_option linter.all false
set_option maxRecDepth 100000
set_option maxHeartbeats 4000000
/-! G87D: the text of a document, as its signs. -/
namespace K87
open PySem PySem.Spec L2 K00 TL
open PyProof.Rows (envOfC sortedS)
/-- a string's signs, quotes and strokes after a stroke -/
def esc : List Nat → List Nat
  | [] => []
  | c :: r => (if c = 34 ∨ c = 92 then [92, c] else [c]) ++ esc r
theorem esc_append : ∀ a b : List Nat, esc (a ++ b) = esc a ++ esc b
  | [], _ => rfl
  | c :: r, b => by
    show (if c = 34 ∨ c = 92 then [92, c] else [c]) ++ esc (r ++ b) = ((if c = 34 ∨ c = 92 then [92, c] else [c]) ++ esc r) ++ esc b
    rw [esc_append r b, List.append_assoc]
theorem esc_len : ∀ a : List Nat, (esc a).length ≤ 2 * a.length
  | [] => Nat.le_refl _
  | c :: r => by
    have := esc_len r
    show ((if c = 34 ∨ c = 92 then [92, c] else [c]) ++ esc r).length ≤ _
    rw [List.length_append, List.length_cons]
    split <;> simp <;> omega
/-- the text of a flat one -/
def wFlat : PyData → List Nat
  | .none => [45]
  | .bool b => if b = true then [121, 101, 115] else [110, 111]
  | .int i => tl (ts i)
  | .str s => 34 :: (esc (tl s) ++ [34])
  | _ => []
mutual
def txI : PyData → List Nat
  | .tuple xs => txT xs
  | _ => []
def txT : List PyData → List Nat
  | [] => []
  | t :: r => match t with
    | .str t => if t = ("word" : Str) then (match r with
        | [.str u] => if u = ("None" : Str) then [45] else if u = ("True" : Str) then [121, 101, 115] else [110, 111]
        | _ => [])
      else if t = ("list" : Str) then 91 :: (jn [44, 32] (txL r) ++ [93])
      else if t = ("record" : Str) then 123 :: (jn [44, 32] (txR r) ++ [125])
      else (match r with
        | [u] => wFlat u
        | _ => [])
    | _ => []
def txL : List PyData → List (List Nat)
  | [] => []
  | x :: r => txI x :: txL r
def txR : List PyData → List (List Nat)
  | [] => []
  | x :: r => txQ x :: txR r
def txQ : PyData → List Nat
  | .tuple ys => txP ys
  | _ => []
def txP : List PyData → List Nat
  | [] => []
  | k :: r => tl (kS k) ++ (58 :: 32 :: (txL r).flatten)
end
theorem txL_eq : ∀ xs, txL xs = xs.map txI
  | [] => rfl
  | x :: r => by rw [txL, txL_eq r, List.map_cons]
theorem txR_eq : ∀ xs, txR xs = xs.map txQ
  | [] => rfl
  | x :: r => by rw [txR, txR_eq r, List.map_cons]
/-- the text of a document -/
def wr (d : PyData) : List Nat := txI (inkD d)
theorem wr_ink {d e : PyData} (h : inkD d = inkD e) : wr d = wr e := congrArg txI h
theorem wr_non : wr .none = [45] := by decide +kernel
theorem wr_bool (b : Bool) : wr (.bool b) = if b = true then [121, 101, 115] else [110, 111] := by cases b <;> decide +kernel
theorem wr_int (i : Int) : wr (.int i) = tl (ts i) := rfl
theorem wr_str (s : Str) : wr (.str s) = 34 :: (esc (tl s) ++ [34]) := rfl
theorem wr_list (xs : List PyData) : wr (.list xs) = 91 :: (jn [44, 32] (xs.map wr) ++ [93]) := by
  show txI (inkD (.list xs)) = _
  rw [inkD, inkL_eq]
  show 91 :: (jn [44, 32] (txL (xs.map inkD)) ++ [93]) = _
  rw [txL_eq, List.map_map]
  rfl
def wrow (ds : List (PyData × PyData)) (k : Str) : List Nat := tl k ++ (58 :: 32 :: wr (lookD ds k))
theorem wr_dict {ds : List (PyData × PyData)} {ys : List Str} (n : (ds.map fun p => kS p.1).Nodup) (hp : ys.Perm (ds.map fun p => kS p.1)) (hs : sortedS ys = true) :
    wr (.dict ds) = 123 :: (jn [44, 32] (ys.map (wrow ds)) ++ [125]) := by
  show txI (inkD (.dict ds)) = _
  rw [ink_dict n hp hs]
  show 123 :: (jn [44, 32] (txR (ys.map fun k => pairT (k, inkD (lookD ds k)))) ++ [125]) = _
  rw [txR_eq, List.map_map]
  congr 3
  refine List.map_congr_left fun k _ => ?_
  show tl k ++ (58 :: 32 :: ([txI (inkD (lookD ds k))] : List (List Nat)).flatten) = _
  rw [List.flatten_cons, List.flatten_nil, List.append_nil]
  rfl
/-- a text out of its signs -/
abbrev mk (l : List Nat) : Str := ⟨l.toArray⟩
theorem mk_eq {s : Str} {l : List Nat} (h : tl s = l) : s = mk l := ext_tl h
/-! ### how long -/
def wL : Nat → Nat
  | 0 => 100
  | n + 1 => 2 + 4 * (wL n + 12)
theorem wL_pos : ∀ n, 100 ≤ wL n
  | 0 => Nat.le_refl _
  | n + 1 => by have := wL_pos n; unfold wL; omega
theorem name_len {k : Str} (h : nameB k = true) : (tl k).length ≤ 8 := by
  unfold nameB at h
  obtain ⟨_, h⟩ := He.ba h
  obtain ⟨h, _⟩ := He.ba h
  rw [← len_tl]
  exact of_decide_eq_true h
end K87
set_option Elab.async false
set_option linter.all false
set_option maxRecDepth 100000
set_option maxHeartbeats 4000000
/-! G87E: what documents are told by text. -/
namespace K87
open PySem PySem.Spec L2 K00 TL
open PyProof.Rows (envOfC sortedS)
theorem depth_in7 {n : Nat} {x : PyData} : ∀ {xs : List PyData}, x ∈ xs → x.depth ≤ PyData.depthAll xs
  | y :: r, h => by
    simp only [PyData.depthAll]
    rcases List.mem_cons.mp h with rfl | h
    · omega
    · have := depth_in7 (n := n) h
      omega
theorem depthKv_in7 {p : PyData × PyData} : ∀ {xs : List (PyData × PyData)}, p ∈ xs → p.2.depth ≤ PyData.depthKv xs
  | (k, v) :: r, h => by
    simp only [PyData.depthKv]
    rcases List.mem_cons.mp h with rfl | h
    · show v.depth ≤ _
      omega
    · have := depthKv_in7 h
      omega
theorem depth_kids7 {d x : PyData} (h : x ∈ kids d) : x.depth < d.depth := by
  cases d with
  | list xs =>
    have := depth_in7 (n := 0) (show x ∈ xs from h)
    simp only [PyData.depth]
    omega
  | dict ds =>
    obtain ⟨p, hp, rfl⟩ := List.mem_map.mp h
    have := depthKv_in7 hp
    simp only [PyData.depth]
    omega
  | _ => cases h
/-- a document so deep that a text may be told of -/
structure Tx (n : Nat) (d : PyData) : Prop where
  one : isOne d = true
  nar : SmN 4 d
  dep : d.depth ≤ n
  tq : Tq d
theorem Tx.mono {n m : Nat} {d : PyData} (h : Tx n d) (e : n ≤ m) : Tx m d := ⟨h.one, h.nar, Nat.le_trans h.dep e, h.tq⟩
theorem th_tx {n c L : Nat} {d : PyData} (h : Th n c L d) : Tx n d := ⟨h.1, h.2.1.sm, h.2.1.dep, h.2.2⟩
theorem Tx.sm {n : Nat} {d : PyData} (h : Tx n d) : Sm d := SmN.sm (by decide) h.nar
theorem Tx.kid {n : Nat} {d x : PyData} (h : Tx (n + 1) d) (hx : x ∈ kids d) : Tx n x := by
  refine ⟨isOne_kidsOf h.one x hx, ?_, by have := depth_kids7 hx; have := h.dep; omega, ?_⟩
  · have s := h.nar
    cases d with
    | list xs => exact smNL_iff.mp s.2 x hx
    | dict ds =>
      obtain ⟨p, hp, rfl⟩ := List.mem_map.mp hx
      exact (smNK_iff.mp s.2.2 p hp).2
    | _ => cases hx
  · have s := h.tq
    cases d with
    | list xs => exact tqL_iff.mp s x hx
    | dict ds =>
      obtain ⟨p, hp, rfl⟩ := List.mem_map.mp hx
      exact tqK_iff.mp s p hp
    | _ => cases hx
theorem Tx.no_kid {d x : PyData} (h : Tx 0 d) (hx : x ∈ kids d) : False := by
  have := depth_kids7 hx
  have := h.dep
  omega
theorem Tx.kids4 {n : Nat} {d : PyData} (h : Tx n d) : (kids d).length ≤ 4 := by
  have s := h.nar
  cases d with
  | list xs => exact s.1
  | dict ds => show (ds.map (·.2)).length ≤ 4; rw [List.length_map]; exact s.1
  | _ => exact Nat.zero_le _
theorem tx_cnt : ∀ {n : Nat} {d : PyData}, Tx n d → cnt d ≤ cT n
  | 0, d, h => by
    rw [cnt_kids]
    have e : kids d = [] := List.eq_nil_iff_forall_not_mem.mpr fun x hx => h.no_kid hx
    rw [e]
    exact Nat.le_refl _
  | n + 1, d, h => by
    rw [cnt_kids]
    have h1 : ((kids d).map cnt).sum ≤ ((kids d).map cnt).length * cT n := sum_le7 fun y hy => by
      obtain ⟨x, hx, rfl⟩ := List.mem_map.mp hy
      exact tx_cnt (h.kid hx)
    rw [List.length_map] at h1
    have h2 : (kids d).length * cT n ≤ 4 * cT n := Nat.mul_le_mul_right _ h.kids4
    show _ ≤ 1 + 4 * cT n
    omega
/-- the fields, sorted -/
def fls (ds : List (PyData × PyData)) : List Str := (isort (inkK ds)).map (·.1)
theorem fls_perm (ds : List (PyData × PyData)) : (fls ds).Perm (ds.map fun p => kS p.1) := isort_keys ds
theorem fls_sorted (ds : List (PyData × PyData)) : sortedS (fls ds) = true := PyProof.Rows.sortedS_of_pairwise _ (isort_keys_sorted ds)
theorem wr_dictF {ds : List (PyData × PyData)} (n : (ds.map fun p => kS p.1).Nodup) : wr (.dict ds) = 123 :: (jn [44, 32] ((fls ds).map (wrow ds)) ++ [125]) := wr_dict n (fls_perm ds) (fls_sorted ds)
theorem wFlat_eq {d : PyData} (h : isOne d = true) (h1 : isL d = false) (h2 : isK d = false) : wr d = wFlat d := by
  cases d with
  | none => exact wr_non
  | bool b => exact wr_bool b
  | int i => rfl
  | str s => rfl
  | tuple xs => cases h
  | list xs => cases h1
  | dict ds => cases h2
/-- a field of a record -/
theorem Tx.key {n : Nat} {ds : List (PyData × PyData)} (h : Tx n (.dict ds)) {k : Str} (hk : k ∈ ds.map fun p => kS p.1) : nameB k = true ∧ ∃ p ∈ ds, kS p.1 = k ∧ lookD ds k = p.2 ∧ p.2 ∈ kids (.dict ds) := by
  obtain ⟨p, h1, h2, h3⟩ := lookD_mem hk
  have := isOne_keys h.one p h1
  rw [keyB_str this] at this
  rw [h2] at this
  exact ⟨this, p, h1, h2, h3, List.mem_map.mpr ⟨p, h1, rfl⟩⟩
theorem tx_wr : ∀ {n : Nat} {d : PyData}, Tx n d → (wr d).length ≤ wL n := by
  intro n
  induction n with
  | zero =>
    intro d h
    have s := h.tq
    have hk : ∀ x, x ∈ kids d → False := fun x hx => h.no_kid hx
    show _ ≤ 100
    cases d with
    | none => rw [wr_non]; decide
    | bool b => rw [wr_bool]; cases b <;> decide
    | int i =>
      rw [wr_int, ← len_tl]
      have := ts_len (i := i) s
      omega
    | str t =>
      rw [wr_str]
      have h1 := esc_len (tl t)
      rw [← len_tl] at h1
      have h2 : t.length ≤ 40 := s.1
      rw [List.length_cons, List.length_append]
      show _ + 1 + 1 ≤ 100
      omega
    | tuple xs => cases h.one
    | list xs =>
      have e : xs = [] := List.eq_nil_iff_forall_not_mem.mpr fun x hx => hk x hx
      rw [e, wr_list]
      decide
    | dict ds =>
      have e : ds = [] := List.eq_nil_iff_forall_not_mem.mpr fun x hx => hk _ (List.mem_map.mpr ⟨x, hx, rfl⟩)
      rw [e]
      decide +kernel
  | succ n ih =>
    intro d h
    have p0 := wL_pos n
    have eS : wL (n + 1) = 2 + 4 * (wL n + 12) := rfl
    have s := h.tq
    cases d with
    | none => rw [wr_non]; show 1 ≤ _; omega
    | bool b => rw [wr_bool]; cases b <;> simp <;> omega
    | int i =>
      rw [wr_int, ← len_tl]
      have := ts_len (i := i) s
      omega
    | str t =>
      rw [wr_str]
      have h1 := esc_len (tl t)
      rw [← len_tl] at h1
      have h2 : t.length ≤ 40 := s.1
      rw [List.length_cons, List.length_append]
      show _ + 1 + 1 ≤ _
      omega
    | tuple xs => cases h.one
    | list xs =>
      rw [wr_list, List.length_cons, List.length_append]
      have h1 := jn_len (sep := [44, 32]) (xs.map wr)
      have h2 := sum_le7 (c := wL n + 12) (xs := (xs.map wr).map fun x => x.length + ([44, 32] : List Nat).length) fun z hz => by
        obtain ⟨y, hy, rfl⟩ := List.mem_map.mp hz
        obtain ⟨x, hx, rfl⟩ := List.mem_map.mp hy
        have := ih (h.kid (d := .list xs) hx)
        show _ + 2 ≤ _
        omega
      rw [List.length_map, List.length_map] at h2
      have h3 : xs.length * (wL n + 12) ≤ 4 * (wL n + 12) := Nat.mul_le_mul_right _ h.kids4
      show _ + 1 + 1 ≤ _
      omega
    | dict ds =>
      rw [wr_dictF h.nar.2.1, List.length_cons, List.length_append]
      have h1 := jn_len (sep := [44, 32]) ((fls ds).map (wrow ds))
      have h2 := sum_le7 (c := wL n + 12) (xs := ((fls ds).map (wrow ds)).map fun x => x.length + ([44, 32] : List Nat).length) fun z hz => by
        obtain ⟨y, hy, rfl⟩ := List.mem_map.mp hz
        obtain ⟨k, hk, rfl⟩ := List.mem_map.mp hy
        obtain ⟨hn, p, _, _, hl, hm⟩ := h.key ((fls_perm ds).mem_iff.mp hk)
        have h4 := ih (h.kid hm)
        have h5 := name_len hn
        show (tl k ++ (58 :: 32 :: wr (lookD ds k))).length + 2 ≤ _
        rw [hl, List.length_append, List.length_cons, List.length_cons]
        omega
      rw [List.length_map, List.length_map, (fls_perm ds).length_eq, List.length_map] at h2
      have h3 : ds.length * (wL n + 12) ≤ 4 * (wL n + 12) := Nat.mul_le_mul_right _ h.nar.1
      show _ + 1 + 1 ≤ _
      omega
theorem tx_list {n : Nat} {xs : List PyData} (l : xs.length ≤ 4) (h : ∀ x ∈ xs, Tx n x) : Tx (n + 1) (.list xs) :=
  ⟨isOne_list fun x hx => (h x hx).one, ⟨l, smNL_iff.mpr fun x hx => (h x hx).nar⟩, by
    have := depthAll_le fun x hx => (h x hx).dep
    simp only [PyData.depth]
    omega, tq_list fun x hx => (h x hx).tq⟩
theorem tx_dict {n : Nat} {ds : List (PyData × PyData)} (l : ds.length ≤ 4) (nd : (ds.map fun p => kS p.1).Nodup) (h : ∀ p ∈ ds, (∃ s, p.1 = .str s ∧ nameB s = true) ∧ SmN 4 p.1 ∧ Tx n p.2) : Tx (n + 1) (.dict ds) :=
  ⟨isOne_dict fun p hp => ⟨(h p hp).1, (h p hp).2.2.one⟩, ⟨l, nd, smNK_iff.mpr fun p hp => ⟨(h p hp).2.1, (h p hp).2.2.nar⟩⟩, by
    have := depthKv_le (n := n) fun p hp => (by
      obtain ⟨⟨s, e, _⟩, _, hd⟩ := h p hp
      rw [e]
      exact ⟨Nat.zero_le _, hd.dep⟩ : p.1.depth ≤ n ∧ p.2.depth ≤ n)
    simp only [PyData.depth]
    omega, tq_dict fun p hp => (h p hp).2.2.tq⟩
end K87
set_option Elab.async false
set_option linter.all false
set_option maxRecDepth 100000
set_option maxHeartbeats 8000000
/-! G87F: _law_turned. -/
namespace K00
open PySem PySem.Spec L2
open PyProof.Rows (envOfC sortedS)
theorem paired_rev {α β : Type} {F : α → β → Prop} : ∀ {xs : List α} {ys : List β}, Paired F xs ys → Paired F xs.reverse ys.reverse
  | _, _, .nil => .nil
  | _, _, .cons a t => by
    rw [List.reverse_cons, List.reverse_cons]
    exact paired_append (paired_rev t) (.cons a .nil)
theorem DaE.append {P : Program} {w : World} {H : Hp} : ∀ {xs ys : List (V × V)} {ds es : List (PyData × PyData)}, DaE P w H xs ds → DaE P w H ys es → DaE P w H (xs ++ ys) (ds ++ es)
  | _, _, _, _, .nil, q => q
  | _, _, _, _, .cons k h r, q => .cons k h (DaE.append r q)
theorem DaE.rev {P : Program} {w : World} {H : Hp} : ∀ {xs : List (V × V)} {ds : List (PyData × PyData)}, DaE P w H xs ds → DaE P w H xs.reverse ds.reverse
  | _, _, .nil => .nil
  | _, _, .cons k h r => by
    rw [List.reverse_cons, List.reverse_cons]
    exact (DaE.rev r).append (.cons k h .nil)
theorem put_new {kvs : List (Key × V)} {k : Key} {v : V} (h : k ∉ kvs.map (·.1)) : putK kvs k v = kvs ++ [(k, v)] := by
  unfold putK
  rw [if_neg]
  intro z
  obtain ⟨kv, hkv, e⟩ := List.any_eq_true.mp z
  exact h (List.mem_map.mpr ⟨kv, hkv, of_decide_eq_true e⟩)
theorem merge_new : ∀ {more kvs : List (Key × V)}, ((kvs ++ more).map (·.1)).Nodup → mergeK kvs more = kvs ++ more
  | [], kvs, _ => by simp [mergeK]
  | (k, v) :: r, kvs, h => by
    have h1 : k ∉ kvs.map (·.1) := fun z => by
      rw [List.map_append, List.map_cons] at h
      have := (List.pairwise_append.mp h).2.2 k z k List.mem_cons_self
      exact this rfl
    show mergeK (putK kvs k v) r = _
    rw [put_new h1, merge_new (by rw [List.append_assoc]; exact h), List.append_assoc]
    rfl
theorem paired_map_eq {α β γ : Type} {F : α → β → Prop} {g : α → γ} {h : β → γ} : ∀ {xs : List α} {ys : List β}, Paired F xs ys → (∀ a b, F a b → g a = h b) → xs.map g = ys.map h
  | _, _, .nil, _ => rfl
  | _, _, .cons a t, q => by rw [List.map_cons, List.map_cons, q _ _ a, paired_map_eq t q]
theorem paired_memR {α β : Type} {F : α → β → Prop} : ∀ {xs : List α} {ys : List β}, Paired F xs ys → ∀ {y : β}, y ∈ ys → ∃ x ∈ xs, F x y
  | _, _, .cons h t, y, hy => by
    rcases List.mem_cons.mp hy with e | hy
    · rw [e]; exact ⟨_, List.mem_cons_self, h⟩
    · obtain ⟨x, h1, h2⟩ := paired_memR t hy
      exact ⟨x, List.mem_cons_of_mem _ h1, h2⟩
theorem paired_memL {α β : Type} {F : α → β → Prop} : ∀ {xs : List α} {ys : List β}, Paired F xs ys → ∀ {x : α}, x ∈ xs → ∃ y ∈ ys, F x y
  | _, _, .cons h t, y, hy => by
    rcases List.mem_cons.mp hy with e | hy
    · rw [e]; exact ⟨_, List.mem_cons_self, h⟩
    · obtain ⟨x, h1, h2⟩ := paired_memL t hy
      exact ⟨x, List.mem_cons_of_mem _ h1, h2⟩
theorem look_all {P : Program} {w : World} {H : Hp} {kvs : List (Key × V)} {ds : List (PyData × PyData)} {k : Str} (r : DaE P w H (kvs.map fun p => (kV p.1, p.2)) ds) (e : kvs.map (·.1) = (ds.map fun p => kS p.1).map Sum.inr)
    (n : (ds.map fun p => kS p.1).Nodup) (hk : k ∈ ds.map fun p => kS p.1) : ∃ v p, valV kvs (Sum.inr k) = some v ∧ p ∈ ds ∧ kS p.1 = k ∧ lookD ds k = p.2 ∧ Da P w H v p.2 := by
  obtain ⟨v, h1, h2⟩ := look_val r e hk
  obtain ⟨p, h3, h4, h5⟩ := lookD_mem hk
  rw [h5] at h2
  exact ⟨v, p, h1, h3, h4, h5, h2⟩
end K00
namespace K87
open PySem PySem.Spec L2 K00 TL
open PyProof.Rows (envOfC sortedS)
/-- as the same document, perhaps with its fields turned -/
def Tm (n : Nat) (e d : PyData) : Prop := Tx n e ∧ inkD e = inkD d
theorem turned_list7 {n : Nat} {xs ys : List PyData} (l : ys.length ≤ 4) (hp : Paired (Tm n) xs ys) : Tm (n + 1) (.list xs) (.list ys) := by
  have hl : xs.length = ys.length := Paired.length hp
  refine ⟨tx_list (by omega) fun x hx => ?_, ?_⟩
  · obtain ⟨y, _, z⟩ := paired_memL hp hx
    exact z.1
  · rw [inkD, inkD, inkL_eq, inkL_eq, paired_map_eq hp fun a b z => z.2]
theorem turned_dict7 {n : Nat} {ds dsr ds2 : List (PyData × PyData)} (hd : Tx (n + 1) (.dict ds)) (hr : dsr.Perm ds) (hp : Paired (fun (q dd : PyData × PyData) => q.1 = .str (kS dd.1) ∧ Tm n q.2 dd.2) ds2 dsr) : Tm (n + 1) (.dict ds2) (.dict ds) := by
  obtain ⟨s1, s2, s3⟩ := hd.nar
  have hk := isOne_keys hd.one
  have ek : (ds2.map fun p => kS p.1) = dsr.map fun p => kS p.1 := paired_map_eq hp fun a b z => by rw [z.1]; rfl
  have pk : (ds2.map fun p => kS p.1).Perm (ds.map fun p => kS p.1) := by rw [ek]; exact hr.map _
  have n2 : (ds2.map fun p => kS p.1).Nodup := pk.nodup_iff.mpr s2
  have hl : ds2.length = ds.length := (Paired.length hp).trans hr.length_eq
  refine ⟨tx_dict (by omega) n2 fun p hpm => ?_, ?_⟩
  · obtain ⟨dd, hdd, e1, e2⟩ := paired_memL hp hpm
    have hm := hr.mem_iff.mp hdd
    have h1 := (smNK_iff.mp s3 dd hm).1
    have h2 := hk dd hm
    rw [keyB_str h2] at h1 h2
    rw [e1]
    exact ⟨⟨_, rfl, h2⟩, h1, e2.1⟩
  · have hs : sortedS (fls ds) = true := fls_sorted ds
    rw [ink_dict s2 (fls_perm ds) hs, ink_dict n2 ((fls_perm ds).trans pk.symm) hs]
    congr 2
    refine List.map_congr_left fun k hkm => ?_
    obtain ⟨p, hpm, rfl⟩ := List.mem_map.mp ((fls_perm ds).mem_iff.mp hkm)
    obtain ⟨q, hq, e1, e2⟩ := paired_memR hp (hr.mem_iff.mpr hpm)
    have e3 : kS q.1 = kS p.1 := by rw [e1]; rfl
    rw [lookD_of s2 hpm, ← e3, lookD_of n2 hq, e2.2]
theorem dae_of7 {P : Program} {w : World} {H : Hp} {n : Nat} : ∀ {kvs : List (Key × V)} {dsr : List (PyData × PyData)}, Paired (fun (kv : Key × V) (dd : PyData × PyData) => kv.1 = Sum.inr (kS dd.1) ∧ ∃ e, Da P w H kv.2 e ∧ Tm n e dd.2) kvs dsr →
    ∃ ds2, DaE P w H (kvs.map fun p => (kV p.1, p.2)) ds2 ∧ Paired (fun (q dd : PyData × PyData) => q.1 = .str (kS dd.1) ∧ Tm n q.2 dd.2) ds2 dsr
  | _, _, .nil => ⟨[], .nil, .nil⟩
  | (k, v) :: r, dd :: dr, .cons ⟨e1, e, h1, h2⟩ t => by
    obtain ⟨ds2, h3, h4⟩ := dae_of7 t
    have e1' : k = Sum.inr (kS dd.1) := e1
    subst e1'
    exact ⟨(.str (kS dd.1), e) :: ds2, .cons (.str _) h1 h3, .cons ⟨rfl, h2⟩ h4⟩
section
variable {P : Program} {w : World} {K : PySem.W.Frag} {mg : Str → Option Value} {base : Heap} {f g g2 g3 : Addr} {fd gd gd2 gd3 : FuncData}
def spTurned (P : Program) (w : World) (n : Nat) : Sp := fun vs H Q _ => ∃ (x : V) (d : PyData), vs = [x] ∧ Da P w H x d ∧ Tx n d ∧ ∀ x' d' H', Same H H' → Da P w H' x' d' → Tm n d' d → Q x' H'
abbrev NgU : List Str := ["_law_document", "_law_part", "_law_field"]
theorem scTurned : FnScope NgU ["_law_document"] (defScope (top 43)) := ⟨rfl, rfl, rfl, by decide +kernel, rfl, by decide +kernel, by decide +kernel⟩
theorem ok_turned {n : Nat} (F : FnD K "_law_turned" 43 f fd) (B : Bl mg) (GR : FnOk P w K mg base CX0 n f fd ["_law_document"] (fun vs H Q E => ∃ m, m + 1 = n ∧ spTurned P w m vs H Q E)) (bR : Binds K fd ["_law_document"] []) (gR : mg "_law_turned" = some (.ref f)) :
    FnOk P w K mg base CX0 (n + 1) f fd ["_law_document"] (spTurned P w n) := by
  refine F.ok scTurned (fun vs H Q E h => ?_) (fun cdv A outer s H vs Q E hr h => ?_)
  · obtain ⟨x, d, rfl, _⟩ := h
    rfl
  obtain ⟨x, d, rfl, hd, tx, q⟩ := h
  have hu := hu_of hr
  refine ⟨_, PSs.nox (pss_cons (ps_if (pt_val (pe_callB call_isDa (by rfl) B.isi (by decide +kernel) (pa_cons (pv 0) (pa_cons (pe_bltn (v := .ty "list") (by rfl) B.list (by decide +kernel) rfl) pa_nil)))) (pss_one (ps_ret
        (pe_fz (pe_lc (own := [("_law_part", 1)]) (g := gName 1) (tt := tYes) rfl scTurned.nd (pi_list (pv 0)) (blkOk_by (N := NgU) (sc := defScope (top 43)) (by decide +kernel))
            (fun _ _ _ _ _ => pg_name (i := 1) scTurned.nd rfl (Or.inl rfl)) (fun _ _ _ _ _ => pts_nil) (fun _ _ _ _ _ => pe_call GR hr rfl gR F.kp bR .nil pass0 (pa_cons (pv 1) pa_nil)))))) pss_nil)
    (pss_cons (ps_if (pt_val (pe_callB call_isDa (by rfl) B.isi (by decide +kernel) (pa_cons (pv 0) (pa_cons (pe_bltn (v := .ty "dict") (by rfl) B.dict (by decide +kernel) rfl) pa_nil)))) (pss_one (ps_ret
        (pe_fzK (pe_callTy (call_dictP rfl) (by rfl) B.dict (by decide +kernel) (pa_cons
          (pe_lc (own := [("_law_field", 2)]) (g := gName 2) (tt := tYes) rfl scTurned.nd (pi_list (pe_revL (pe_callTy (call_listD rfl) (by rfl) B.list (by decide +kernel) (pa_cons (pv 0) pa_nil))))
            (blkOk_by (N := NgU) (sc := defScope (top 43)) (by decide +kernel))
            (fun _ _ _ _ _ => pg_name (i := 2) scTurned.nd rfl (Or.inl rfl)) (fun _ _ _ _ _ => pts_nil)
            (fun _ _ _ _ _ => pe_tup (pa_cons (pv 2) (pa_cons (pe_call GR hr rfl gR F.kp bR .nil pass0 (pa_cons (pe_dget hu (pv 0) (pv 2) (fun _ _ => rfl)) pa_nil)) pa_nil)))) pa_nil))))) pss_nil)
    (pss_one (ps_ret (pv 0))))), ?_⟩
  have two : (2 : Nat) ≤ sizeLine := by decide
  have self : Tm n d d := ⟨tx, rfl⟩
  have hs := tx.sm
  have od := tx.one
  cases hd with
  | non => exact ⟨_, rfl, _, "list", _, _, rfl, .non, kt_l _, _, rfl, iteF ⟨_, rfl, _, "dict", _, _, rfl, .non, kt_k _, _, rfl, iteF ⟨_, rfl, q _ _ H (same_refl H) .non self⟩⟩⟩
  | bl b => exact ⟨_, rfl, _, "list", _, _, rfl, .bl b, kt_l _, _, rfl, iteF ⟨_, rfl, _, "dict", _, _, rfl, .bl b, kt_k _, _, rfl, iteF ⟨_, rfl, q _ _ H (same_refl H) (.bl b) self⟩⟩⟩
  | int b => exact ⟨_, rfl, _, "list", _, _, rfl, .int b, kt_l _, _, rfl, iteF ⟨_, rfl, _, "dict", _, _, rfl, .int b, kt_k _, _, rfl, iteF ⟨_, rfl, q _ _ H (same_refl H) (.int b) self⟩⟩⟩
  | str b => exact ⟨_, rfl, _, "list", _, _, rfl, .str b, kt_l _, _, rfl, iteF ⟨_, rfl, _, "dict", _, _, rfl, .str b, kt_k _, _, rfl, iteF ⟨_, rfl, q _ _ H (same_refl H) (.str b) self⟩⟩⟩
  | tup h r => exact (Bool.false_ne_true (show false = true from od)).elim
  | @lst a o xs ds h r =>
    refine ⟨_, rfl, _, "list", _, _, rfl, .lst h r, kt_l _, _, rfl, iteT ⟨_, rfl, a, rfl, ⟨_, .inl (.inr ⟨o, h⟩)⟩, fun D hD => ?_⟩⟩
    have hl := r.length
    have l1 : ds.length ≤ 4 := tx.nar.1
    have fin : ∀ m, m + 1 = n → True := fun _ _ => trivial
    have nE : ds = [] ∨ ∃ m, m + 1 = n := by
      cases n with
      | zero => exact .inl (List.eq_nil_iff_forall_not_mem.mpr fun x hx => tx.no_kid (d := .list ds) hx)
      | succ m => exact .inr ⟨m, rfl⟩
    refine lc_it (walk_list (K := K) (a := a) (xs := xs)) (fun i H2 => Same H H2 ∧ ∃ vs ds2, H2 D = some (.lst vs) ∧ vs.length = i ∧ DaL P w H2 vs ds2 ∧ Paired (Tm (n - 1)) ds2 (ds.take i)) ⟨same_new hD _, [], [], upd_same, rfl, .nil, .nil⟩ (fun _ H2 _ z => .inl (.inr ⟨o, z.1 _ _ h⟩)) ?_ ?_
    · rintro i v H2 H2' hi ⟨k2, vs, ds2, hD2, hvl, hda, hpr⟩ ⟨rfl, hv⟩
      obtain ⟨p, hpi, hvp⟩ := r.get hv
      have hm := List.mem_of_getElem? hpi
      obtain ⟨m, rfl⟩ : ∃ m, m + 1 = n := by
        rcases nE with z | z
        · rw [z] at hm; cases hm
        · exact z
      refine ⟨rfl, ?_⟩
      simp only [tYes, if_true]
      refine ⟨_, rfl, m, rfl, v, p, rfl, hvp.kp (.same k2), tx.kid (d := .list ds) hm, fun x' d' H3 k3 ht tn => ⟨vs, k3 _ _ hD2, K00.small1000 (by omega), fun b o' e => ?_, vs ++ [x'], ds2 ++ [d'], upd_same, by simp [hvl], ?_, ?_⟩⟩
      · rw [upd_ne (ne_of_none e hD)]
        exact k3 _ _ (k2 _ _ e)
      · exact (hda.kp ((Kp.same k3).trans (.lst (k3 _ _ hD2) _))).snoc (ht.kp (.lst (k3 _ _ hD2) _))
      · rw [List.take_add_one, hpi]
        exact paired_append hpr (.cons tn .nil)
    · rintro H2 ⟨k2, vs, ds2, hD2, hvl, hda, hpr⟩
      rw [hl, List.take_length] at hpr
      refine ⟨D, _, rfl, hD2, trivial, fun o' => q _ (.list ds2) _ (fun b o'' e => ?_) (.lst upd_same (hda.kp (.lst hD2 _))) ?_⟩
      · rw [upd_ne (ne_of_none e hD)]
        exact k2 _ _ e
      · rcases nE with z | ⟨m, rfl⟩
        · subst z
          cases hpr
          exact self
        · exact turned_list7 l1 hpr
  | @dic a o es ds h r =>
    have hk := isOne_keys od
    obtain ⟨kvs0, hf, rfl, hks⟩ := doc_dict h r hk
    refine ⟨_, rfl, _, "list", _, _, rfl, .dic h r, kt_l _, _, rfl, iteF ⟨_, rfl, _, "dict", _, _, rfl, .dic h r, kt_k _, _, rfl, iteT ⟨_, rfl, a, kvs0, rfl, .inr ⟨o, hf⟩, fun l hl => ?_⟩⟩⟩
    obtain ⟨s1, s2, s3⟩ := id tx.nar
    have k1 := same_new hl (.lst (kvs0.map fun kv => kV kv.1))
    refine ⟨l, _, rfl, SqL.of upd_same, fun l2 hl2 => ⟨l2, rfl, ⟨_, SqL.of upd_same⟩, fun D hD => ?_⟩⟩
    have ekey : (kvs0.map fun kv => kV kv.1).reverse = (ds.reverse.map fun p => kS p.1).map V.str := by
      have e1 : (kvs0.map fun kv => kV kv.1) = (kvs0.map (·.1)).map kV := by rw [List.map_map]; rfl
      rw [e1, hks, ← List.map_reverse, ← List.map_reverse, List.map_map, ← List.map_reverse]
      rfl
    rw [ekey] at hD ⊢
    have kl2 := same_new hl2 (.lst ((ds.reverse.map fun p => kS p.1).map V.str))
    have k2 := k1.trans kl2
    have nE : ds = [] ∨ ∃ m, m + 1 = n := by
      cases n with
      | zero => exact .inl (List.eq_nil_iff_forall_not_mem.mpr fun x hx => tx.no_kid (d := .dict ds) (List.mem_map.mpr ⟨x, hx, rfl⟩))
      | succ m => exact .inr ⟨m, rfl⟩
    refine lc_it (walk_list (K := K) (a := l2) (xs := (ds.reverse.map fun p => kS p.1).map V.str)) (fun i H2 => Same (upd (upd H l (.lst (kvs0.map fun kv => kV kv.1))) l2 (.lst ((ds.reverse.map fun p => kS p.1).map V.str))) H2 ∧ ∃ us kvs, H2 D = some (.lst (us.map V.ref)) ∧ us.length = i ∧ Paired (fun (u : Addr) (kv : Key × V) => H2 u = some (.tup [kV kv.1, kv.2])) us kvs ∧
        Paired (fun (kv : Key × V) (dd : PyData × PyData) => kv.1 = Sum.inr (kS dd.1) ∧ ∃ e, Da P w H2 kv.2 e ∧ Tm (n - 1) e dd.2) kvs (ds.reverse.take i)) ⟨same_new hD _, [], [], upd_same, rfl, .nil, .nil⟩ (fun _ H2 _ z => SqL.of (z.1 _ _ upd_same)) ?_ ?_
    · rintro i v H2 H2' hi ⟨k3, us, kvs, hD2, hul, hpu, hpk⟩ ⟨rfl, hv⟩
      rw [List.length_map, List.length_map] at hi
      rw [List.getElem?_map, List.getElem?_map, List.getElem?_eq_getElem hi] at hv
      have hv' : V.str (kS ds.reverse[i].1) = v := Option.some.inj hv
      subst hv'
      have hdd : ds.reverse[i]? = some ds.reverse[i] := List.getElem?_eq_getElem hi
      have hm : ds.reverse[i] ∈ ds := List.mem_reverse.mp (List.getElem_mem hi)
      generalize ds.reverse[i] = dd at hdd hm
      have hm2 : dd.2 ∈ kids (.dict ds) := List.mem_map.mpr ⟨dd, hm, rfl⟩
      obtain ⟨m, rfl⟩ : ∃ m, m + 1 = n := by
        rcases nE with z | z
        · rw [z] at hm; cases hm
        · exact z
      obtain ⟨u, p, hu1, hpm, hpk1, _, hpd⟩ := look_all r hks s2 (List.mem_map.mpr ⟨dd, hm, rfl⟩)
      obtain rfl := nodup_fn s2 hpm hm hpk1
      have kH := k2.trans k3
      refine ⟨rfl, ?_⟩
      simp only [tYes, if_true]
      refine ⟨_, rfl, _, rfl, _, rfl, a, u, rfl, .inl ⟨kvs0, Sum.inr (kS p.1), .inr ⟨o, kH _ _ hf⟩, rfl, hu1.symm⟩, m, rfl, u, p.2, rfl, hpd.kp (.same kH), tx.kid hm2, fun x' d' H3 k4 ht tn => ⟨two, fun t ht2 => ?_⟩⟩
      have hD3 := k4 _ _ hD2
      have k5 := same_new ht2 (.tup [.str (kS p.1), x'])
      have hD4 := k5 _ _ hD3
      have nuD : D ≠ t := ne_of_none hD3 ht2
      have kall : Kp H2' (upd (upd H3 t (.tup [.str (kS p.1), x'])) D (.lst (us.map V.ref ++ [V.ref t]))) := (Kp.same (k4.trans k5)).trans (.lst hD4 _)
      refine ⟨_, hD4, K00.small1000 (by rw [List.length_map]; rw [List.length_reverse] at hi; omega), fun b o' e => ?_, us ++ [t], kvs ++ [(Sum.inr (kS p.1), x')], by rw [upd_same, List.map_append]; rfl, by simp [hul], ?_, ?_⟩
      · rw [upd_ne (ne_of_none e hD)]
        exact k5 _ _ (k4 _ _ (k3 _ _ e))
      · refine paired_append (Paired.mapP hpu fun t kv z => kall.1 _ _ z) (.cons ?_ .nil)
        rw [upd_ne (Ne.symm nuD)]
        show upd H3 t (.tup [.str (kS p.1), x']) t = some (.tup [V.str (kS p.1), x'])
        rw [upd_same]
      · rw [List.take_add_one, hdd]
        exact paired_append (Paired.mapP hpk fun kv d ⟨z1, e, z2, z3⟩ => ⟨z1, e, z2.kp kall, z3⟩) (.cons ⟨rfl, d', ht.kp ((Kp.same k5).trans (.lst hD4 _)), tn⟩ .nil)
    · rintro H2 ⟨k3, us, kvs, hD2, hul, hpu, hpk⟩
      have et : ds.reverse.take ((ds.reverse.map fun p => kS p.1).map V.str).length = ds.reverse := List.take_of_length_le (by rw [List.length_map, List.length_map]; exact Nat.le_refl _)
      rw [et] at hpk
      refine ⟨D, us, kvs, rfl, SqL.of hD2, Paired.mapP hpu fun t kv z => SqT.of z, fun pd hpd => ⟨pd, _, rfl, upd_same, fun nd o' => ?_⟩⟩
      have ekv : kvs.map (·.1) = (ds.reverse.map fun p => kS p.1).map Sum.inr := by rw [List.map_map]; exact paired_map_eq hpk fun a b z => z.1
      have nkv : (kvs.map (·.1)).Nodup := by
        rw [ekv]
        refine List.pairwise_map.mpr ?_
        have n1 : (ds.reverse.map fun p => kS p.1).Nodup := (((List.reverse_perm ds).map fun p => kS p.1).nodup_iff).mpr s2
        exact n1.imp fun h z => h (Sum.inr.inj z)
      have em : mergeK [] kvs = kvs := merge_new nkv
      rw [em]
      obtain ⟨ds2, h3, h4⟩ := dae_of7 hpk
      rw [upd_upd]
      refine q _ (.dict ds2) _ ((k2.trans k3).trans (same_new hpd _)) (.dic (.inl ⟨kvs, upd_same, rfl⟩) (h3.kp (.new hpd _))) ?_
      rcases nE with z | ⟨m, rfl⟩
      · subst z
        cases h4
        exact self
      · exact turned_dict7 tx (List.reverse_perm ds) h4
end
end K87
set_option Elab.async false
set_option linter.all false
set_option maxRecDepth 100000
set_option maxHeartbeats 8000000
/-! G87G: _law_writ. -/
namespace K87
open PySem PySem.Spec L2 K00 TL
open PyProof.Rows (envOfC sortedS)
/-- a text once or not at all -/
def rMulB : R2 := fun x y H Q => ∃ (a : Str) (b : Bool), x = .str a ∧ y = .int (if b = true then 1 else 0) ∧ Q (.str (if b = true then a else mk [])) H
theorem op_mulB {X : Cx} : OpR X (binaryOp .Mult) rMulB := by
  intro pins s σ H x y v u Q I rx ry h
  obtain ⟨a, b, rfl, rfl, q⟩ := h
  obtain ⟨t, rfl⟩ := rx
  obtain ⟨t', rfl⟩ := ry
  cases b with
  | true =>
    refine PySem.P.mul_str (by decide) (fun _ h => nomatch h) (fun _ h => nomatch h) ?_
    exact ⟨.str a, H, I, ⟨_, rfl⟩, q⟩
  | false =>
    refine PySem.P.mul_str (by decide) (fun h _ => absurd (by decide) h) (fun h _ => absurd (by decide) h) ?_
    exact ⟨by decide, .str (mk []), H, I.tok _, ⟨_, rfl⟩, q⟩
def e1 (c : Nat) : List Nat := if c = 34 ∨ c = 92 then [92, c] else [c]
theorem esc_flat : ∀ l : List Nat, esc l = (l.map e1).flatten
  | [] => rfl
  | c :: r => by
    show (if c = 34 ∨ c = 92 then [92, c] else [c]) ++ esc r = _
    rw [esc_flat r, List.map_cons, List.flatten_cons]
    rfl
theorem jn_nil : ∀ xs : List (List Nat), jn [] xs = xs.flatten
  | [] => rfl
  | [x] => by simp [jn]
  | x :: y :: r => by
    show x ++ [] ++ jn [] (y :: r) = _
    rw [jn_nil (y :: r), List.append_nil]
    rfl
theorem join_mk (y : Str) (ls : List (List Nat)) : tl (Txt.join y (ls.map mk)) = jn (tl y) ls := by
  rw [join_tl, List.map_map]
  congr 1
  exact List.map_id'' (fun _ => rfl) ls
theorem sum_len {ls : List (List Nat)} {c : Nat} (h : ∀ l ∈ ls, l.length ≤ c) : ((ls.map mk).map (·.length)).sum ≤ ls.length * c := by
  have := sum_le7 (c := c) (xs := (ls.map mk).map (·.length)) fun z hz => by
    obtain ⟨s, hs, rfl⟩ := List.mem_map.mp hz
    obtain ⟨l, hl, rfl⟩ := List.mem_map.mp hs
    show (mk l).length ≤ c
    rw [len_tl]
    exact h l hl
  rwa [List.length_map, List.length_map] at this
theorem mk_len (l : List Nat) : (mk l).length = l.length := rfl
theorem wL_mono (n : Nat) : wL n + 12 ≤ wL (n + 1) := by
  show _ ≤ 2 + 4 * (wL n + 12)
  omega
theorem e1_eq (c : Nat) : (if decide (c ∈ tl ("\"\\" : Str)) = true then ("\\" : Str) else mk []) ++ mk [c] = mk (e1 c) := by
  have hs : tl ("\"\\" : Str) = [34, 92] := by decide +kernel
  have h1 : ("\\" : Str) = mk [92] := by decide +kernel
  rw [hs, h1]
  refine ext_tl ?_
  rw [tl_append]
  show tl (if _ then mk [92] else mk []) ++ [c] = e1 c
  unfold e1
  by_cases h : c = 34 ∨ c = 92
  · rw [if_pos h, if_pos (decide_eq_true (by simpa using h))]
    rfl
  · rw [if_neg h, if_neg (by simpa using h)]
    rfl
/-- two texts and something between -/
theorem between (a b : Nat) (l : List Nat) (A B M : Str) (hA : tl A = [a]) (hB : tl B = [b]) (hM : tl M = l) : (A ++ M) ++ B = mk (a :: (l ++ [b])) := by
  refine ext_tl ?_
  rw [tl_append, tl_append, hA, hB, hM]
  rfl
theorem jn_le {sep : List Nat} {ls : List (List Nat)} {c : Nat} (h : ∀ l ∈ ls, l.length ≤ c) : (jn sep ls).length ≤ ls.length * (c + sep.length) := by
  refine Nat.le_trans (jn_len _) ?_
  have := sum_le7 (c := c + sep.length) (xs := ls.map fun x => x.length + sep.length) fun z hz => by
    obtain ⟨x, hx, rfl⟩ := List.mem_map.mp hz
    have := h x hx
    omega
  rwa [List.length_map] at this
/-- texts put together, between two signs -/
theorem wrapJ {K : PySem.W.Frag} {H : Hp} {D : Addr} {A B y : Str} {a b c : Nat} {ls : List (List Nat)} {Q : VK} (hD : H D = some (.lst (ls.map fun l => V.str (mk l)))) (hA : tl A = [a]) (hB : tl B = [b]) (hc : ∀ l ∈ ls, l.length ≤ c) (hy : y.length ≤ 2)
    (hb : ls.length * (c + 2) ≤ 900000) (q : Q (.str (mk (a :: (jn (tl y) ls ++ [b])))) H) :
    ∃ (a' : Str) (p : Addr) (ys : List Str), V.str y = .str a' ∧ [V.ref D] = [.ref p] ∧ (SqL K H p (ys.map V.str) ∨ SqT K H p (ys.map V.str)) ∧ (ys.map fun x => x.length).sum + ys.length * a'.length ≤ 16777216 ∧
      ∃ i j, V.str A = .str i ∧ V.str (Txt.join a' ys) = .str j ∧ i.length + j.length ≤ sizeLine ∧ ∃ i' j', V.str (i ++ j) = .str i' ∧ V.str B = .str j' ∧ i'.length + j'.length ≤ sizeLine ∧ Q (.str (i' ++ j')) H := by
  have eL : (ls.map fun l => V.str (mk l)) = (ls.map mk).map V.str := by rw [List.map_map]; rfl
  rw [eL] at hD
  have e2 : tl (Txt.join y (ls.map mk)) = jn (tl y) ls := join_mk y ls
  have sl := sum_len hc
  have jl := jn_le (sep := tl y) hc
  rw [← len_tl] at jl
  have b1 : ls.length * (c + y.length) ≤ ls.length * (c + 2) := Nat.mul_le_mul_left _ (by omega)
  have b2 : ls.length * c ≤ ls.length * (c + 2) := Nat.mul_le_mul_left _ (by omega)
  have b3 : ls.length * y.length ≤ ls.length * (c + 2) := Nat.mul_le_mul_left _ (by omega)
  have lA : A.length = 1 := by rw [len_tl, hA]; rfl
  have lB : B.length = 1 := by rw [len_tl, hB]; rfl
  have big : (1000000 : Nat) ≤ sizeLine := by decide
  have lJ : (Txt.join y (ls.map mk)).length ≤ 900000 := by rw [len_tl, e2]; omega
  refine ⟨y, D, ls.map mk, rfl, rfl, .inl (SqL.of hD), by rw [List.length_map]; omega, _, _, rfl, rfl, by omega, _, _, rfl, rfl, ?_, ?_⟩
  · have : (A ++ Txt.join y (ls.map mk)).length = A.length + (Txt.join y (ls.map mk)).length := by rw [len_tl, tl_append, List.length_append, ← len_tl, ← len_tl]
    omega
  · rw [between a b (jn (tl y) ls) A B _ hA hB e2]
    exact q
section
variable {P : Program} {w : World} {K : PySem.W.Frag} {mg : Str → Option Value} {base : Heap} {f g g2 g3 : Addr} {fd gd gd2 gd3 : FuncData}
def spWrit (P : Program) (w : World) (n : Nat) : Sp := fun vs H Q _ => ∃ (x : V) (d : PyData), vs = [x] ∧ Da P w H x d ∧ Tx n d ∧ wL n ≤ 100000 ∧ ∀ H', Same H H' → Q (.str (mk (wr d))) H'
abbrev NgW : List Str := ["_law_document", "_law_sign", "_law_part", "_law_field"]
theorem scWrit : FnScope NgW ["_law_document"] (defScope (top 40)) := ⟨rfl, rfl, rfl, by decide +kernel, rfl, by decide +kernel, by decide +kernel⟩
theorem ok_writ {n : Nat} (F : FnD K "_law_writ" 40 f fd) (B : Bl mg) (GR : FnOk P w K mg base CX0 n f fd ["_law_document"] (fun vs H Q E => ∃ m, m + 1 = n ∧ spWrit P w m vs H Q E)) (bR : Binds K fd ["_law_document"] []) (gR : mg "_law_writ" = some (.ref f)) :
    FnOk P w K mg base CX0 (n + 1) f fd ["_law_document"] (spWrit P w n) := by
  refine F.ok scWrit (fun vs H Q E h => ?_) (fun cdv A outer s H vs Q E hr h => ?_)
  · obtain ⟨x, d, rfl, _⟩ := h
    rfl
  obtain ⟨x, d, rfl, hd, tx, hw, q⟩ := h
  have hu := hu_of hr
  refine ⟨_, PSs.nox (pss_cons (ps_if (pt_cmpR op_isN (pv 0) pe_non (nomark _)) (pss_one (ps_ret pe_str)) pss_nil)
    (pss_cons (ps_if (pt_val (pe_callB call_isDa (by rfl) B.isi (by decide +kernel) (pa_cons (pv 0) (pa_cons (pe_bltn (v := .ty "bool") (by rfl) B.bool (by decide +kernel) rfl) pa_nil)))) (pss_one (ps_ret (pe_ifExp (pt_val (pv 0)) pe_str pe_str))) pss_nil)
    (pss_cons (ps_if (pt_val (pe_callB call_isDa (by rfl) B.isi (by decide +kernel) (pa_cons (pv 0) (pa_cons (pe_bltn (v := .ty "int") (by rfl) B.int (by decide +kernel) rfl) pa_nil)))) (pss_one (ps_ret (pe_callTy call_str_int (by rfl) B.str (by decide +kernel) (pa_cons (pv 0) pa_nil)))) pss_nil)
    (pss_cons (ps_if (pt_val (pe_callB call_isDa (by rfl) B.isi (by decide +kernel) (pa_cons (pv 0) (pa_cons (pe_bltn (v := .ty "str") (by rfl) B.str (by decide +kernel) rfl) pa_nil)))) (pss_one (ps_ret (pe_op op_add_str (pe_op op_add_str pe_str (pe_join pe_str
        (pe_lc (own := [("_law_sign", 1)]) (g := gName 1) (tt := tYes) rfl scWrit.nd (pi_str (pv 0)) (blkOk_by (N := NgW) (sc := defScope (top 40)) (by decide +kernel))
            (fun _ _ _ _ _ => pg_name (i := 1) scWrit.nd rfl (Or.inl rfl)) (fun _ _ _ _ _ => pts_nil)
            (fun _ _ _ _ _ => pe_op op_add_str (pe_op op_mulB pe_str (pe_callTy call_int1 (by rfl) B.int (by decide +kernel) (pa_cons (pe_cmpR op_in_sign (pv 1) pe_str (by rfl)) pa_nil))) (pv 1))))) pe_str))) pss_nil)
    (pss_cons (ps_if (pt_val (pe_callB call_isDa (by rfl) B.isi (by decide +kernel) (pa_cons (pv 0) (pa_cons (pe_bltn (v := .ty "list") (by rfl) B.list (by decide +kernel) rfl) pa_nil)))) (pss_one (ps_ret (pe_op op_add_str (pe_op op_add_str pe_str (pe_join pe_str
        (pe_lc (own := [("_law_part", 2)]) (g := gName 2) (tt := tYes) rfl scWrit.nd (pi_list (pv 0)) (blkOk_by (N := NgW) (sc := defScope (top 40)) (by decide +kernel))
            (fun _ _ _ _ _ => pg_name (i := 2) scWrit.nd rfl (Or.inl rfl)) (fun _ _ _ _ _ => pts_nil)
            (fun _ _ _ _ _ => pe_call GR hr rfl gR F.kp bR .nil pass0 (pa_cons (pv 2) pa_nil))))) pe_str))) pss_nil)
    (pss_one (ps_ret (pe_op op_add_str (pe_op op_add_str pe_str (pe_join pe_str
        (pe_lc (own := [("_law_field", 3)]) (g := gName 3) (tt := tYes) rfl scWrit.nd (pi_list (pe_callB (call_sortedD rfl) (by rfl) B.sorted (by decide +kernel) (pa_cons (pv 0) pa_nil))) (blkOk_by (N := NgW) (sc := defScope (top 40)) (by decide +kernel))
            (fun _ _ _ _ _ => pg_name (i := 3) scWrit.nd rfl (Or.inl rfl)) (fun _ _ _ _ _ => pts_nil)
            (fun _ _ _ _ _ => pe_op op_add_str (pe_op op_add_str (pv 3) pe_str) (pe_call GR hr rfl gR F.kp bR .nil pass0 (pa_cons (pe_dget hu (pv 0) (pv 3) (fun _ _ => rfl)) pa_nil)))))) pe_str)))))))), ?_⟩
  have len2 : ∀ {a b : Str}, a.length + b.length ≤ 1000000 → a.length + b.length ≤ sizeLine := fun h => Nat.le_trans h (by decide)
  have d1 : tl ("\"" : Str) = [34] := by decide +kernel
  have l1_ : tl ("[" : Str) = [91] := by decide +kernel
  have l2 : tl ("]" : Str) = [93] := by decide +kernel
  have m1 : tl ("{" : Str) = [123] := by decide +kernel
  have m2 : tl ("}" : Str) = [125] := by decide +kernel
  have c1 : tl (", " : Str) = [44, 32] := by decide +kernel
  have z1 : tl ("" : Str) = [] := by decide +kernel
  have wlen := tx_wr tx
  have q0 := q H (same_refl H)
  cases hd with
  | non =>
    have e : (Str.ofString "-") = mk (wr .none) := by decide +kernel
    rw [← e] at q0
    exact ⟨_, rfl, rfl, _, rfl, iteT q0⟩
  | bl b =>
    refine ⟨_, rfl, rfl, _, rfl, iteF ⟨_, rfl, _, "bool", _, _, rfl, .bl b, kt_b _, _, rfl, iteT ⟨_, rfl, _, rfl, ?_⟩⟩⟩
    cases b with
    | true =>
      have e : (Str.ofString "yes") = mk (wr (.bool true)) := by decide +kernel
      rw [← e] at q0
      exact iteT q0
    | false =>
      have e : (Str.ofString "no") = mk (wr (.bool false)) := by decide +kernel
      rw [← e] at q0
      exact iteF q0
  | int i =>
    have e : ts i = mk (wr (.int i)) := (mk_tl (ts i)).symm
    rw [← e] at q0
    exact ⟨_, rfl, rfl, _, rfl, iteF ⟨_, rfl, _, "bool", _, _, rfl, .int i, kt_b _, _, rfl, iteF ⟨_, rfl, _, "int", _, _, rfl, .int i, kt_i _, _, rfl, iteT ⟨_, rfl, i, rfl, log_le7 tx.tq, q0⟩⟩⟩⟩
  | str y =>
    refine ⟨_, rfl, rfl, _, rfl, iteF ⟨_, rfl, _, "bool", _, _, rfl, .str y, kt_b _, _, rfl, iteF ⟨_, rfl, _, "int", _, _, rfl, .str y, kt_i _, _, rfl, iteF ⟨_, rfl, _, "str", _, _, rfl, .str y, kt_s _, _, rfl, iteT ⟨⟨_, rfl⟩, _, rfl, y, rfl, fun D hD => ?_⟩⟩⟩⟩⟩
    have yl : y.length ≤ 40 := tx.tq.1
    have yl2 : (tl y).length = y.length := (len_tl y).symm
    refine lc_it (walk_str (z := y)) (fun i H2 => Same H H2 ∧ H2 D = some (.lst ((((tl y).take i).map e1).map fun l => V.str (mk l)))) ⟨same_new hD _, by rw [upd_same]; rfl⟩ (fun _ _ _ _ => trivial) ?_ ?_
    · rintro i v H2 H2' hi ⟨k2, hD2⟩ ⟨rfl, c, hc, rfl⟩
      have hc' : (tl y)[i]? = some c := by rw [← hc]; exact Array.getElem?_toList ..
      refine ⟨rfl, ?_⟩
      simp only [tYes, if_true]
      refine ⟨_, rfl, c, _, rfl, rfl, .inr ⟨_, rfl, _, _, rfl, rfl, _, rfl, _, _, rfl, rfl, ?_, ?_⟩⟩
      · refine len2 ?_
        have e : ∀ b : Bool, (if b = true then (Str.ofString "\\") else mk []).length ≤ 1 := by intro b; cases b <;> decide
        have := e (decide (c ∈ tl ("\"\\" : Str)))
        show (if decide (c ∈ tl ("\"\\" : Str)) = true then (Str.ofString "\\") else mk []).length + (mk [c]).length ≤ _
        have : (mk [c]).length = 1 := rfl
        omega
      · refine ⟨_, hD2, K00.small1000 (by rw [List.length_map, List.length_map, List.length_take]; omega), fun b o e => ?_, ?_⟩
        · rw [upd_ne (ne_of_none e hD)]
          exact k2 _ _ e
        · rw [upd_same, List.take_add_one, hc']
          simp only [Option.toList_some, List.map_append, List.map_cons, List.map_nil]
          congr 4
          exact congrArg V.str (e1_eq c)
    · rintro H2 ⟨k2, hD2⟩
      have et : (tl y).take y.cps.size = tl y := List.take_of_length_le (Nat.le_refl _)
      rw [et] at hD2
      refine wrapJ (c := 2) (ls := (tl y).map e1) (by rw [hD2]) d1 d1 (fun l hl => ?_) (by rw [len_tl, z1]; decide) (by rw [List.length_map]; omega) ?_
      · obtain ⟨c, _, rfl⟩ := List.mem_map.mp hl
        unfold e1
        split
        · exact Nat.le_refl 2
        · exact Nat.le_succ 1
      · rw [z1, jn_nil, ← esc_flat, ← wr_str]
        exact q _ k2
  | tup h r => exact (Bool.false_ne_true (show false = true from tx.one)).elim
  | @lst a o xs ds h r =>
    refine ⟨_, rfl, rfl, _, rfl, iteF ⟨_, rfl, _, "bool", _, _, rfl, .lst h r, kt_b _, _, rfl, iteF ⟨_, rfl, _, "int", _, _, rfl, .lst h r, kt_i _, _, rfl, iteF ⟨_, rfl, _, "str", _, _, rfl, .lst h r, kt_s _, _, rfl, iteF
      ⟨_, rfl, _, "list", _, _, rfl, .lst h r, kt_l _, _, rfl, iteT ⟨⟨_, rfl⟩, _, rfl, a, rfl, ⟨_, .inl (.inr ⟨o, h⟩)⟩, fun D hD => ?_⟩⟩⟩⟩⟩⟩
    have hl := r.length
    have l1 : ds.length ≤ 4 := tx.nar.1
    refine lc_it (walk_list (K := K) (a := a) (xs := xs)) (fun i H2 => Same H H2 ∧ H2 D = some (.lst (((ds.take i).map wr).map fun l => V.str (mk l)))) ⟨same_new hD _, upd_same⟩ (fun _ H2 _ z => .inl (.inr ⟨o, z.1 _ _ h⟩)) ?_ ?_
    · rintro i v H2 H2' hi ⟨k2, hD2⟩ ⟨rfl, hv⟩
      obtain ⟨p, hpi, hvp⟩ := r.get hv
      have hm := List.mem_of_getElem? hpi
      obtain ⟨m, rfl⟩ : ∃ m, m + 1 = n := by
        cases n with
        | zero => exact (tx.no_kid (d := .list ds) hm).elim
        | succ m => exact ⟨m, rfl⟩
      have wm := wL_mono m
      refine ⟨rfl, ?_⟩
      simp only [tYes, if_true]
      refine ⟨_, rfl, m, rfl, v, p, rfl, hvp.kp (.same k2), tx.kid (d := .list ds) hm, by omega, fun H3 k3 => ⟨_, k3 _ _ hD2, K00.small1000 (by rw [List.length_map, List.length_map, List.length_take]; omega), fun b o' e => ?_, ?_⟩⟩
      · rw [upd_ne (ne_of_none e hD)]
        exact k3 _ _ (k2 _ _ e)
      · rw [upd_same, List.take_add_one, hpi]
        simp only [Option.toList_some, List.map_append, List.map_cons, List.map_nil]
    · rintro H2 ⟨k2, hD2⟩
      rw [hl, List.take_length] at hD2
      refine wrapJ (c := 100000) hD2 l1_ l2 (fun l hl => ?_) (by rw [len_tl, c1]; decide) (by rw [List.length_map]; omega) ?_
      · obtain ⟨x, hx, rfl⟩ := List.mem_map.mp hl
        have := tx_wr ((tx.mono (Nat.le_succ n)).kid (d := .list ds) hx)
        omega
      · rw [c1, ← wr_list]
        exact q _ k2
  | @dic a o es ds h r =>
    have hk := isOne_keys tx.one
    obtain ⟨kvs, hf, rfl, hks⟩ := doc_dict h r hk
    obtain ⟨s1, s2, s3⟩ := tx.nar
    refine ⟨_, rfl, rfl, _, rfl, iteF ⟨_, rfl, _, "bool", _, _, rfl, .dic h r, kt_b _, _, rfl, iteF ⟨_, rfl, _, "int", _, _, rfl, .dic h r, kt_i _, _, rfl, iteF ⟨_, rfl, _, "str", _, _, rfl, .dic h r, kt_s _, _, rfl, iteF
      ⟨_, rfl, _, "list", _, _, rfl, .dic h r, kt_l _, _, rfl, iteF ⟨⟨_, rfl⟩, _, rfl, a, kvs, _, rfl, .inr ⟨o, hf⟩, hks, by rw [List.length_map]; omega, fun ys lp hp1 hs1 hlp => ⟨lp, rfl, ⟨_, SqL.of upd_same⟩, fun D hD => ?_⟩⟩⟩⟩⟩⟩⟩
    have kL := same_new hlp (.lst (ys.map V.str))
    have hyl : ys.length ≤ 4 := by rw [hp1.length_eq, List.length_map]; exact s1
    refine lc_it (walk_list (K := K) (a := lp) (xs := ys.map V.str)) (fun i H2 => Same (upd H lp (.lst (ys.map V.str))) H2 ∧ H2 D = some (.lst (((ys.take i).map (wrow ds)).map fun l => V.str (mk l)))) ⟨same_new hD _, upd_same⟩ (fun _ H2 _ z => SqL.of (z.1 _ _ upd_same)) ?_ ?_
    · rintro i v H2 H2' hi ⟨k2, hD2⟩ ⟨rfl, hv⟩
      rw [List.length_map] at hi
      rw [List.getElem?_map, List.getElem?_eq_getElem hi] at hv
      cases hv
      have hy : ys[i]? = some ys[i] := List.getElem?_eq_getElem hi
      have hkm := hp1.mem_iff.mp (List.getElem_mem hi)
      generalize ys[i] = k at hy hkm
      obtain ⟨u, p, hu1, hpm, hpk, hpl, hpd⟩ := look_all r hks s2 hkm
      have hm : p.2 ∈ kids (.dict ds) := List.mem_map.mpr ⟨p, hpm, rfl⟩
      have kn := name_len (tx.key hkm).1
      rw [← len_tl] at kn
      obtain ⟨m, rfl⟩ : ∃ m, m + 1 = n := by
        cases n with
        | zero => exact (tx.no_kid hm).elim
        | succ m => exact ⟨m, rfl⟩
      have wm := wL_mono m
      have kk := kL.trans k2
      have big : (1000000 : Nat) ≤ sizeLine := by decide
      have wp := tx_wr (tx.kid hm)
      refine ⟨rfl, ?_⟩
      simp only [tYes, if_true]
      have n1 : (": " : Str).length = 2 := by decide
      have n2 : (k ++ (": " : Str)).length = k.length + 2 := by rw [len_tl, tl_append, List.length_append, ← len_tl, ← len_tl, n1]
      refine ⟨_, rfl, _, _, rfl, rfl, by show k.length + (": " : Str).length ≤ _; omega, _, rfl, _, rfl, a, u, rfl, .inl ⟨kvs, Sum.inr k, .inr ⟨o, kk _ _ hf⟩, rfl, hu1.symm⟩, m, rfl, u, p.2, rfl, hpd.kp (.same kk), tx.kid hm, by omega, fun H3 k3 => ⟨_, _, rfl, rfl, ?_, _, k3 _ _ hD2, K00.small1000 (by rw [List.length_map, List.length_map, List.length_take]; omega), fun b o' e => ?_, ?_⟩⟩
      · rw [n2]
        show k.length + 2 + (wr p.2).length ≤ _
        omega
      · rw [upd_ne (ne_of_none e hD)]
        exact k3 _ _ (k2 _ _ e)
      · rw [upd_same, List.take_add_one, hy]
        simp only [Option.toList_some, List.map_append, List.map_cons, List.map_nil]
        congr 4
        refine congrArg V.str (ext_tl ?_)
        rw [tl_append, tl_append]
        show (tl k ++ tl (": " : Str)) ++ wr p.2 = tl k ++ (58 :: 32 :: wr (lookD ds k))
        have e58 : tl (": " : Str) = [58, 32] := by decide +kernel
        rw [hpl, e58, List.append_assoc]
        rfl
    · rintro H2 ⟨k2, hD2⟩
      rw [List.length_map, List.take_length] at hD2
      refine wrapJ (c := 100020) hD2 m1 m2 (fun l hl => ?_) (by rw [len_tl, c1]; decide) (by rw [List.length_map]; omega) ?_
      · obtain ⟨k, hk', rfl⟩ := List.mem_map.mp hl
        obtain ⟨hn, p, _, _, hpl, hm⟩ := tx.key (hp1.mem_iff.mp hk')
        have := tx_wr ((tx.mono (Nat.le_succ n)).kid hm)
        have := name_len hn
        show (tl k ++ (58 :: 32 :: wr (lookD ds k))).length ≤ _
        rw [hpl, List.length_append, List.length_cons, List.length_cons]
        omega
      · rw [c1, ← wr_dict s2 hp1 hs1]
        exact q _ (kL.trans k2)
end
end K87
set_option Elab.async false
set_option linter.all false
set_option maxRecDepth 100000
set_option maxHeartbeats 8000000
/-! G87H: leaf_text. -/
namespace K87
open PySem PySem.Spec L2 K00 TL CwR
open PyProof.Rows (envOfC sortedS)
theorem repl1 (c : Nat) (z : List Nat) : ∀ l : List Nat, PySem.StrLaws.replL [c] z l = (l.map fun x => if x = c then z else [x]).flatten
  | [] => PySem.StrLaws.replL_nil
  | x :: r => by
    rw [List.map_cons, List.flatten_cons, ← repl1 c z r]
    by_cases h : x = c
    · subst h
      rw [if_pos rfl, PySem.StrLaws.replL_hit (by simp) (by simp)]
      rfl
    · rw [if_neg h, PySem.StrLaws.replL_miss (by simpa using h)]
      rfl
theorem repl_esc (y : Str) : tl (Txt.replace (Txt.replace y ("\\" : Str) ("\\\\" : Str)) ("\"" : Str) ("\\\"" : Str)) = esc (tl y) := by
  have a1 : tl ("\\" : Str) = [92] := by decide +kernel
  have a2 : tl ("\\\\" : Str) = [92, 92] := by decide +kernel
  have a3 : tl ("\"" : Str) = [34] := by decide +kernel
  have a4 : tl ("\\\"" : Str) = [92, 34] := by decide +kernel
  have r1 := PySem.StrLaws.replace_list (x := Txt.replace y ("\\" : Str) ("\\\\" : Str)) (y := ("\"" : Str)) (z := ("\\\"" : Str)) (by decide)
  have r2 := PySem.StrLaws.replace_list (x := y) (y := ("\\" : Str)) (z := ("\\\\" : Str)) (by decide)
  have r1' : tl (Txt.replace (Txt.replace y ("\\" : Str) ("\\\\" : Str)) ("\"" : Str) ("\\\"" : Str)) = PySem.StrLaws.replL (tl ("\"" : Str)) (tl ("\\\"" : Str)) (tl (Txt.replace y ("\\" : Str) ("\\\\" : Str))) := r1
  have r2' : tl (Txt.replace y ("\\" : Str) ("\\\\" : Str)) = PySem.StrLaws.replL (tl ("\\" : Str)) (tl ("\\\\" : Str)) (tl y) := r2
  rw [r1', r2', a1, a2, a3, a4, repl1, repl1]
  generalize tl y = l
  induction l with
  | nil => rfl
  | cons c r ih =>
    rw [List.map_cons, List.flatten_cons, List.map_append, List.flatten_append, ih]
    show _ = (if c = 34 ∨ c = 92 then [92, c] else [c]) ++ esc r
    congr 1
    by_cases h1 : c = 92
    · subst h1
      decide
    · by_cases h2 : c = 34
      · subst h2
        decide
      · rw [if_neg h1, if_neg (by omega : ¬ (c = 34 ∨ c = 92)), List.map_cons, List.map_nil, if_neg h2]
        rfl
section
variable {X : Cx} {pos : Pos}
theorem pst_set {i : Nat} {x : Str} {e : Expr} {te : TE} {pos' : Pos} (hN : X.N.Nodup) (hi : X.N[i]? = some x) (hx : Loc X.env.scope x) (he : PET X e te) (hs : swapsWith e (some (.Name x pos')) pos.line X.env = pure false := by rfl) (hf : X.fn x = true ∨ X.env.scope.names.lookup x = some .local := by exact Or.inr rfl) :
    PST X (.Assign [.Name x pos'] e pos) (tAsg te (gName i)) := by
  intro pins s σ H D h0 I h
  refine wpAny_Assign_Name (thn (he pins s σ H _ h0 I h) fun v s1 ⟨y, H1, I1, r1, q1⟩ => ?_) hs
  exact store_ok I1 hN hi hx r1 (fun s2 I2 => ⟨_, H1, I2, q1⟩) hf
end
section
variable {P : Program} {w : World} {K : PySem.W.Frag} {mg : Str → Option Value} {base : Heap} {f g g2 g3 : Addr} {fd gd gd2 gd3 : FuncData}
def spLeaf (P : Program) (w : World) : Sp := fun vs H Q _ => ∃ (x : V) (d : PyData) (n : Nat), vs = [x] ∧ Da P w H x d ∧ Tx n d ∧ isL d = false ∧ isK d = false ∧ ∀ H', Same H H' → Q (.str (mk (wr d))) H'
theorem scLeaf : FnScope ["leaf", "inner"] ["leaf"] (defScope (top 21)) := ⟨rfl, rfl, rfl, by decide +kernel, rfl, by decide +kernel, by decide +kernel⟩
theorem ok_leaf (F : FnD K "leaf_text" 21 f fd) (B : Bl mg) : FnOk P w K mg base CX0 1 f fd ["leaf"] (spLeaf P w) := by
  obtain ⟨oc, od, dV, kV, doc, pm, an, cdv, ct, osl, rfl, lk, hcd, _, _⟩ := F.ex
  refine fn_ofT lk hcd scLeaf (by decide +kernel) (by decide) (fun vs H Q E h => ?_) fun A outer s H vs Q E hr h => ?_
  · obtain ⟨x, d, n, rfl, _⟩ := h
    rfl
  obtain ⟨x, d, n, rfl, hd, tx, nL, nK, q⟩ := h
  refine ⟨_, psst_cons (pst_if (pt_cmpR op_isN (pv 0) pe_non (nomark _)) (psst_one (PST.of (ps_ret pe_str))) psst_nil)
    (psst_cons (pst_if (pt_val (pe_callB call_isDa (by rfl) B.isi (by decide +kernel) (pa_cons (pv 0) (pa_cons (pe_bltn (v := .ty "bool") (by rfl) B.bool (by decide +kernel) rfl) pa_nil)))) (psst_one (PST.of (ps_ret (pe_ifExp (pt_val (pv 0)) pe_str pe_str)))) psst_nil)
    (psst_cons (pst_if (pt_val (pe_callB call_isDa (by rfl) B.isi (by decide +kernel) (pa_cons (pv 0) (pa_cons (pe_bltn (v := .ty "int") (by rfl) B.int (by decide +kernel) rfl) pa_nil)))) (psst_one (PST.of (ps_ret (pe_callTy call_str_int (by rfl) B.str (by decide +kernel) (pa_cons (pv 0) pa_nil))))) psst_nil)
    (psst_cons (pst_set (i := 1) scLeaf.nd rfl (Or.inl rfl) (pet_replT (pet_replC (pv 0))))
    (psst_one (PST.of (ps_ret (pe_joined (PJ.cons pe_str (PJ.cons (pe_fmt (pv 1)) (PJ.cons pe_str PJ.nil)))))))))), ?_⟩
  have q0 := q H (same_refl H)
  cases hd with
  | non =>
    have e : (Str.ofString "-") = mk (wr .none) := by decide +kernel
    rw [← e] at q0
    exact ⟨_, rfl, rfl, _, rfl, iteT q0⟩
  | bl b =>
    refine ⟨_, rfl, rfl, _, rfl, iteF ⟨_, rfl, _, "bool", _, _, rfl, .bl b, kt_b _, _, rfl, iteT ⟨_, rfl, _, rfl, ?_⟩⟩⟩
    cases b with
    | true =>
      have e : (Str.ofString "yes") = mk (wr (.bool true)) := by decide +kernel
      rw [← e] at q0
      exact iteT q0
    | false =>
      have e : (Str.ofString "no") = mk (wr (.bool false)) := by decide +kernel
      rw [← e] at q0
      exact iteF q0
  | int i =>
    have e : ts i = mk (wr (.int i)) := (mk_tl (ts i)).symm
    rw [← e] at q0
    exact ⟨_, rfl, rfl, _, rfl, iteF ⟨_, rfl, _, "bool", _, _, rfl, .int i, kt_b _, _, rfl, iteF ⟨_, rfl, _, "int", _, _, rfl, .int i, kt_i _, _, rfl, iteT ⟨_, rfl, i, rfl, log_le7 tx.tq, q0⟩⟩⟩⟩
  | str y =>
    have yl : y.length ≤ 40 := tx.tq.1
    have e2 := repl_esc y
    have l0 := TK.replace_len y ("\\" : Str) ("\\\\" : Str)
    have a2 : ("\\\\" : Str).length = 2 := by decide
    have a4 : ("\\\"" : Str).length = 2 := by decide
    have l2 : (Txt.replace (Txt.replace y ("\\" : Str) ("\\\\" : Str)) ("\"" : Str) ("\\\"" : Str)).length ≤ 80 := by
      rw [len_tl, e2]
      have := esc_len (tl y)
      rw [← len_tl] at this
      omega
    rw [a2] at l0
    have big : (1000000 : Nat) ≤ sizeLine := by decide
    refine ⟨_, rfl, rfl, _, rfl, iteF ⟨_, rfl, _, "bool", _, _, rfl, .str y, kt_b _, _, rfl, iteF ⟨_, rfl, _, "int", _, _, rfl, .str y, kt_i _, _, rfl, iteF ⟨_, rfl, y, rfl, by rw [a2]; omega, _, rfl, by rw [a4]; omega, ?_⟩⟩⟩⟩
    have d0 : (Str.empty ++ ("\"" : Str)) = ("\"" : Str) := by decide +kernel
    have d1 : tl ("\"" : Str) = [34] := by decide +kernel
    have dl : ("\"" : Str).length = 1 := by decide
    refine ⟨_, rfl, by show (Str.empty ++ ("\"" : Str)).length ≤ _; rw [d0]; omega, _, rfl, .inl ⟨_, rfl, by omega, _, rfl, ?_, _, rfl, ?_, ?_⟩⟩
    · rw [d0, len_tl, tl_append, List.length_append, ← len_tl, ← len_tl]
      omega
    · rw [d0, len_tl, tl_append, tl_append, List.length_append, List.length_append, ← len_tl, ← len_tl]
      omega
    · rw [d0, between 34 34 (esc (tl y)) _ _ _ d1 d1 e2, ← wr_str]
      exact q0
  | tup h r => exact (Bool.false_ne_true (show false = true from tx.one)).elim
  | lst h r => cases nL
  | dic h r => cases nK
end
end K87
set_option Elab.async false
set_option linter.all false
set_option maxRecDepth 100000
set_option maxHeartbeats 4000000
/-! G87I: sorted(zip(a, b)) of two lists of texts, up to the rule. -/
namespace K87S
open PySem PySem.Calls PyProof.Rows SrtO K00Z
section
variable {prog : Program} {w : World} {A : Around} {E : Value → Shared → Prop} {s : Shared}
/-- a tuple of two texts -/
def IsTx (h : Heap) (v : Value) (x y : Str) : Prop := ∃ a o t u n, v = .ref a ∧ h.get? a = some o ∧ o.cls = .type "tuple" ∧ o.data = .seq #[.str x t, .str y u] n
theorem IsTx.keeps {h h' : Heap} {v : Value} {x y : Str} (p : IsTx h v x y) (k : ∀ b o, h.get? b = some o → o.cls = .type "tuple" → h'.get? b = some o) : IsTx h' v x y := by
  obtain ⟨a, o, t, u, n, e, ho, hc, hd⟩ := p
  exact ⟨a, o, t, u, n, e, k _ _ ho hc, hc, hd⟩
def ltT (k : Value → Str) (v u : Value) : Bool := decide ((k v).cps.toList < (k u).cps.toList)
theorem swoT (k : Value → Str) : Swo (ltT k) := by
  refine ⟨fun x y h => ?_, fun x y z h1 h2 => ?_⟩
  · have a := of_decide_eq_true h
    exact decide_eq_false (List.lt_asymm a)
  · have a := List.not_lt.mp (of_decide_eq_false h1)
    have b := List.not_lt.mp (of_decide_eq_false h2)
    exact decide_eq_false (List.not_lt.mpr (List.le_trans a b))
theorem tx_cmp {vs : List Value} {k m : Value → Str} (hp : ∀ v ∈ vs, IsTx s.heap v (k v) (m v)) (inj : ∀ v ∈ vs, ∀ u ∈ vs, k v = k u → m v = m u) : Cmp prog w A s (tuples' true) (fun p => p.1 ∈ vs) (lt2 (ltT k)) := by
  intro p q hm hm'
  have h1 := hp _ hm
  have h2 := hp _ hm'
  have hi := inj _ hm _ hm'
  show wpAny (model prog w) A (keyLt' (tuples' true) p.1 q.1) (fun r s' => s' = s ∧ r = decide ((k p.1).cps.toList < (k q.1).cps.toList)) (fun _ _ => False) s
  generalize k p.1 = x at h1 hi ⊢
  generalize m p.1 = y at h1 hi ⊢
  generalize k q.1 = x' at h2 hi ⊢
  generalize m q.1 = y' at h2 hi ⊢
  obtain ⟨a, o, t, u, n, e, ho, hc, hd⟩ := h1
  obtain ⟨a', o', t', u', n', e', ho', hc', hd'⟩ := h2
  rw [e, e']
  refine PySem.W.kat_lt ho hd ho' hd' ?_
  show PySem.W.KatLex prog w A true (decide (2 < 2)) _ [(.str x t, .str x' t'), (.str y u, .str y' u')] 0 s
  refine PySem.W.kat_cons (SeqAt.EqAt.str_str x t x' t' prog w _ _ ?_)
  refine PySem.W.kat_go (fun e1 => ?_) (fun e1 => ?_)
  · have ex : x = x' := by simpa using e1
    have ey := hi ex
    subst ex
    subst ey
    refine PySem.W.kat_yes (PySem.W.kat_cons (SeqAt.EqAt.str_str y u y u' prog w _ _ ?_))
    refine PySem.W.kat_go (fun e2 => ?_) (fun e2 => ?_)
    · exact PySem.W.kat_yes (PySem.W.kat_nil ⟨rfl, (decide_eq_false (List.lt_irrefl _)).symm⟩)
    · simp at e2
  · exact PySem.W.kat_no (oneLt_str ⟨rfl, rfl⟩)
theorem tx_firsts {h : Heap} {k m : Value → Str} : ∀ {vs : List Value}, (∀ v ∈ vs, IsTx h v (k v) (m v)) → ∃ fs : List Value, PySem.W.KatTups h vs fs ∧ fs.length = vs.length ∧ ∀ f ∈ fs, ∃ x t, f = Value.str x t
  | [], _ => ⟨[], PySem.W.KatTups.nil, rfl, fun _ hm => by simp at hm⟩
  | v :: vs, hp => by
    obtain ⟨fs, h1, h2, h3⟩ := tx_firsts (vs := vs) fun v' hm => hp v' (List.mem_cons_of_mem _ hm)
    obtain ⟨a, o, t, u, n, e, ho, hc, hd⟩ := hp v (List.mem_cons_self ..)
    generalize k v = x at hd
    generalize m v = y at hd
    subst e
    refine ⟨.str x t :: fs, PySem.W.KatTups.cons ho hc hd rfl h1, by rw [List.length_cons, List.length_cons, h2], fun f hm => ?_⟩
    rcases List.mem_cons.mp hm with rfl | hm
    · exact ⟨x, t, rfl⟩
    · exact h3 f hm
theorem tx_sortable {a : Addr} {vs : List Value} {k m : Value → Str} (h0 : 0 < vs.length) (hp : ∀ v ∈ vs, IsTx s.heap v (k v) (m v)) (inj : ∀ v ∈ vs, ∀ u ∈ vs, k v = k u → m v = m u) (ha : ∀ o, s.heap.get? a = some o → o.cls ≠ .type "tuple") : SortableO prog w A s a vs (ltT k) := by
  intro h' keep
  have hp' : ∀ v ∈ vs, IsTx h' v (k v) (m v) := fun v hm => (hp v hm).keeps fun b o e c => keep b o (fun z => by subst z; exact ha o e c) e
  obtain ⟨fs, h1, h2, h3⟩ := tx_firsts hp'
  refine ⟨tuples' true, fun Q E hq => ?_, tx_cmp hp' inj⟩
  refine PySem.W.kat_kind (T := .type "str") h1 (by omega) (fun f hm => ?_) (by rfl) ?_
  · obtain ⟨x, t, rfl⟩ := h3 f hm
    exact PySem.W.Looks.now
  · have e : (Value.type "str" != Value.type "tuple") = true := by first | decide +kernel | rfl | decide
    rw [e]
    exact hq
end
section
variable {prog : Program} {w : World} {A : Around} {E : Value → Shared → Prop} {s : Shared} {z TI TO i1 i2 l1 l2 S : Addr} {xs ys : Array Value}
theorem extZ {R : Result → Shared → Prop} (hh : A.handled = none) (D : ZipApart z TI TO i1 i2 l1 l2) (B : Below z TI TO i1 i2 l1 l2 S) (st : ZSt s.heap z TI TO i1 i2 l1 l2 S 0 xs ys) (hxy : xs.size = ys.size) (hn : xs.size ≤ sizeLine) (res : Value) (c₀ : Nat)
    (hS : s.heap.get? S = some { cls := .type "list", data := .seq #[] c₀ })
    (hR : ∀ h' tk acc c as, (∀ b o, b ≠ S → b ≠ z → b ≠ TO → b ≠ i1 → b ≠ i2 → s.heap.get? b = some o → h'.get? b = some o) → h'.get? S = some { cls := .type "list", dict := none, data := .seq acc c, slots := #[] } → as.length = xs.size → ZG xs ys S h' as →
      acc.toList = as.map Value.ref → R (.ok (.ret res)) { s with heap := h', toks := tk }) :
    wpAny (model prog w) A.in1 (Builtin.List.listExtendWith (.ref S) (.ref z) res)
      (fun fin s' => match fin with | .done f => R (.ok f) s' | .again c' => c'.quiet = true ∧ codeAny (model prog w) A c' R s') (fun e s' => R (.error e) s') s := by
  have O := B.off
  have tyz : ∀ {h : Heap} {S i}, ZSt h z TI TO i1 i2 l1 l2 S i xs ys → ∃ o, h.get? z = some o ∧ o.cls = .type "zip" := fun st => by
    rcases st.zz with ⟨hz, _⟩ | ⟨T, f, oT, hz, _⟩
    · exact ⟨_, hz, rfl⟩
    · exact ⟨_, hz, rfl⟩
  unfold Builtin.List.listExtendWith
  refine wpAny_bind (wpAny_typeOf (T := "zip") (tyz st) ?_)
  have h1 : Builtin.List.listSameRef (.ref S) (.ref z) = false := by simp [Builtin.List.listSameRef, Ne.symm O.z]
  have h2 : (Value.type "zip" == Value.type "list") = false := by decide
  have h3 : (Value.type "zip" == Value.type "tuple") = false := by decide
  simp only [h1, h2, h3, Bool.or_false, Bool.false_eq_true, if_false]
  have hT := tyz st
  refine wpAny_bind (wpAny_pyIter_slot hT PySem.F.slot_zip_iter (wpAny_call_entry PySem.F.slot_zip_iter hT PySem.F.entry_zip_iter ?_ (PySem.F.args_zip_iter_1 _)))
  show wpAny _ _ (ret (.ref z)) _ _ _
  refine wpAny_pure ⟨_, rfl, "zip", _, hT, PySem.F.slot_zip_next.lookup, ?_⟩
  refine wpAny_bind (wpAny_holding ?_)
  unfold Builtin.List.listLengthHint
  refine wpAny_bind (wpAny_specialOf hT zip_no_len ?_)
  show wpAny _ _ (specialOf (Value.ref z) (Str.ofString "__length_hint__") >>= _) _ _ _
  refine wpAny_bind (wpAny_specialOf hT zip_no_hint ?_)
  refine wpAny_pure ?_
  show wpAny _ _ (rule "list.extend.makes-room" >>= fun _ => Builtin.List.listTouch (.ref S) >>= fun _ =>
    again (.builtin "list.extend.loop" ⟨[.ref S, .ref z, res], []⟩)) _ _ _
  refine wpAny_bind (wpAny_rule ?_)
  refine wpAny_bind ?_
  show wpAny _ _ (updateSeq S (·.push .none) >>= fun _ => updateSeq S (·.pop)) _ _ _
  refine wpAny_bind (wpAny_updateSeq hS rfl ?_)
  have hS₃ := Heap.get?_update_self (Obj.mapSeq (·.push Value.none)) hS rfl
  refine wpAny_updateSeq (hz := by seq_fits) hS₃ rfl ?_
  have hS₄ := Heap.get?_update_self (Obj.mapSeq (·.pop)) hS₃ rfl
  refine wpAny_pure ⟨plainId_quiet PySem.F.plain_extend_loop _, ?_⟩
  refine zl_loop (A := A) (s := s) (h₁ := s.heap) hh D B hxy hn res (fun h' tk acc c as hk hS' hl hG hacc => hR h' tk acc c as hk hS' hl hG hacc) xs.size 0 _ _ _ _ [] (Nat.sub_zero _) (Nat.zero_le _)
    (st.keep O fun b o hb e => (Heap.get?_update_other _ _ (Ne.symm hb)).trans ((Heap.get?_update_other _ _ (Ne.symm hb)).trans e))
    (fun b o hb _ _ _ _ e => (Heap.get?_update_other _ _ (Ne.symm hb)).trans ((Heap.get?_update_other _ _ (Ne.symm hb)).trans e)) hS₄ rfl rfl
    ⟨List.Pairwise.nil, (fun _ ha => nomatch ha), (fun j a hj => by simp at hj)⟩
theorem collectZ {R : List Value → Shared → Prop} (hh : A.handled = none) (D : ZipApart z TI TO i1 i2 l1 l2) (B : Below z TI TO i1 i2 l1 l2 s.heap.objs.size) (hst : ∀ S, s.heap.objs.size ≤ S → ZSt s.heap z TI TO i1 i2 l1 l2 S 0 xs ys) (hxy : xs.size = ys.size) (hn : xs.size ≤ sizeLine)
    (h : ∀ (h' : Heap) (tk : Nat) (as : List Addr), (∀ b o, b ≠ z → b ≠ TO → b ≠ i1 → b ≠ i2 → s.heap.get? b = some o → h'.get? b = some o) → s.heap.objs.size < h'.objs.size → as.length = xs.size → ZG xs ys s.heap.objs.size h' as → R (as.map Value.ref) { s with heap := h', toks := tk }) :
    wpAny (model prog w) A (collect (.ref z)) R E s := by
  have O := B.off
  unfold collect
  refine wpAny_bind (wpAny_runValue (codeAny_builtin entry_proto_collect' ?_))
  rw [Around.under_plainId PySem.F.plain_proto_collect _]
  show wpAny _ A.in1 (newList [] >>= fun l => again (.builtin "list.__iadd__" ⟨[l, .ref z], []⟩)) _ _ s
  refine wpAny_bind (wpAny_newObj_type ?_)
  refine wpAny_pure ⟨plainId_quiet PySem.F.plain_list_iadd _, codeAny_builtin entry_list_iadd' ?_⟩
  rw [Around.under_plainId PySem.F.plain_list_iadd _]
  have hS₁ : (s.heap.push { cls := .type "list", data := .seq ([] : List Value).toArray }).get? s.heap.objs.size = some { cls := .type "list", data := .seq #[] } := Heap.get?_push_size _ rfl
  show wpAny _ A.in1 (Builtin.List.listExtendWith (.ref s.heap.objs.size) (.ref z) (.ref s.heap.objs.size)) _ _ _
  have key := extZ (prog := prog) (w := w) (A := A) (s := { s with heap := s.heap.push { cls := .type "list", data := .seq ([] : List Value).toArray } }) (S := s.heap.objs.size) (xs := xs) (ys := ys)
    (R := fun (q : Result) (s' : Shared) => ∃ (h' : Heap) (tk : Nat) (acc' : Array Value) (c' : Nat) (as : List Addr), q = .ok (.ret (.ref s.heap.objs.size)) ∧ s' = { s with heap := h', toks := tk } ∧
      (∀ b o, b ≠ z → b ≠ TO → b ≠ i1 → b ≠ i2 → s.heap.get? b = some o → h'.get? b = some o) ∧ h'.get? s.heap.objs.size = some { cls := .type "list", dict := none, data := .seq acc' c', slots := #[] } ∧ as.length = xs.size ∧ ZG xs ys s.heap.objs.size h' as ∧ acc'.toList = as.map Value.ref)
    hh D B ((hst _ (Nat.le_refl _)).keep O fun b o _ e => Heap.get?_push_of_some _ e) hxy hn (.ref s.heap.objs.size) 0 hS₁
    (fun h' tk acc' c' as hk hS' hl hG hacc => ⟨h', tk, acc', c', as, rfl, rfl, fun b o b1 b2 b3 b4 e => hk b o (Nat.ne_of_lt (Heap.lt_size e)) b1 b2 b3 b4 (Heap.get?_push_of_some _ e), hS', hl, hG, hacc⟩)
  refine wpAny_mono key (fun fin s' x => ?_) fun e s' x => ?_
  · cases fin with
    | done f =>
      obtain ⟨h', tk, acc', c', as, e, rfl, hk, hS', hl, hG, hacc⟩ := x
      cases e
      show wpAny _ A (load s.heap.objs.size >>= _) _ _ _
      refine wpAny_bind (wpAny_load hS' ?_)
      refine wpAny_pure ?_
      show R acc'.toList _
      rw [hacc]
      exact h h' tk as hk (Heap.lt_size hS') hl hG
    | again c₁ =>
      refine ⟨x.1, codeAny_mono x.2 fun q s₂ y => ?_⟩
      obtain ⟨h', tk, acc', c', as, rfl, rfl, hk, hS', hl, hG, hacc⟩ := y
      show wpAny _ A (load s.heap.objs.size >>= _) _ _ _
      refine wpAny_bind (wpAny_load hS' ?_)
      refine wpAny_pure ?_
      show R acc'.toList _
      rw [hacc]
      exact h h' tk as hk (Heap.lt_size hS') hl hG
  · obtain ⟨_, _, _, _, _, e', _⟩ := x
    cases e'
/-- sorted(zip(..)) up to the sort of the pairs -/
theorem sortedZ {Q : Value → Shared → Prop} (hh : A.handled = none) (D : ZipApart z TI TO i1 i2 l1 l2) (B : Below z TI TO i1 i2 l1 l2 s.heap.objs.size) (hst : ∀ S, s.heap.objs.size ≤ S → ZSt s.heap z TI TO i1 i2 l1 l2 S 0 xs ys) (hxy : xs.size = ys.size) (hn : xs.size ≤ sizeLine)
    (h : ∀ (h' : Heap) (tk : Nat) (as : List Addr), (∀ b o, b ≠ z → b ≠ TO → b ≠ i1 → b ≠ i2 → s.heap.get? b = some o → h'.get? b = some o) → s.heap.objs.size < h'.objs.size → as.length = xs.size → ZG xs ys s.heap.objs.size h' as →
      wpAny (model prog w) A.in1 (call (.builtin "list.sort") [.ref h'.objs.size]) (fun _ s' => Q (.ref h'.objs.size) s') E { s with heap := h'.push { cls := .type "list", data := .seq (as.map Value.ref).toArray }, toks := tk }) :
    wpAny (model prog w) A (call (.builtin "sorted") [.ref z]) Q E s := by
  refine call_function_entry kind_sorted plain_sorted entry_sorted (args_sorted1 _) ?_
  unfold Builtin.«sorted»
  refine wpAny_bind (m := checkCount "sorted" 1 1 _) (wpAny_pure ?_)
  refine wpAny_bind (collectZ (A := A.in1) hh D B hst hxy hn fun h' tk as hk hlt hl hG => ?_)
  refine wpAny_bind (wpAny_newList ?_ (by rw [List.length_map, hl]; exact hn))
  have hg := h h' tk as hk hlt hl hG
  refine wpAny_bind (wpAny_holding (wpAny_mono hg (fun _ s' x => ?_) fun _ _ e => e))
  exact wpAny_pure ⟨_, rfl, x⟩
end
end K87S
set_option Elab.async false
set_option linter.all false
set_option maxRecDepth 100000
set_option maxHeartbeats 4000000
/-! G87J: the rule for sorted(zip(a, b)) of two lists of texts, the first ones unlike. -/
namespace K87
open PySem PySem.Spec PyProof.Rows L2 K00 K00Z K87S
theorem lookup_zip {α β : Type} [BEq α] [LawfulBEq α] : ∀ {as : List α} {ks : List β} {j : Nat} {a : α} {k : β}, as.Nodup → as[j]? = some a → ks[j]? = some k → (as.zip ks).lookup a = some k
  | [], _, _, _, _, _, h, _ => by simp at h
  | _ :: _, [], _, _, _, _, _, h => by simp at h
  | x :: as, y :: ks, 0, a, k, _, h, h' => by
    have e1 : x = a := by simpa using h
    have e2 : y = k := by simpa using h'
    subst e1
    subst e2
    simp
  | x :: as, y :: ks, j + 1, a, k, n, h, h' => by
    have n' := List.nodup_cons.mp n
    have h1 : as[j]? = some a := by simpa using h
    have h2 : ks[j]? = some k := by simpa using h'
    have ne : (a == x) = false := beq_eq_false_iff_ne.mpr fun z => n'.1 (by rw [← z]; exact List.mem_of_getElem? h1)
    rw [List.zip_cons_cons, List.lookup_cons, ne]
    exact lookup_zip n'.2 h1 h2
theorem nodup_ix {α : Type} {x : α} : ∀ {l : List α} {i j : Nat}, l.Nodup → l[i]? = some x → l[j]? = some x → i = j
  | [], _, _, _, h, _ => by simp at h
  | a :: r, 0, 0, _, _, _ => rfl
  | a :: r, 0, j + 1, n, h, h' => by
    have e : a = x := by simpa using h
    have h2 : r[j]? = some x := by simpa using h'
    exact absurd (by rw [e]; exact List.mem_of_getElem? h2) (List.nodup_cons.mp n).1
  | a :: r, i + 1, 0, n, h', h => by
    have e : a = x := by simpa using h
    have h2 : r[i]? = some x := by simpa using h'
    exact absurd (by rw [e]; exact List.mem_of_getElem? h2) (List.nodup_cons.mp n).1
  | a :: r, i + 1, j + 1, n, h, h' => by
    have h1 : r[i]? = some x := by simpa using h
    have h2 : r[j]? = some x := by simpa using h'
    exact congrArg (· + 1) (nodup_ix (List.nodup_cons.mp n).2 h1 h2)
def unref : Value → Addr
  | .ref a => a
  | _ => 0
def rSortZip (K : PySem.W.Frag) : List V → Hp → VK → Prop := fun vs H Q => ∃ (a b : Addr) (ks ts : List Str), vs = [.ref a, .ref b] ∧ SqL K H a (ks.map V.str) ∧ SqL K H b (ts.map V.str) ∧ ks.length = ts.length ∧ ks.Nodup ∧
  ∀ (H' : Hp) (p : Addr) (os : List Addr) (out : List (Str × Str)), Same H H' → H p = none → out.Perm (ks.zip ts) → (out.map (·.1)).Pairwise LeS → H' p = some (.lst (os.map V.ref)) → Paired (fun (t : Addr) (q : Str × Str) => H' t = some (.tup [.str q.1, .str q.2])) os out → Q (.ref p) H'
def tSortZip (K : PySem.W.Frag) (ta : TA) : TE := fun σ H Q => ta σ H fun vs H1 => rSortZip K vs H1 Q
theorem sort_laid {X : Cx} {pins : List (Addr × Obj)} {σ : L2.St} {H : Hp} {s : Shared} {h' : Heap} {tk : Nat} {xs ys : List V} {us vs : List Value} {as os : List Addr} {S : Addr} (I : Inv X pins σ H s) (hxy : xs.length = ys.length) (rx : Vals xs us) (ry : Vals ys vs)
    (hk : ∀ b o, s.heap.get? b = some o → h'.get? b = some o) (hnew : ∀ t ∈ as, s.heap.objs.size ≤ t) (nd : as.Nodup) (hSs : s.heap.objs.size ≤ S) (hSn : S ∉ as) (hl : as.length = us.length) (hos : os.length ≤ sizeLine) (hS : ∃ n, h'.get? S = some (seqObj "list" (os.map Value.ref).toArray n))
    (hG : ∀ (j : Nat) (a : Addr), as[j]? = some a → ∃ x y, us.toArray[j]? = some x ∧ vs.toArray[j]? = some y ∧ IsPair h' a x y) :
    ∃ H' : Hp, Same H H' ∧ H S = none ∧ (∀ t ∈ as, H t = none) ∧ H' S = some (.lst (os.map V.ref)) ∧ Paired (fun (t : Addr) (q : V × V) => H' t = some (.tup [q.1, q.2])) as (xs.zip ys) ∧ Inv X pins σ H' { s with heap := h', toks := tk } := by
  have lx : xs.length = us.length := rx.length
  have ly : ys.length = vs.length := ry.length
  have lz : (xs.zip ys).length = xs.length := by rw [List.length_zip, ← hxy, Nat.min_self]
  have new : ∀ t ∈ as, H t = none := fun t ht => I.hok.fresh (hnew t ht)
  have newS : H S = none := I.hok.fresh hSs
  have atP := putP_at as (xs.zip ys) (upd H S (.lst (os.map V.ref))) (by omega) nd
  have off : ∀ b, b ∉ as → b ≠ S → putP (upd H S (.lst (os.map V.ref))) as (xs.zip ys) b = H b := fun b h1 h2 => by rw [putP_off as _ _ h1, upd_ne h2]
  have low : ∀ b o, s.heap.get? b = some o → b ∉ as ∧ b ≠ S := fun b o e => ⟨fun z => absurd (Heap.lt_size e) (Nat.not_lt.mpr (hnew b z)), Nat.ne_of_lt (Nat.lt_of_lt_of_le (Heap.lt_size e) hSs)⟩
  have kp : ∀ b u, H b = some u → (putP (upd H S (.lst (os.map V.ref))) as (xs.zip ys)) b = some u := fun b u e => by
    rw [off b (fun z => by rw [new b z] at e; cases e) (fun z => by rw [z, newS] at e; cases e)]
    exact e
  have eS : putP (upd H S (.lst (os.map V.ref))) as (xs.zip ys) S = some (.lst (os.map V.ref)) := by rw [putP_off as _ _ hSn, upd_same]
  refine ⟨putP (upd H S (.lst (os.map V.ref))) as (xs.zip ys), kp, newS, new, eS, atP, ?_⟩
  refine I.call' (ch := []) rfl ⟨fun b o q _ _ _ => hk b o q, fun b o q _ _ _ => ⟨o.slots, hk b o q⟩, fun b o q n _ => ?_, fun b o q _ => ⟨o, hk b o q⟩, fun b xs q => kp b _ q, fun b o u q => kp b _ q, fun b ps q => ⟨#[], by rw [kp b _ q]; simp⟩⟩ (fun b u q => ?_) I.bare fun b z => by simp at z
  · obtain ⟨z1, z2⟩ := low b o q
    rw [off b z1 z2]
    exact n
  · by_cases hb : b ∈ as
    · obtain ⟨j, pk, e1, e2, e3⟩ := LiI.paired_ix atP hb
      rw [e3] at q
      cases q
      obtain ⟨x, y, f1, f2, f3⟩ := hG j b e1
      have hzip := List.getElem?_zip_eq_some.mp (show (xs.zip ys)[j]? = some (pk.1, pk.2) from e2)
      obtain ⟨u1, hu1, r1⟩ := rx.get hzip.1
      obtain ⟨u2, hu2, r2⟩ := ry.get hzip.2
      have g1 : us[j]? = some x := by simpa using f1
      have g2 : vs[j]? = some y := by simpa using f2
      rw [g1] at hu1
      rw [g2] at hu2
      cases hu1
      cases hu2
      exact ⟨by show 2 ≤ sizeLine; decide, [x, y], .cons r1 (.cons r2 .nil), ⟨_, f3, rfl, _, rfl⟩⟩
    · by_cases hb2 : b = S
      · rw [hb2] at q ⊢
        rw [eS] at q
        cases q
        obtain ⟨n, hS⟩ := hS
        exact ⟨by rw [List.length_map]; omega, os.map Value.ref, n, LiI.vals_refs os, hS⟩
      · rw [off b hb hb2] at q
        exact (I.hok b u q).stay (fun d v _ y => hk d v y) (fun d y => kp d _ y) fun d xs y => kp d _ y
theorem paired_selfmap {α β : Type} {F : α → β → Prop} {g : α → β} : ∀ {xs : List α}, (∀ x ∈ xs, F x (g x)) → Paired F xs (xs.map g)
  | [], _ => .nil
  | x :: r, h => .cons (h x List.mem_cons_self) (paired_selfmap fun y hy => h y (List.mem_cons_of_mem _ hy))
section
variable {X : Cx} {e e2 : Expr} {ta : TA} {p p2 cpos pos : Pos}
/-- sorted(zip(e, e2)) -/
theorem pe_sortedzip (hc : X.calm = true) (hg : Gl X "sorted") (hm : X.mg "sorted" = none) (hv : bootBuiltins "sorted" = some (.builtin "sorted")) (hg2 : Gl X "zip") (hm2 : X.mg "zip" = none) (ha : PA X [e, e2] ta)
    (hs2 : starEach [e, e2] X.env = (false, eval e X.env) :: starEach [e2] X.env := by rfl) (hpl2 : (backTo cpos (starEach [e2] X.env)).any (·.1) = false := by rfl)
    (hs : starEach [.Call (.Name "zip" p2) [e, e2] [] cpos] X.env = (false, eval (.Call (.Name "zip" p2) [e, e2] [] cpos) X.env) :: starEach [] X.env := by rfl) :
    PE X (.Call (.Name "sorted" p) [.Call (.Name "zip" p2) [e, e2] [] cpos] [] pos) (tSortZip X.K ta) := by
  refine ⟨fun pins s σ H Q I hq => ?_⟩
  refine wpAny_Call_Name_kw (ld_blt I hg hm hv ?_)
  refine Calls.callWith_builtin rfl ?_
  refine Calls.evalArgs_plain ?_
  refine Calls.spliced_cons ?_
  refine wpAny_Call_Name_kw (ld_blt I hg2 hm2 PyProof.Rows.boot_zip (PyProof.Rows.callWith_type1 (thn (ha.run cpos pins s σ H _ I hq) fun us s1 ⟨vs, H1, I1, r1, q1⟩ => ?_) hs2 hpl2))
  obtain ⟨a, b, ks, ts, ex, hqx, hqy, hxy, knd, q⟩ := q1
  subst ex
  cases r1 with
  | cons r rr =>
    cases rr with
    | cons r' rr =>
      cases rr
      cases r
      cases r'
      obtain ⟨its, rv, p1, hz1⟩ := I1.list hqx
      obtain ⟨its2, rv2, p2', hz2⟩ := I1.list hqy
      have la : a < s1.heap.objs.size := let ⟨_, ho, _⟩ := p1.isList; Heap.lt_size ho
      have lb : b < s1.heap.objs.size := let ⟨_, ho, _⟩ := p2'.isList; Heap.lt_size ho
      have lx : ks.length = its.length := by rw [← rv.length, List.length_map]
      have ly : ts.length = its2.length := by rw [← rv2.length, List.length_map]
      rw [List.length_map] at hz1
      refine call_zip_2 p1.isList p2'.isList fun h' hz hTI hTO h1 h2 hsz hk => ?_
      refine Calls.spliced_nil ?_
      have D : ZipApart (s1.heap.objs.size + 4) (s1.heap.objs.size + 2) (s1.heap.objs.size + 3) s1.heap.objs.size (s1.heap.objs.size + 1) a b := apartN la lb
      refine sortedZ (s := { s1 with heap := h' }) (xs := its.toArray) (ys := its2.toArray) (I1.ok.hd hc) D ?_ (fun S _ => ⟨hTI, h1, h2, p1.isList.at fun o e => hk _ o e, p2'.isList.at fun o e => hk _ o e, .inl ⟨hz, _, _, hTO⟩⟩) (by simp only [List.size_toArray]; omega) (by simp only [List.size_toArray]; omega) fun h'' tk as hk2 hlt hl hG => ?_
      · show Below _ _ _ _ _ _ _ h'.objs.size
        rw [hsz]
        exact belowN la lb
      have hlow : ∀ b' o, s1.heap.get? b' = some o → h''.get? b' = some o := fun b' o e => by
        have lt := Heap.lt_size e
        exact hk2 b' o (neN (Nat.lt_add_right 4 lt)) (neN (Nat.lt_add_right 3 lt)) (neN lt) (neN (Nat.lt_add_right 1 lt)) (hk b' o e)
      have hsz' : h'.objs.size = s1.heap.objs.size + 5 := hsz
      have lal : as.length = its.length := by simpa using hl
      have nd : as.Nodup := List.Pairwise.imp (fun {a b} (h : a < b) => Nat.ne_of_lt h) hG.rise
      have above : ∀ t ∈ as, s1.heap.objs.size ≤ t := fun t ht => by
        have z : h'.objs.size < t := hG.above t ht
        omega
      have lz : (ks.zip ts).length = ks.length := by rw [List.length_zip, ← hxy, Nat.min_self]
      -- the texts at each address
      have fact : ∀ (j : Nat) (t : Addr), as[j]? = some t → ∃ k u tk1 tk2, ks[j]? = some k ∧ ts[j]? = some u ∧ its[j]? = some (.str k tk1) ∧ its2[j]? = some (.str u tk2) ∧ IsPair h'' t (.str k tk1) (.str u tk2) := by
        intro j t hj
        obtain ⟨x, y, f1, f2, f3⟩ := hG.pairs j t hj
        have g1 : its[j]? = some x := by simpa using f1
        have g2 : its2[j]? = some y := by simpa using f2
        have hj1 : j < ks.length := by rw [lx]; exact (List.getElem?_eq_some_iff.mp g1).1
        have hj2 : j < ts.length := by rw [ly]; exact (List.getElem?_eq_some_iff.mp g2).1
        have k1 : ks[j]? = some ks[j] := List.getElem?_eq_getElem hj1
        have k2 : ts[j]? = some ts[j] := List.getElem?_eq_getElem hj2
        obtain ⟨u1, hu1, r1⟩ := rv.get (i := j) (x := V.str ks[j]) (by rw [List.getElem?_map, k1]; rfl)
        obtain ⟨u2, hu2, r2⟩ := rv2.get (i := j) (x := V.str ts[j]) (by rw [List.getElem?_map, k2]; rfl)
        obtain ⟨t1, rfl⟩ := r1
        obtain ⟨t2, rfl⟩ := r2
        rw [g1] at hu1
        rw [g2] at hu2
        cases hu1
        cases hu2
        exact ⟨_, _, t1, t2, k1, k2, g1, g2, f3⟩
      generalize hg_ : (fun t => ((as.zip (ks.zip ts)).lookup t).getD (Str.empty, Str.empty)) = g
      have gat : ∀ (j : Nat) (t : Addr) (k u : Str), as[j]? = some t → ks[j]? = some k → ts[j]? = some u → g t = (k, u) := by
        intro j t k u h1 h2 h3
        rw [← hg_]
        show ((as.zip (ks.zip ts)).lookup t).getD _ = _
        rw [lookup_zip nd h1 (List.getElem?_zip_eq_some.mpr ⟨h2, h3⟩ : (ks.zip ts)[j]? = some (k, u))]
        rfl
      have gmap : as.map g = ks.zip ts := by
        refine List.ext_getElem? fun j => ?_
        rw [List.getElem?_map]
        cases ej : as[j]? with
        | none =>
          have := List.getElem?_eq_none_iff.mp ej
          rw [List.getElem?_eq_none (by omega)]
          rfl
        | some t =>
          obtain ⟨k, u, _, _, h1, h2, _⟩ := fact j t ej
          rw [(List.getElem?_zip_eq_some.mpr ⟨h1, h2⟩ : (ks.zip ts)[j]? = some (k, u))]
          show some (g t) = _
          rw [gat j t k u ej h1 h2]
      generalize hkf : (fun v : Value => (g (unref v)).1) = kf
      generalize hmf : (fun v : Value => (g (unref v)).2) = mf
      have hoL : (h''.push (seqObj "list" (as.map Value.ref).toArray 0)).get? h''.objs.size = some (seqObj "list" (as.map Value.ref).toArray 0) := Heap.get?_push_size _ rfl
      have isTx : ∀ v ∈ as.map Value.ref, IsTx (h''.push (seqObj "list" (as.map Value.ref).toArray 0)) v (kf v) (mf v) := by
        intro v hv'
        obtain ⟨t, ht, rfl⟩ := List.mem_map.mp hv'
        obtain ⟨j, hj⟩ := List.mem_iff_getElem?.mp ht
        obtain ⟨k, u, t1, t2, h1, h2, _, _, h5⟩ := fact j t hj
        have e := gat j t k u hj h1 h2
        refine ⟨t, _, t1, t2, 0, rfl, Heap.get?_push_of_some _ h5, rfl, ?_⟩
        rw [← hkf, ← hmf]
        show Data.seq #[.str k t1, .str u t2] 0 = .seq #[.str (g t).1 t1, .str (g t).2 t2] 0
        rw [e]
      have inj : ∀ v ∈ as.map Value.ref, ∀ u ∈ as.map Value.ref, kf v = kf u → mf v = mf u := by
        intro v hv' u hu' he
        obtain ⟨t, ht, rfl⟩ := List.mem_map.mp hv'
        obtain ⟨t', ht', rfl⟩ := List.mem_map.mp hu'
        obtain ⟨j, hj⟩ := List.mem_iff_getElem?.mp ht
        obtain ⟨j', hj'⟩ := List.mem_iff_getElem?.mp ht'
        obtain ⟨k, u, _, _, h1, h2, _⟩ := fact j t hj
        obtain ⟨k', u', _, _, h1', h2', _⟩ := fact j' t' hj'
        have e1 := gat j t k u hj h1 h2
        have e2 := gat j' t' k' u' hj' h1' h2'
        rw [← hkf] at he
        have he' : (g t).1 = (g t').1 := he
        rw [e1, e2] at he'
        have he2 : k = k' := he'
        subst he2
        obtain ⟨q1, q2⟩ := List.getElem?_eq_some_iff.mp h1
        obtain ⟨q3, q4⟩ := List.getElem?_eq_some_iff.mp h1'
        have ejj : j = j' := nodup_ix knd h1 h1'
        subst ejj
        rw [hj] at hj'
        cases hj'
        rfl
      refine wpAny_call_entry slot_list_sort ⟨_, hoL, rfl⟩ entry_list_sort (SrtO.list_sort_ord (ltv := ltT kf) (swoT kf) hoL (by rw [List.length_map]; omega) (fun h2 => tx_sortable (k := kf) (m := mf) (by omega) isTx inj fun o ho hcl => ?_) fun out hs hb => ⟨_, rfl, ?_⟩) (args_list_sort _)
      · rw [hoL] at ho
        cases ho
        exact absurd (show Value.type "list" = Value.type "tuple" from hcl) (by decide)
      have lout : out.length = as.length := by rw [hb.len, List.length_map]
      have mem : ∀ v ∈ out, ∃ t ∈ as, v = Value.ref t := fun v hv' => by
        obtain ⟨t, ht, rfl⟩ := List.mem_map.mp (hb.perm.mem_iff.mp hv')
        exact ⟨t, ht, rfl⟩
      have eout : (out.map unref).map Value.ref = out := by
        rw [List.map_map]
        refine (List.map_congr_left fun v hv' => ?_).trans (List.map_id out)
        obtain ⟨t, _, rfl⟩ := mem v hv'
        rfl
      have pos : (out.map unref).Perm as := by
        have := hb.perm.map unref
        rw [List.map_map] at this
        refine this.trans (.of_eq ((List.map_congr_left fun t _ => rfl).trans (List.map_id as)))
      have notas : h''.objs.size ∉ as := fun z => Nat.lt_irrefl _ (hG.there z)
      have oldat : ∀ b' o, h''.get? b' = some o → (sortedHeap (h''.push (seqObj "list" (as.map Value.ref).toArray 0)) h''.objs.size (as.map Value.ref) out.toArray).get? b' = some o := fun b' o e => by
        rw [sortedHeap_old (Nat.ne_of_lt (Heap.lt_size e)) (by rw [Heap.size_push]; exact Nat.lt_succ_of_lt (Heap.lt_size e))]
        exact Heap.get?_push_of_some _ e
      have hkeep : ∀ b' o, s1.heap.get? b' = some o → (sortedHeap (h''.push (seqObj "list" (as.map Value.ref).toArray 0)) h''.objs.size (as.map Value.ref) out.toArray).get? b' = some o := fun b' o e => oldat _ _ (hlow _ _ e)
      obtain ⟨nn, hnn⟩ := sortedHeap_at (out := out.toArray) hoL
      obtain ⟨H', k1, k2, k3, k5, k6, J⟩ := sort_laid (X := X) (tk := tk) (os := out.map unref) (S := h''.objs.size) I1 (by rw [List.length_map, List.length_map]; exact hxy) rv rv2 hkeep above nd (by have : h'.objs.size < h''.objs.size := hlt; omega) notas lal (by rw [List.length_map]; omega) ⟨_, by rw [eout]; exact hnn⟩ fun j t hj => by
        obtain ⟨k, u, t1, t2, _, _, h3, h4, h5⟩ := fact j t hj
        exact ⟨_, _, by simpa using h3, by simpa using h4, oldat _ _ h5⟩
      refine ⟨.ref _, H', J, rfl, q H' _ (out.map unref) ((out.map unref).map g) k1 k2 ?_ ?_ k5 ?_⟩
      · rw [← gmap]
        exact pos.map g
      · rw [List.map_map, List.pairwise_map, List.pairwise_map]
        refine hs.imp fun {x y} h => ?_
        show ltCps (g (unref y)).1.cps.toList (g (unref x)).1.cps.toList = false
        rw [← PyProof.Rows.lt_meets]
        rw [← hkf] at h
        exact h
      · refine paired_selfmap fun t ht => ?_
        have hta := pos.mem_iff.mp ht
        obtain ⟨j, q, e1, e2, e3⟩ := LiI.paired_ix k6 hta
        obtain ⟨k, u, _, _, h1, h2, _⟩ := fact j t e1
        have eg := gat j t k u e1 h1 h2
        obtain ⟨z1, z2⟩ := List.getElem?_zip_eq_some.mp (show ((ks.map V.str).zip (ts.map V.str))[j]? = some (q.1, q.2) from e2)
        rw [List.getElem?_map, h1] at z1
        rw [List.getElem?_map, h2] at z2
        rw [e3, eg, ← Option.some.inj z1, ← Option.some.inj z2]
end
end K87
set_option Elab.async false
set_option linter.all false
set_option maxRecDepth 100000
set_option maxHeartbeats 8000000
/-! G87K: outer_text. -/
namespace K87
open PySem PySem.Spec L2 K00 TL
open PyProof.Rows (envOfC sortedS)
theorem keys_of {kvs : List (Key × V)} {ds : List (PyData × PyData)} (h : kvs.map (·.1) = (ds.map fun p => kS p.1).map Sum.inr) : (kvs.map fun kv => kV kv.1) = (ds.map fun p => kS p.1).map V.str := by
  have e1 : (kvs.map fun kv => kV kv.1) = (kvs.map (·.1)).map kV := by rw [List.map_map]; rfl
  rw [e1, h, List.map_map]
  rfl
def tJn (ts : List TE) : TE := fun σ H Q => tJs ts Str.empty σ H fun out H1 => Q (.str out) H1
theorem pe_joinedN {X : Cx} {v1 v2 : Expr} {rest : List Expr} {ts : List TE} {pos : Pos} (h : PJ X (v1 :: v2 :: rest) ts) : PE X (.JoinedStr (v1 :: v2 :: rest) pos) (tJn ts) := pe_joined h
/-- the sorted rows are those of the sorted fields -/
theorem rows_of {ds : List (PyData × PyData)} {out : List (Str × Str)} (n : (ds.map fun p => kS p.1).Nodup) (hp : out.Perm ((ds.map fun p => kS p.1).zip (ds.map fun p => mk (wr p.2)))) (hs : (out.map (·.1)).Pairwise LeS) :
    out.map (·.1) = fls ds ∧ ∀ q ∈ out, q.1 ∈ ds.map (fun p => kS p.1) ∧ q.2 = mk (wr (lookD ds q.1)) := by
  have e0 : (ds.map fun p => kS p.1).zip (ds.map fun p => mk (wr p.2)) = ds.map fun p => (kS p.1, mk (wr p.2)) := by
    rw [List.zip_map']
  rw [e0] at hp
  refine ⟨?_, fun q hq => ?_⟩
  · have h1 := hp.map (·.1)
    rw [List.map_map] at h1
    exact sorted_same (h1.trans (fls_perm ds).symm) hs (isort_keys_sorted ds)
  · obtain ⟨p, hpm, rfl⟩ := List.mem_map.mp (hp.mem_iff.mp hq)
    exact ⟨List.mem_map.mpr ⟨p, hpm, rfl⟩, by rw [lookD_of n hpm]⟩
section
variable {P : Program} {w : World} {K : PySem.W.Frag} {mg : Str → Option Value} {base : Heap} {f g g2 g3 : Addr} {fd gd gd2 gd3 : FuncData}
/-- the texts of what is in it -/
def insT (d : PyData) : List V := (kids d).map fun p => V.str (mk (wr p))
def spOuter (P : Program) (w : World) : Sp := fun vs H Q _ => ∃ (x : V) (d : PyData) (ih : Addr) (n : Nat), vs = [x, .ref ih] ∧ Da P w H x d ∧ Tx n d ∧ wL n ≤ 100000 ∧ H ih = some (.lst (insT d)) ∧ ∀ H', Same H H' → Q (.str (mk (wr d))) H'
abbrev NgO : List Str := ["part", "inner", "rows", "field", "told"]
theorem scOuter : FnScope NgO ["part", "inner"] (defScope (top 22)) := ⟨rfl, rfl, rfl, by decide +kernel, rfl, by decide +kernel, by decide +kernel⟩
theorem ok_outer (F : FnD K "outer_text" 22 f fd) (B : Bl mg) (GL : FnOk P w K mg base CX0 1 g gd ["leaf"] (spLeaf P w)) (bL : Binds K gd ["leaf"] []) (kL : PySem.W.keepIn K (.ref g) = true) (gL : mg "leaf_text" = some (.ref g)) :
    FnOk P w K mg base CX0 2 f fd ["part", "inner"] (spOuter P w) := by
  refine F.ok scOuter (fun vs H Q E h => ?_) (fun cdv A outer s H vs Q E hr h => ?_)
  · obtain ⟨x, d, ih, n, rfl, _⟩ := h
    rfl
  obtain ⟨x, d, ih, n, rfl, hd, tx, hw, hih, q⟩ := h
  refine ⟨_, PSs.nox (pss_cons (ps_if (pt_val (pe_callB call_isDa (by rfl) B.isi (by decide +kernel) (pa_cons (pv 0) (pa_cons (pe_bltn (v := .ty "list") (by rfl) B.list (by decide +kernel) rfl) pa_nil)))) (pss_one (ps_ret (pe_op op_add_str (pe_op op_add_str pe_str (pe_join pe_str (pv 1))) pe_str))) pss_nil)
    (pss_cons (ps_if (pt_val (pe_callB call_isDa (by rfl) B.isi (by decide +kernel) (pa_cons (pv 0) (pa_cons (pe_bltn (v := .ty "dict") (by rfl) B.dict (by decide +kernel) rfl) pa_nil)))) 
      (pss_cons (ps_set (i := 2) scOuter.nd rfl (Or.inl rfl) (pe_sortedzip rfl (by rfl) B.sorted (by decide +kernel) (by rfl) B.zip (pa_cons (pe_callTy (call_listD rfl) (by rfl) B.list (by decide +kernel) (pa_cons (pv 0) pa_nil)) (pa_cons (pv 1) pa_nil))))
      (pss_one (ps_ret (pe_op op_add_str (pe_op op_add_str pe_str (pe_join pe_str
        (pe_lc (own := [("field", 3), ("told", 4)]) (g := gTup K 2 (gCons (gName 3) (gCons (gName 4) gNil))) (tt := tYes) rfl scOuter.nd (pi_list (pv 2)) (blkOk_by (N := NgO) (sc := defScope (top 22)) (by decide +kernel))
            (fun _ _ _ _ _ => pg_tup (by rfl) (pgs_cons (pg_name (i := 3) scOuter.nd rfl (Or.inl rfl)) (pgs_cons (pg_name (i := 4) scOuter.nd rfl (Or.inl rfl)) pgs_nil))) (fun _ _ _ _ _ => pts_nil)
            (fun _ _ _ _ _ => pe_joinedN (PJ.cons (pe_fmt (pv 3)) (PJ.cons pe_str (PJ.cons (pe_fmt (pv 4)) PJ.nil))))))) pe_str)))) pss_nil)
    (pss_one (ps_ret (pe_call GL hr rfl gL kL bL .nil pass0 (pa_cons (pv 0) pa_nil)))))), ?_⟩
  have l1_ : tl ("[" : Str) = [91] := by decide +kernel
  have l2 : tl ("]" : Str) = [93] := by decide +kernel
  have m1 : tl ("{" : Str) = [123] := by decide +kernel
  have m2 : tl ("}" : Str) = [125] := by decide +kernel
  have c1 : tl (", " : Str) = [44, 32] := by decide +kernel
  have q0 := q H (same_refl H)
  cases hd with
  | non => exact ⟨_, rfl, _, "list", _, _, rfl, .non, kt_l _, _, rfl, iteF ⟨_, rfl, _, "dict", _, _, rfl, .non, kt_k _, _, rfl, iteF ⟨_, rfl, _, _, n, rfl, .non, tx, rfl, rfl, q⟩⟩⟩
  | bl b => exact ⟨_, rfl, _, "list", _, _, rfl, .bl b, kt_l _, _, rfl, iteF ⟨_, rfl, _, "dict", _, _, rfl, .bl b, kt_k _, _, rfl, iteF ⟨_, rfl, _, _, n, rfl, .bl b, tx, rfl, rfl, q⟩⟩⟩
  | int b => exact ⟨_, rfl, _, "list", _, _, rfl, .int b, kt_l _, _, rfl, iteF ⟨_, rfl, _, "dict", _, _, rfl, .int b, kt_k _, _, rfl, iteF ⟨_, rfl, _, _, n, rfl, .int b, tx, rfl, rfl, q⟩⟩⟩
  | str b => exact ⟨_, rfl, _, "list", _, _, rfl, .str b, kt_l _, _, rfl, iteF ⟨_, rfl, _, "dict", _, _, rfl, .str b, kt_k _, _, rfl, iteF ⟨_, rfl, _, _, n, rfl, .str b, tx, rfl, rfl, q⟩⟩⟩
  | tup h r => exact (Bool.false_ne_true (show false = true from tx.one)).elim
  | @lst a o xs ds h r =>
    refine ⟨_, rfl, _, "list", _, _, rfl, .lst h r, kt_l _, _, rfl, iteT ⟨⟨_, rfl⟩, _, rfl, ?_⟩⟩
    have e : insT (.list ds) = (ds.map wr).map fun l => V.str (mk l) := by rw [List.map_map]; rfl
    rw [e] at hih
    refine wrapJ (c := 100000) hih l1_ l2 (fun l hl => ?_) (by rw [len_tl, c1]; decide) (by have := tx.nar.1; rw [List.length_map]; omega) ?_
    · obtain ⟨x, hx, rfl⟩ := List.mem_map.mp hl
      have := tx_wr ((tx.mono (Nat.le_succ n)).kid (d := .list ds) hx)
      omega
    · rw [c1, ← wr_list]
      exact q0
  | @dic a o es ds h r =>
    have hk := isOne_keys tx.one
    obtain ⟨kvs, hf, rfl, hks⟩ := doc_dict h r hk
    obtain ⟨s1, s2, s3⟩ := tx.nar
    have big : (1000000 : Nat) ≤ sizeLine := by decide
    refine ⟨_, rfl, _, "list", _, _, rfl, .dic h r, kt_l _, _, rfl, iteF ⟨_, rfl, _, "dict", _, _, rfl, .dic h r, kt_k _, _, rfl, iteT ⟨_, rfl, a, kvs, rfl, .inr ⟨o, hf⟩, fun l hl => ⟨_, rfl, ?_⟩⟩⟩⟩
    have k1 := same_new hl (.lst (kvs.map fun kv => kV kv.1))
    have eI : insT (.dict ds) = (ds.map fun p => mk (wr p.2)).map V.str := by
      show ((ds.map (·.2)).map fun p => V.str (mk (wr p))) = _
      rw [List.map_map, List.map_map]
      rfl
    rw [eI] at hih
    refine ⟨l, ih, ds.map (fun p => kS p.1), ds.map (fun p => mk (wr p.2)), rfl, SqL.of (by rw [upd_same, keys_of hks]), SqL.of (k1 _ _ hih), by rw [List.length_map, List.length_map], s2, fun H1 rh os out k2 hrh hp hs h1 hpr => ?_⟩
    obtain ⟨f1, f2⟩ := rows_of s2 hp hs
    have lo : out.length ≤ 4 := by
      have := congrArg List.length f1
      rw [List.length_map, (fls_perm ds).length_eq, List.length_map] at this
      omega
    have los : os.length = out.length := Paired.length hpr
    refine ⟨⟨_, rfl⟩, _, rfl, rh, rfl, ⟨_, SqL.of h1⟩, fun D hD => ?_⟩
    refine lc_it (walk_list (K := K) (a := rh) (xs := os.map V.ref)) (fun i H2 => Same H1 H2 ∧ H2 D = some (.lst (((out.take i).map fun q => wrow ds q.1).map fun l => V.str (mk l)))) ⟨same_new hD _, upd_same⟩ (fun _ H2 _ z => SqL.of (z.1 _ _ h1)) ?_ ?_
    · rintro i v H2 H2' hi ⟨k3, hD2⟩ ⟨rfl, hv⟩
      rw [List.length_map] at hi
      rw [List.getElem?_map, List.getElem?_eq_getElem hi] at hv
      have hv' : V.ref os[i] = v := Option.some.inj hv
      subst hv'
      obtain ⟨qq, hq, htq⟩ := LiI.paired_get hpr (List.getElem?_eq_getElem hi)
      obtain ⟨g1, g2⟩ := f2 qq (List.mem_of_getElem? hq)
      obtain ⟨hn, p, hpm, hpk, hpl, hm⟩ := tx.key g1
      have kn := name_len hn
      rw [← len_tl] at kn
      have wp := tx_wr ((tx.mono (Nat.le_succ n)).kid hm)
      have e2l : qq.2.length = (wr (lookD ds qq.1)).length := by rw [g2]; rfl
      rw [hpl] at e2l
      have n1 : (": " : Str).length = 2 := by decide
      have e58 : tl (": " : Str) = [58, 32] := by decide +kernel
      have z0 : tl Str.empty = [] := by decide +kernel
      refine ⟨_, _, rfl, SqT.of (k3 _ _ htq), rfl, V.str qq.1, [V.str qq.2], rfl, V.str qq.2, [], rfl, rfl, rfl, ?_⟩
      simp only [tYes, if_true]
      refine ⟨_, rfl, .inl ⟨_, rfl, by omega, _, rfl, ?_, _, rfl, ?_, _, rfl, .inl ⟨_, rfl, by omega, _, rfl, ?_, _, hD2, K00.small1000 (by rw [List.length_map, List.length_map, List.length_take]; omega), fun b o' e => ?_, ?_⟩⟩⟩
      · rw [len_tl, tl_append, z0, List.nil_append, ← len_tl]
        omega
      · show ((Str.empty ++ qq.1) ++ (": " : Str)).length ≤ _
        rw [len_tl, tl_append, tl_append, z0, List.nil_append, List.length_append, ← len_tl, ← len_tl]
        omega
      · show (((Str.empty ++ qq.1) ++ (": " : Str)) ++ qq.2).length ≤ _
        rw [len_tl, tl_append, tl_append, tl_append, z0, List.nil_append, List.length_append, List.length_append, ← len_tl, ← len_tl, ← len_tl]
        omega
      · rw [upd_ne (ne_of_none e hD)]
        exact k3 _ _ e
      · rw [upd_same, List.take_add_one, hq]
        simp only [Option.toList_some, List.map_append, List.map_cons, List.map_nil]
        congr 4
        refine congrArg V.str (ext_tl ?_)
        show tl (((Str.empty ++ qq.1) ++ (": " : Str)) ++ qq.2) = tl qq.1 ++ (58 :: 32 :: wr (lookD ds qq.1))
        rw [tl_append, tl_append, tl_append, z0, e58, g2, List.nil_append, List.append_assoc]
        rfl
    · rintro H2 ⟨k3, hD2⟩
      rw [List.length_map, los, List.take_length] at hD2
      have eF : (out.map fun q => wrow ds q.1) = (fls ds).map (wrow ds) := by rw [← f1, List.map_map]; rfl
      rw [eF] at hD2
      refine wrapJ (c := 100020) hD2 m1 m2 (fun l hl => ?_) (by rw [len_tl, c1]; decide) (by rw [List.length_map, (fls_perm ds).length_eq, List.length_map]; omega) ?_
      · obtain ⟨k, hk', rfl⟩ := List.mem_map.mp hl
        obtain ⟨hn, p, _, _, hpl, hm⟩ := tx.key ((fls_perm ds).mem_iff.mp hk')
        have := tx_wr ((tx.mono (Nat.le_succ n)).kid hm)
        have := name_len hn
        show (tl k ++ (58 :: 32 :: wr (lookD ds k))).length ≤ _
        rw [hpl, List.length_append, List.length_cons, List.length_cons]
        omega
      · rw [c1, ← wr_dictF s2]
        exact q _ ((k1.trans k2).trans k3)
end
end K87
set_option Elab.async false
set_option linter.all false
set_option maxRecDepth 100000
set_option maxHeartbeats 8000000
/-! G87L: parts_of, in their sequence; text_of. -/
namespace K87
open PySem PySem.Spec L2 K00 TL
open PyProof.Rows (envOfC sortedS)
def off (ps : List PyData) (i : Nat) : Nat := 1 + ((ps.take i).map kids).flatten.length
/-- the parts, each one's own behind all that came before -/
structure Bfs (d : PyData) (i : Nat) (ps : List PyData) : Prop where
  le : i ≤ ps.length
  eq : ps = d :: ((ps.take i).map kids).flatten
  lt : ∀ j, j < i → j < off ps j
theorem Bfs.start (d : PyData) : Bfs d 0 [d] := ⟨Nat.zero_le _, rfl, fun _ h => absurd h (Nat.not_lt_zero _)⟩
theorem Bfs.step {root d : PyData} {i : Nat} {ps : List PyData} (w : Bfs root i ps) (h : ps[i]? = some d) : Bfs root (i + 1) (ps ++ kids d) := by
  obtain ⟨hi, hd⟩ := List.getElem?_eq_some_iff.mp h
  have e4 : ∀ j, j ≤ i + 1 → (ps ++ kids d).take j = ps.take j := fun j hj => List.take_append_of_le_length (by omega)
  have e2 : ps.take (i + 1) = ps.take i ++ [d] := by rw [← List.take_append_getElem hi, hd]
  have lo : off ps i = ps.length := by
    have := congrArg List.length w.eq
    rw [List.length_cons] at this
    unfold off
    omega
  refine ⟨by rw [List.length_append]; omega, ?_, fun j hj => ?_⟩
  · rw [e4 _ (Nat.le_refl _), e2, List.map_append, List.flatten_append]
    have : ps ++ kids d = (root :: ((ps.take i).map kids).flatten) ++ kids d := congrArg (· ++ kids d) w.eq
    rw [this]
    simp
  · have : off (ps ++ kids d) j = off ps j := by
      unfold off
      rw [e4 j (by omega)]
    rw [this]
    by_cases hji : j = i
    · subst hji
      omega
    · exact w.lt j (by omega)
theorem off_succ {ps : List PyData} {j : Nat} {p : PyData} (h : ps[j]? = some p) : off ps (j + 1) = off ps j + (kids p).length := by
  obtain ⟨hi, hd⟩ := List.getElem?_eq_some_iff.mp h
  have e2 : ps.take (j + 1) = ps.take j ++ [p] := by rw [← List.take_append_getElem hi, hd]
  unfold off
  rw [e2, List.map_append, List.flatten_append, List.length_append]
  simp
  omega
/-- the inner parts stand behind each other -/
theorem Bfs.slice {d p : PyData} {ps : List PyData} {j : Nat} (w : Bfs d ps.length ps) (h : ps[j]? = some p) : (ps.drop (off ps j)).take (kids p).length = kids p := by
  obtain ⟨hi, hd⟩ := List.getElem?_eq_some_iff.mp h
  have e := w.eq
  rw [List.take_length] at e
  have e1 : ps = ps.take j ++ p :: ps.drop (j + 1) := by
    rw [← hd, ← List.drop_eq_getElem_cons hi, List.take_append_drop]
  have e3 : (ps.map kids).flatten = ((ps.take j).map kids).flatten ++ (kids p ++ ((ps.drop (j + 1)).map kids).flatten) := by
    have := congrArg (fun l => (List.map kids l).flatten) e1
    simpa using this
  have e5 : ps.drop (off ps j) = kids p ++ ((ps.drop (j + 1)).map kids).flatten := by
    unfold off
    generalize hL : ((ps.take j).map kids).flatten = L at e3 ⊢
    generalize hM : ((ps.drop (j + 1)).map kids).flatten = M at e3 ⊢
    rw [e, e3, Nat.add_comm 1, List.drop_succ_cons, List.drop_left]
  rw [e5, List.take_left]
theorem Bfs.full {d : PyData} {ps : List PyData} (w : Bfs d ps.length ps) : off ps ps.length = ps.length := by
  have := congrArg List.length w.eq
  rw [List.length_cons] at this
  unfold off
  omega
theorem ixN_nat7 {n j : Nat} (hj : j < n) : ixN n (j : Int) = some j := by
  unfold ixN
  rw [if_pos (by omega), if_pos (by omega)]
  simp
theorem cut_mid {xs : List V} {lo hi : Nat} (h1 : lo ≤ hi) (h2 : hi ≤ xs.length) : cutV xs (some (lo : Int)) (some (hi : Int)) = (xs.drop lo).take (hi - lo) := by
  unfold cutV
  rw [HT.sIx_nat, HT.sIx_nat, Nat.min_eq_left h2, Nat.min_eq_left (by omega)]
section
variable {P : Program} {w : World} {K : PySem.W.Frag} {mg : Str → Option Value} {base : Heap} {f g g2 g3 : Addr} {fd gd gd2 gd3 : FuncData}
def spParts7 (P : Program) (w : World) : Sp := fun vs H Q _ => ∃ (x : V) (d : PyData) (n : Nat), vs = [x] ∧ Da P w H x d ∧ Tx n d ∧ cnt d ≤ 1000000 ∧
  ∀ l H' ys ps, Same H H' → H l = none → H' l = some (.lst ys) → DaL P w H' ys ps → (∀ p ∈ ps, Tx n p) → Bfs d ps.length ps → ps.length = cnt d → Q (.ref l) H'
theorem ok_parts7 (F : FnD K "parts_of" 10 f fd) (B : Bl mg) (G : FnOk P w K mg base CX0 1 g gd ["value"] (spInner P w)) (bG : Binds K gd ["value"] []) (kG : PySem.W.keepIn K (.ref g) = true) (gG : mg "inner_parts" = some (.ref g)) :
    FnOk P w K mg base CX0 2 f fd ["value"] (spParts7 P w) := by
  refine F.ok scParts (fun vs H Q E h => ?_) (fun cdv A outer s H vs Q E hr h => ?_)
  · obtain ⟨x, d, n, rfl, _⟩ := h
    rfl
  obtain ⟨x, d, n, rfl, hd, tx, hc, q⟩ := h
  refine ⟨_, PSs.nox (pss_cons (ps_set (i := 1) scParts.nd rfl (Or.inl rfl) (pe_lst (pa_cons (pv 0) pa_nil)))
    (pss_cons (ps_set (i := 2) scParts.nd rfl (Or.inl rfl) pe_int)
    (pss_cons (ps_while PassesOwn.never (pt_cmpR op_lt (pv 2) (pe_callB call_len_seq (by rfl) B.len PySem.boot_len (pa_cons (pv 1) pa_nil)) (nomark _))
      (pss_cons (ps_expr (pe_bm PySem.F.plainAttrs_list PySem.F.slot_list_extend PySem.F.type_list_extend mt_extend (pv 1)
        (pa_cons (pe_call G hr rfl gG kG bG .nil pass0 (pa_cons (pe_ix ix_list (pv 1) (pv 2) (fun _ _ => rfl)) pa_nil)) pa_nil)))
      (pss_one (ps_aug (i := 2) scParts.nd rfl (Or.inl rfl) pe_int ip_add))))
    (pss_one (ps_ret (pv 1)))))), ?_⟩
  refine ⟨_, rfl, (by show 1 ≤ sizeLine; decide), fun l hl => ?_⟩
  refine ⟨fun m σ H' => ∃ (n_1 : Nat) (ys : List V) (ps : List PyData), m + n_1 = cnt d ∧ σ = [some x, some (.ref l), some (.int n_1)] ∧ H' l = some (.lst ys) ∧ Same H H' ∧ DaL P w H' ys ps ∧ (∀ p ∈ ps, Tx n p) ∧ Wide d n_1 ps ∧ Bfs d n_1 ps,
    ⟨cnt d, 0, [x], [d], rfl, rfl, upd_same, same_new hl _, .cons (hd.kp (.new hl _)) .nil, fun p hp => by rw [List.mem_singleton.mp hp]; exact tx, .start d, .start d⟩, ?_⟩
  rintro m σ H' ⟨i, ys, ps, hmn, rfl, hH, k, hD, hS, W, Bf⟩
  have hlen := hD.length
  refine ⟨_, rfl, _, rfl, l, _, rfl, .inl (SqL.of hH), _, _, rfl, rfl, _, rfl, ?_⟩
  refine ite2 (fun c => ?_) (fun c => ?_)
  · have c' : (i : Int) < (ys.length : Int) := of_decide_eq_true c
    have hn : i < ys.length := by omega
    have hnp : i < ps.length := by omega
    have hlt := W.lt hnp
    obtain ⟨y, hy⟩ : ∃ y, ys[i]? = some y := ⟨ys[i], List.getElem?_eq_getElem hn⟩
    obtain ⟨p, hp, hyp⟩ := hD.get hy
    have W2 := W.step hp
    have B2 := Bf.step hp
    have hl2 := W2.len
    have txp := hS p (List.mem_of_getElem? hp)
    refine ⟨fun σ' H'' => ∃ (ys' : List V) (ps' : List PyData), σ' = [some x, some (.ref l), some (.int ((i + 1 : Nat) : Int))] ∧ H'' l = some (.lst ys') ∧ Same H H'' ∧ DaL P w H'' ys' ps' ∧ (∀ p ∈ ps', Tx n p) ∧ Wide d (i + 1) ps' ∧ Bfs d (i + 1) ps',
      fun σ' H'' ⟨ys', ps', z⟩ => ⟨m - 1, by omega, i + 1, ys', ps', by omega, z⟩, ?_⟩
    refine ⟨_, rfl, .inl ⟨rfl, _, SqL.of hH⟩, _, rfl, _, rfl, l, _, _, _, rfl, rfl, SqL.of hH, atI_nat hy, ?_⟩
    refine ⟨y, p, rfl, hyp, txp.sm, fun b zs hb hz => ?_⟩
    have nlb : l ≠ b := ne_of_none hH hb
    have hzl := hz.length
    rw [List.length_append] at hl2
    refine ⟨l, b, ys, zs, rfl, rfl, ?_, upd_same, Nat.le_of_lt (smallM (by omega)), ?_⟩
    · rw [upd_ne nlb]
      exact hH
    · have k2 : Kp H' (upd (upd H' b (.lst zs)) l (.lst (ys ++ zs))) := (Kp.new hb _).trans (.lst (by rw [upd_ne nlb]; exact hH) _)
      refine ⟨_, rfl, _, _, rfl, rfl, ys ++ zs, ps ++ kids p, rfl, upd_same, fun c o e => ?_, (hD.kp k2).append (hz.kp k2), fun p' hp' => ?_, W2, B2⟩
      · by_cases ec : c = l
        · rw [ec, hl] at e
          cases e
        · rw [upd_ne ec]
          exact (k.trans (same_new hb _)) c o e
      · rcases List.mem_append.mp hp' with h1 | h1
        · exact hS p' h1
        · exact (txp.mono (Nat.le_succ n)).kid h1
  · have c' : ¬ (i : Int) < (ys.length : Int) := fun z => c (decide_eq_true z)
    obtain ⟨e1, e2⟩ := W.done (by omega)
    have ei : i = ps.length := by have := Bf.le; omega
    subst ei
    exact ⟨_, rfl, q l H' ys ps k hl hH hD hS Bf e1⟩
/-! ### text_of -/
def spText (P : Program) (w : World) : Sp := fun vs H Q _ => ∃ (x : V) (d : PyData) (n : Nat), vs = [x] ∧ Da P w H x d ∧ Tx n d ∧ wL n ≤ 100000 ∧ cnt d ≤ 900 ∧ ∀ H', Same H H' → Q (.str (mk (wr d))) H'
abbrev NgX : List Str := ["document", "parts", "told", "_", "end", "at", "start"]
theorem scText : FnScope NgX ["document"] (defScope (top 23)) := ⟨rfl, rfl, rfl, by decide +kernel, rfl, by decide +kernel, by decide +kernel⟩
theorem ok_text (F : FnD K "text_of" 23 f fd) (B : Bl mg) (hrev : mg "reversed" = none)
    (GP : FnOk P w K mg base CX0 2 g gd ["value"] (spParts7 P w)) (bP : Binds K gd ["value"] []) (kP : PySem.W.keepIn K (.ref g) = true) (gP : mg "parts_of" = some (.ref g))
    (GI : FnOk P w K mg base CX0 1 g2 gd2 ["value"] (spInner P w)) (bI : Binds K gd2 ["value"] []) (kI : PySem.W.keepIn K (.ref g2) = true) (gI : mg "inner_parts" = some (.ref g2))
    (GO : FnOk P w K mg base CX0 2 g3 gd3 ["part", "inner"] (spOuter P w)) (bO : Binds K gd3 ["part", "inner"] []) (kO : PySem.W.keepIn K (.ref g3) = true) (gO : mg "outer_text" = some (.ref g3)) :
    FnOk P w K mg base CX0 3 f fd ["document"] (spText P w) := by
  refine F.ok scText (fun vs H Q E h => ?_) (fun cdv A outer s H vs Q E hr h => ?_)
  · obtain ⟨x, d, n, rfl, _⟩ := h
    rfl
  obtain ⟨x, d, n, rfl, hd, tx, hw, hc, q⟩ := h
  have hr1 : Room 1 _ := hr.mono (by decide)
  refine ⟨_, PSs.nox (pss_cons (ps_set (i := 1) scText.nd rfl (Or.inl rfl) (pe_call GP hr rfl gP kP bP .nil pass0 (pa_cons (pv 0) pa_nil)))
    (pss_cons (ps_setLc (i := 2) (own := [("_", 3)]) (g := gName 3) (tt := tYes) rfl scText.nd rfl rfl (sw_true rfl rfl rfl (by decide +kernel)) (pi_list (pv 1)) (blkOk_by (N := NgX) (sc := defScope (top 23)) (by decide +kernel))
        (fun _ _ _ _ _ => pg_name (i := 3) scText.nd rfl (Or.inl rfl)) (fun _ _ _ _ _ => pts_nil) (fun _ _ _ _ _ => pe_str))
    (pss_cons (ps_set (i := 4) scText.nd rfl (Or.inl rfl) (pe_callB call_len_seq (by rfl) B.len PySem.boot_len (pa_cons (pv 1) pa_nil)))
    (pss_cons (ps_for PassesOwn.never rfl (pi_revR (by rfl) hrev (prg_1 (by rfl) B.range (pe_callB call_len_seq (by rfl) B.len PySem.boot_len (pa_cons (pv 1) pa_nil)))) (pg_name (i := 5) scText.nd rfl (Or.inl rfl))
      (pss_cons (ps_set (i := 6) scText.nd rfl (Or.inl rfl) (pe_op op_sub (pv 4) (pe_callB call_len_seq (by rfl) B.len PySem.boot_len (pa_cons (pe_call GI hr1 rfl gI kI bI .nil pass0 (pa_cons (pe_ix ix_list (pv 1) (pv 5) (fun _ _ => rfl)) pa_nil)) pa_nil))))
      (pss_cons (ps_asg (pe_call GO hr rfl gO kO bO .nil pass0 (pa_cons (pe_ix ix_list (pv 1) (pv 5) (fun _ _ => rfl)) (pa_cons (pe_slice sl_list (pv 2) (po_some (pv 6)) (po_some (pv 4))) pa_nil))) (pg_sub (pv 2) (pv 5) set_list))
      (pss_one (ps_set (i := 4) scText.nd rfl (Or.inl rfl) (pv 6))))))
    (pss_one (ps_ret (pe_ix ix_list (pv 2) pe_int (fun _ _ => rfl)))))))), ?_⟩
  have two : (2 : Nat) ≤ sizeLine := by decide
  refine ⟨_, rfl, x, d, n, rfl, hd, tx, by omega, fun l H1 ys ps k1 hl hl1 hD hT Bf hc1 => ?_⟩
  have hlen := hD.length
  have lys : ys.length ≤ 900 := by omega
  refine ⟨_, rfl, l, rfl, ⟨_, SqL.of hl1⟩, fun D hDn => ?_⟩
  have nDl : l ≠ D := ne_of_none hl1 hDn
  refine lc_it (walk_list (K := K) (a := l) (xs := ys)) (fun i H2 => Same H1 H2 ∧ H2 D = some (.lst (List.replicate i (.str "")))) ⟨same_new hDn _, upd_same⟩ (fun _ H2 _ z => SqL.of (z.1 _ _ hl1)) ?_ ?_
  · rintro i v H2 H2' hi ⟨k2, hD2⟩ ⟨rfl, hv⟩
    refine ⟨rfl, ?_⟩
    simp only [tYes, if_true]
    refine ⟨_, hD2, K00.small1000 (by rw [List.length_replicate]; omega), fun b o e => ?_, ?_⟩
    · rw [upd_ne (ne_of_none e hDn)]
      exact k2 _ _ e
    · rw [upd_same, List.replicate_succ']
  rintro H2 ⟨k2, hD2⟩
  have eN : ys.length = ps.length := hlen
  rw [eN] at hD2
  have hl2 := k2 _ _ hl1
  refine ⟨_, rfl, l, _, rfl, .inl (SqL.of hl2), ?_⟩
  refine ⟨_, rfl, l, _, rfl, .inl (SqL.of hl2), _, rfl, by omega, by omega, by omega, by omega, ?_⟩
  have eT : ((ys.length : Int) - 0).toNat = ps.length := by omega
  rw [eT]
  have kH : Same H H2 := k1.trans k2
  refine for_it walk_rangeC (fun i σ H3 => ∃ (tv sv : Option V) (r : Nat), r + i = ps.length ∧ σ = [some x, some (.ref l), some (.ref D), none, some (.int (off ps r : Nat)), tv, sv] ∧ H3 l = some (.lst ys) ∧
      H3 D = some (.lst (List.replicate r (.str "") ++ (ps.drop r).map fun p => V.str (mk (wr p)))) ∧ Same H H3 ∧ DaL P w H3 ys ps)
    ⟨none, none, ps.length, rfl, by rw [Bf.full, ← eN]; rfl, hl2, by rw [hD2, List.drop_length]; simp, kH, hD.kp (.same k2)⟩ (fun _ _ _ _ _ => trivial) ?turn ?after
  case turn =>
    rintro i v σ H3 H3' hi ⟨tv, sv, r, hri, rfl, h3l, h3D, k3, hD3⟩ ⟨rfl, rfl⟩
    obtain ⟨j, rfl⟩ : ∃ j, r = j + 1 := ⟨r - 1, by omega⟩
    have hj : j < ys.length := by omega
    obtain ⟨y, hy⟩ : ∃ y, ys[j]? = some y := ⟨ys[j], List.getElem?_eq_getElem hj⟩
    obtain ⟨p, hp, hyp⟩ := hD3.get hy
    have txp := hT p (List.mem_of_getElem? hp)
    have ej : (0 + (ps.length : Nat) - 1 + (i : Nat) * -1 : Int) = (j : Nat) := by omega
    show gName 5 (V.int (0 + (ps.length : Nat) - 1 + (i : Nat) * -1 : Int)) _ _ _
    rw [ej]
    have oS := off_succ hp
    have hk4 := txp.kids4
    have oj : j < off ps j := Bf.lt j (by omega)
    refine ⟨_, rfl, _, rfl, _, rfl, l, _, _, _, rfl, rfl, SqL.of h3l, atI_nat hy, y, p, rfl, hyp, txp.sm, fun b zs hb hz => ⟨b, zs, rfl, .inl (SqL.of upd_same), _, _, rfl, rfl, ?_⟩⟩
    have k4 := same_new hb (.lst zs)
    have hzl := hz.length
    have eS : ((off ps (j + 1) : Nat) : Int) - (zs.length : Nat) = (off ps j : Nat) := by omega
    show gName 6 (V.int (((off ps (j + 1) : Nat) : Int) - (zs.length : Nat))) _ _ _
    rw [eS]
    have h4l : upd H3' b (.lst zs) l = some (.lst ys) := k4 _ _ h3l
    have h4D := k4 _ _ h3D
    have offle : off ps (j + 1) ≤ ps.length := by
      have := Bf.full
      have hm : off ps (j + 1) ≤ off ps ps.length := by
        unfold off
        have : ((ps.take (j + 1)).map kids).flatten.length ≤ ((ps.take ps.length).map kids).flatten.length := by
          have e : ps.take ps.length = ps.take (j + 1) ++ ps.drop (j + 1) := by rw [List.take_length, List.take_append_drop]
          rw [e, List.map_append, List.flatten_append, List.length_append]
          omega
        omega
      omega
    have eC : cutV (List.replicate (j + 1) (V.str "") ++ (ps.drop (j + 1)).map fun p => V.str (mk (wr p))) (some (off ps j : Nat)) (some (off ps (j + 1) : Nat)) = insT p := by
      rw [cut_mid (by omega) (by rw [List.length_append, List.length_replicate, List.length_map, List.length_drop]; omega), oS, Nat.add_sub_cancel_left]
      have e1 : (List.replicate (j + 1) (V.str "") ++ (ps.drop (j + 1)).map fun p => V.str (mk (wr p))).drop (off ps j) = (ps.drop (off ps j)).map fun p => V.str (mk (wr p)) := by
        rw [List.drop_append, List.drop_eq_nil_of_le (by rw [List.length_replicate]; omega), List.nil_append, List.length_replicate, ← List.map_drop, List.drop_drop]
        congr 2
        omega
      rw [e1, ← List.map_take, Bf.slice hp]
      rfl
    refine ⟨_, rfl, _, rfl, l, _, _, _, rfl, rfl, SqL.of h4l, atI_nat hy, _, rfl, _, rfl, _, rfl, _, rfl, _, rfl, D, _, rfl, SqL.of h4D, fun ih hih => ⟨y, p, ih, n, rfl, ?_, txp, hw, ?_, fun H5 k5 => ⟨_, rfl, _, rfl, D, _, _, j, rfl, rfl, k5 _ _ ((same_new hih _) _ _ h4D), ?_, ?_⟩⟩⟩
    · exact hyp.kp (.same (k4.trans (same_new hih _)))
    · rw [upd_same, eC]
    · rw [List.length_append, List.length_replicate, List.length_map, List.length_drop]
      exact ixN_nat7 (by omega)
    · refine ⟨_, rfl, _, _, j, by omega, rfl, ?_, ?_, ?_, ?_⟩
      · rw [upd_ne nDl]
        exact k5 _ _ ((same_new hih _) _ _ h4l)
      · rw [upd_same]
        congr 2
        have e5 : ps.drop j = p :: ps.drop (j + 1) := by
          obtain ⟨z1, z2⟩ := List.getElem?_eq_some_iff.mp hp
          rw [← z2]
          exact List.drop_eq_getElem_cons z1
        rw [List.set_append_left _ _ (by rw [List.length_replicate]; omega), e5, List.map_cons, List.replicate_succ', List.set_append_right _ _ (by rw [List.length_replicate]; omega), List.length_replicate, Nat.sub_self, List.append_assoc]
        rfl
      · intro c o e
        rw [upd_ne (ne_of_none e (Same.free k1 hDn))]
        exact k5 _ _ ((same_new hih _) _ _ (k4 _ _ (k3 _ _ e)))
      · exact hD3.kp ((((Kp.same k4).trans (.same (same_new hih _))).trans (.same k5)).trans (.lst (k5 _ _ ((same_new hih _) _ _ h4D)) _))
  case after =>
    rintro σ H3 ⟨tv, sv, r, hri, rfl, h3l, h3D, k3, hD3⟩
    have r0 : r = 0 := by omega
    subst r0
    rw [List.replicate_zero, List.nil_append, List.drop_zero] at h3D
    have e0 : (ps.map fun p => V.str (mk (wr p)))[0]? = some (V.str (mk (wr d))) := by
      have := Bf.eq
      rw [this]
      rfl
    exact ⟨_, rfl, D, _, 0, _, rfl, rfl, SqL.of h3D, atI_nat e0, q _ k3⟩
end
end K87
set_option Elab.async false
set_option linter.all false
set_option maxRecDepth 100000
set_option maxHeartbeats 8000000
/-! G87M: check_document of a document; show_document. -/
namespace K87
open PySem PySem.Spec L2 K00 TL
open PyProof.Rows (envOfC sortedS)
theorem ps_no {X : Cx} {s : Stmt} : PS X s (fun _ _ _ => False) := ⟨fun _ _ _ _ _ _ h => h.elim⟩
section
variable {P : Program} {w : World} {K : PySem.W.Frag} {mg : Str → Option Value} {base : Heap} {f g g2 g3 : Addr} {fd gd gd2 gd3 : FuncData}
def spCheck (P : Program) (w : World) : Sp := fun vs H Q _ => ∃ (x : V) (d : PyData), vs = [x] ∧ Da P w H x d ∧ Sm d ∧ cnt d ≤ 1000000 ∧ isOne d = true ∧ ∀ H', Same H H' → Q .non H'
theorem scCheck : FnScope ["document"] ["document"] (defScope (top 17)) := ⟨rfl, rfl, rfl, by decide +kernel, rfl, by decide +kernel, by decide +kernel⟩
theorem ok_check (F : FnD K "check_document" 17 f fd) (GD : FnOk P w K mg base CX0 3 g gd ["value"] (spIsDoc P w)) (bD : Binds K gd ["value"] []) (kD : PySem.W.keepIn K (.ref g) = true) (gD : mg "is_document" = some (.ref g)) :
    FnOk P w K mg base CX0 4 f fd ["document"] (spCheck P w) := by
  refine F.ok scCheck (fun vs H Q E h => ?_) (fun cdv A outer s H vs Q E hr h => ?_)
  · obtain ⟨x, d, rfl, _⟩ := h
    rfl
  obtain ⟨x, d, rfl, hd, sm, hc, od, q⟩ := h
  refine ⟨_, PSs.nox (pss_one (ps_if (pt_not (pt_val (pe_call GD hr rfl gD kD bD .nil pass0 (pa_cons (pv 0) pa_nil)))) (pss_one ps_no) pss_nil)), ?_⟩
  refine ⟨_, rfl, x, d, rfl, hd, sm, hc, fun H' k => ⟨_, rfl, ?_⟩⟩
  rw [od]
  exact q H' k
def spShow (P : Program) (w : World) : Sp := fun vs H Q _ => ∃ (x : V) (d : PyData) (n : Nat), vs = [x] ∧ Da P w H x d ∧ Tx n d ∧ wL n ≤ 100000 ∧ cnt d ≤ 900 ∧ ∀ H', Same H H' → Q (.str (mk (wr d))) H'
theorem scShow : FnScope ["document"] ["document"] (defScope (top 24)) := ⟨rfl, rfl, rfl, by decide +kernel, rfl, by decide +kernel, by decide +kernel⟩
theorem ok_show (F : FnD K "show_document" 24 f fd) (GC : FnOk P w K mg base CX0 4 g gd ["document"] (spCheck P w)) (bC : Binds K gd ["document"] []) (kC : PySem.W.keepIn K (.ref g) = true) (gC : mg "check_document" = some (.ref g))
    (GT : FnOk P w K mg base CX0 3 g2 gd2 ["document"] (spText P w)) (bT : Binds K gd2 ["document"] []) (kT : PySem.W.keepIn K (.ref g2) = true) (gT : mg "text_of" = some (.ref g2)) :
    FnOk P w K mg base CX0 5 f fd ["document"] (spShow P w) := by
  refine F.ok scShow (fun vs H Q E h => ?_) (fun cdv A outer s H vs Q E hr h => ?_)
  · obtain ⟨x, d, n, rfl, _⟩ := h
    rfl
  obtain ⟨x, d, n, rfl, hd, tx, hw, hc, q⟩ := h
  have hr3 : Room 3 _ := hr.mono (by decide)
  refine ⟨_, PSs.nox (pss_cons (ps_expr (pe_call GC hr rfl gC kC bC .nil pass0 (pa_cons (pv 0) pa_nil))) (pss_one (ps_ret (pe_call GT hr3 rfl gT kT bT .nil pass0 (pa_cons (pv 0) pa_nil))))), ?_⟩
  exact ⟨_, rfl, x, d, rfl, hd, tx.sm, by omega, tx.one, fun H1 k1 => ⟨_, rfl, x, d, n, rfl, hd.kp (.same k1), tx, hw, hc, fun H2 k2 => q H2 (k1.trans k2)⟩⟩
end
end K87
set_option Elab.async false
set_option linter.all false
set_option maxRecDepth 100000
set_option maxHeartbeats 8000000
/-! G87N: string_end, token_end. -/
namespace K87
open PySem PySem.Spec L2 K00 TL
open PyProof.Rows (envOfC sortedS)
/-- how far a string goes, its quotes aside -/
def sE : List Nat → Nat
  | [] => 0
  | [c] => if c = 34 then 0 else if c = 92 then 2 else 1
  | c :: d :: r => if c = 34 then 0 else if c = 92 then 2 + sE r else 1 + sE (d :: r)
theorem sE_quote (r : List Nat) : sE (34 :: r) = 0 := by cases r <;> rfl
theorem sE_stroke (l : List Nat) (r : List Nat) (h : l = 92 :: r) : sE l = 2 + sE (r.drop 1) := by
  subst h
  cases r <;> rfl
theorem sE_other {c : Nat} (r : List Nat) (h1 : c ≠ 34) (h2 : c ≠ 92) : sE (c :: r) = 1 + sE r := by
  cases r with
  | nil => simp [sE, h1, h2]
  | cons d t => simp [sE, h1, h2]
def marksW : List Nat := [91, 93, 123, 125, 44, 58, 32]
/-- how far a word goes -/
def wE : List Nat → Nat
  | [] => 0
  | c :: r => if c ∈ marksW ∨ c = 34 then 0 else 1 + wE r
/-- how far a token goes -/
def tE : List Nat → Nat
  | [] => 1
  | c :: r => if c = 34 then 2 + sE r else if c ∈ marksW then 1 else 1 + wE r
theorem one_eq (c n : Nat) (s : Str) (h : tl s = [n]) : decide (V.str ⟨#[c]⟩ = V.str s) = decide (c = n) := by
  by_cases e : c = n
  · subst e
    rw [decide_eq_true rfl, decide_eq_true]
    exact congrArg V.str (ext_tl h.symm)
  · rw [decide_eq_false e, decide_eq_false]
    intro z
    have z2 := congrArg tl (V.str.inj z)
    rw [h] at z2
    exact e (List.cons.inj z2).1
section
variable {P : Program} {w : World} {K : PySem.W.Frag} {mg : Str → Option Value} {base : Heap} {f g g2 g3 : Addr} {fd gd gd2 gd3 : FuncData}
def spStrEnd : Sp := fun vs H Q _ => ∃ (s : Str) (a : Nat), vs = [.str s, .int (a : Nat)] ∧ s.length ≤ 1000000 ∧ ∀ H', Same H H' → Q (.int ((a + 2 + sE ((tl s).drop (a + 1)) : Nat) : Int)) H'
theorem scStrEnd : FnScope ["text", "at", "end"] ["text", "at"] (defScope (top 25)) := ⟨rfl, rfl, rfl, by decide +kernel, rfl, by decide +kernel, by decide +kernel⟩
theorem ok_strEnd (F : FnD K "string_end" 25 f fd) (B : Bl mg) : FnOk P w K mg base CX0 1 f fd ["text", "at"] spStrEnd := by
  refine F.ok scStrEnd (fun vs H Q E h => ?_) (fun cdv A outer s H vs Q E hr h => ?_)
  · obtain ⟨z, a, rfl, _⟩ := h
    rfl
  obtain ⟨z, a, rfl, hz, q⟩ := h
  refine ⟨_, PSs.nox (pss_cons (ps_set (i := 2) scStrEnd.nd rfl (Or.inl rfl) (pe_op op_add (pv 1) pe_int))
    (pss_cons (ps_while PassesOwn.never (PW.pt (pw_and (pt_cmpR op_lt (pv 2) (pe_callB call_len_str (by rfl) B.len PySem.boot_len (pa_cons (pv 0) pa_nil)) (nomark _)) (pw_and1 (pt_cmpR op_ne (pe_ix ix_str (pv 0) (pv 2) (fun _ _ => rfl)) pe_str (nomark _)))))
      (pss_one (ps_set (i := 2) scStrEnd.nd rfl (Or.inl rfl) (pe_op op_add (pv 2) (pe_ifExp (pt_cmpR op_eq (pe_ix ix_str (pv 0) (pv 2) (fun _ _ => rfl)) pe_str (nomark _)) pe_int pe_int)))))
    (pss_one (ps_ret (pe_op op_add (pv 2) pe_int))))), ?_⟩
  have big : (1000000 : Nat) ≤ sizeLine := by decide
  have d1 : tl ("\"" : Str) = [34] := by decide +kernel
  have d2 : tl ("\\" : Str) = [92] := by decide +kernel
  have zl : z.length = (tl z).length := len_tl z
  refine ⟨_, rfl, _, _, rfl, rfl, ?_⟩
  refine ⟨fun m σ H' => H' = H ∧ ∃ e : Nat, m + e = z.length + e - min e z.length ∧ σ = [some (.str z), some (.int (a : Nat)), some (.int (e : Nat))] ∧ a + 1 + sE ((tl z).drop (a + 1)) = e + sE ((tl z).drop e),
    ⟨z.length - min (a + 1) z.length, rfl, a + 1, by omega, rfl, rfl⟩, ?_⟩
  rintro m σ H' ⟨rfl, e, hm, rfl, he⟩
  refine ⟨_, rfl, _, rfl, z, rfl, by omega, _, _, rfl, rfl, _, rfl, ?_⟩
  have fin : sE ((tl z).drop e) = 0 → Q (.int ((e : Int) + 1)) H' := fun h0 => by
    have := q H' (same_refl H')
    have e1 : ((a + 2 + sE ((tl z).drop (a + 1)) : Nat) : Int) = (e : Nat) + 1 := by omega
    rw [e1] at this
    exact this
  refine ite2 (fun c => ?_) (fun c => ?_)
  · have c' : (e : Int) < (z.length : Int) := of_decide_eq_true c
    have hlt : e < (tl z).length := by omega
    have hg : (tl z)[e]? = some (tl z)[e] := List.getElem?_eq_getElem hlt
    have hdr : (tl z).drop e = (tl z)[e] :: (tl z).drop (e + 1) := List.drop_eq_getElem_cons hlt
    generalize (tl z)[e] = ch at hg hdr
    refine ⟨_, rfl, _, rfl, z, _, ch, rfl, rfl, by omega, atI_nat hg, rfl, _, rfl, ?_⟩
    rw [one_eq ch 34 _ d1]
    by_cases h34 : ch = 34
    · rw [decide_eq_true h34]
      refine iteF ⟨_, rfl, _, _, rfl, rfl, fin ?_⟩
      rw [hdr, h34]
      exact sE_quote _
    · rw [decide_eq_false h34]
      refine iteT ⟨fun σ' H'' => H'' = H' ∧ ∃ e' : Nat, e < e' ∧ σ' = [some (.str z), some (.int (a : Nat)), some (.int (e' : Nat))] ∧ a + 1 + sE ((tl z).drop (a + 1)) = e' + sE ((tl z).drop e'), fun σ' H'' ⟨h1, e', h2, h3, h4⟩ => ⟨z.length - min e' z.length, by omega, h1, e', by omega, h3, h4⟩, ?_⟩
      refine ⟨_, rfl, _, rfl, _, rfl, z, _, ch, rfl, rfl, by omega, atI_nat hg, rfl, _, rfl, ?_⟩
      rw [one_eq ch 92 _ d2]
      by_cases h92 : ch = 92
      · rw [decide_eq_true h92]
        refine iteT ⟨_, _, rfl, rfl, rfl, e + 2, by omega, rfl, ?_⟩
        have := sE_stroke _ _ (by rw [hdr, h92] : (tl z).drop e = 92 :: (tl z).drop (e + 1))
        rw [List.drop_drop] at this
        have e2 : e + 1 + 1 = e + 2 := rfl
        rw [e2] at this
        rw [he, this]
        omega
      · rw [decide_eq_false h92]
        refine iteF ⟨_, _, rfl, rfl, rfl, e + 1, by omega, rfl, ?_⟩
        rw [he, hdr, sE_other _ h34 h92]
        omega
  · have c' : ¬ (e : Int) < (z.length : Int) := fun h => c (decide_eq_true h)
    refine iteF ⟨_, rfl, _, _, rfl, rfl, fin ?_⟩
    rw [List.drop_eq_nil_of_le (by omega)]
    rfl
end
end K87
set_option Elab.async false
set_option linter.all false
set_option maxRecDepth 100000
set_option maxHeartbeats 8000000
/-! G87O: token_end. -/
namespace K87
open PySem PySem.Spec L2 K00 TL
open PyProof.Rows (envOfC sortedS)
def MK : Str := "[]{},: "
theorem tl_MK : tl MK = marksW := by decide +kernel
theorem wE_go {c : Nat} (r : List Nat) (h1 : c ∉ marksW) (h2 : c ≠ 34) : wE (c :: r) = 1 + wE r := by
  show (if c ∈ marksW ∨ c = 34 then 0 else 1 + wE r) = _
  rw [if_neg (by simp [h1, h2])]
theorem wE_stop {c : Nat} (r : List Nat) (h : c ∈ marksW ∨ c = 34) : wE (c :: r) = 0 := by
  show (if c ∈ marksW ∨ c = 34 then 0 else 1 + wE r) = _
  rw [if_pos h]
section
variable {P : Program} {w : World} {K : PySem.W.Frag} {mg : Str → Option Value} {base : Heap} {f g g2 g3 : Addr} {fd gd gd2 gd3 : FuncData}
def spTokEnd : Sp := fun vs H Q _ => ∃ (s : Str) (a : Nat), vs = [.str s, .int (a : Nat)] ∧ s.length ≤ 1000000 ∧ a < s.length ∧ ∀ H', Same H H' → Q (.int ((a + tE ((tl s).drop a) : Nat) : Int)) H'
theorem scTokEnd : FnScope ["text", "at", "end"] ["text", "at"] (defScope (top 26)) := ⟨rfl, rfl, rfl, by decide +kernel, rfl, by decide +kernel, by decide +kernel⟩
theorem ok_tokEnd {t1 : Tok} (F : FnD K "token_end" 26 f fd) (B : Bl mg) (gM : mg "MARKS" = some (.str MK t1)) (G : FnOk P w K mg base CX0 1 g gd ["text", "at"] spStrEnd) (bG : Binds K gd ["text", "at"] []) (kG : PySem.W.keepIn K (.ref g) = true) (gG : mg "string_end" = some (.ref g)) :
    FnOk P w K mg base CX0 2 f fd ["text", "at"] spTokEnd := by
  refine F.ok scTokEnd (fun vs H Q E h => ?_) (fun cdv A outer s H vs Q E hr h => ?_)
  · obtain ⟨z, a, rfl, _⟩ := h
    rfl
  obtain ⟨z, a, rfl, hz, ha, q⟩ := h
  refine ⟨_, PSs.nox (pss_cons (ps_if (pt_cmpR op_eq (pe_ix ix_str (pv 0) (pv 1) (fun _ _ => rfl)) pe_str (nomark _)) (pss_one (ps_ret (pe_call G hr rfl gG kG bG .nil pass0 (pa_cons (pv 0) (pa_cons (pv 1) pa_nil))))) pss_nil)
    (pss_cons (ps_set (i := 2) scTokEnd.nd rfl (Or.inl rfl) (pe_op op_add (pv 1) pe_int))
    (pss_cons (ps_if (pt_cmpR op_notIn_sign (pe_ix ix_str (pv 0) (pv 1) (fun _ _ => rfl)) (pe_glob (v := .str MK) rfl gM ⟨_, rfl⟩) (by rfl))
      (pss_one (ps_while PassesOwn.never (PW.pt (pw_and (pt_cmpR op_lt (pv 2) (pe_callB call_len_str (by rfl) B.len PySem.boot_len (pa_cons (pv 0) pa_nil)) (nomark _))
          (pw_and (pt_cmpR op_notIn_sign (pe_ix ix_str (pv 0) (pv 2) (fun _ _ => rfl)) (pe_glob (v := .str MK) rfl gM ⟨_, rfl⟩) (by rfl)) (pw_and1 (pt_cmpR op_ne (pe_ix ix_str (pv 0) (pv 2) (fun _ _ => rfl)) pe_str (nomark _))))))
        (pss_one (ps_aug (i := 2) scTokEnd.nd rfl (Or.inl rfl) pe_int ip_add)))) pss_nil)
    (pss_one (ps_ret (pv 2)))))), ?_⟩
  have big : (1000000 : Nat) ≤ sizeLine := by decide
  have d1 : tl ("\"" : Str) = [34] := by decide +kernel
  have zl : z.length = (tl z).length := len_tl z
  have hlt : a < (tl z).length := by omega
  have hg : (tl z)[a]? = some (tl z)[a] := List.getElem?_eq_getElem hlt
  have hdr : (tl z).drop a = (tl z)[a] :: (tl z).drop (a + 1) := List.drop_eq_getElem_cons hlt
  generalize (tl z)[a] = ch at hg hdr
  refine ⟨_, rfl, _, rfl, z, _, ch, rfl, rfl, by omega, atI_nat hg, rfl, _, rfl, ?_⟩
  rw [one_eq ch 34 _ d1]
  by_cases h34 : ch = 34
  · rw [decide_eq_true h34]
    refine iteT ⟨_, rfl, _, rfl, z, a, rfl, hz, fun H' k => ?_⟩
    have := q H' k
    rw [hdr, h34] at this
    have e : a + tE (34 :: (tl z).drop (a + 1)) = a + 2 + sE ((tl z).drop (a + 1)) := by
      have e0 : tE (34 :: (tl z).drop (a + 1)) = 2 + sE ((tl z).drop (a + 1)) := by simp [tE]
      omega
    rw [e] at this
    exact this
  rw [decide_eq_false h34]
  refine iteF ⟨_, rfl, _, _, rfl, rfl, ?_⟩
  refine ⟨_, rfl, _, rfl, z, _, ch, rfl, rfl, by omega, atI_nat hg, ch, MK, rfl, rfl, _, rfl, ?_⟩
  have eM : decide (ch ∈ MK.cps.toList) = decide (ch ∈ marksW) := by rw [show MK.cps.toList = marksW from tl_MK]
  rw [eM]
  have tEo : tE ((tl z).drop a) = if ch ∈ marksW then 1 else 1 + wE ((tl z).drop (a + 1)) := by
    rw [hdr]
    simp [tE, h34]
  by_cases hm : ch ∈ marksW
  · rw [decide_eq_true hm]
    rw [if_pos hm] at tEo
    have := q H (same_refl H)
    rw [tEo] at this
    exact iteF ⟨_, rfl, this⟩
  rw [decide_eq_false hm]
  rw [if_neg hm] at tEo
  refine iteT ⟨fun m σ H' => H' = H ∧ ∃ e : Nat, m + e = z.length + e - min e z.length ∧ σ = [some (.str z), some (.int (a : Nat)), some (.int (e : Nat))] ∧ a + 1 + wE ((tl z).drop (a + 1)) = e + wE ((tl z).drop e),
    ⟨z.length - min (a + 1) z.length, rfl, a + 1, by omega, rfl, rfl⟩, ?_⟩
  rintro m σ H' ⟨rfl, e, hm2, rfl, he⟩
  refine ⟨_, rfl, _, rfl, z, rfl, by omega, _, _, rfl, rfl, _, rfl, ?_⟩
  have fin : wE ((tl z).drop e) = 0 → Q (.int (e : Int)) H' := fun h0 => by
    have := q H' (same_refl H')
    rw [tEo] at this
    have e1 : ((a + (1 + wE ((tl z).drop (a + 1))) : Nat) : Int) = (e : Nat) := by omega
    rw [e1] at this
    exact this
  refine ite2 (fun c => ?_) (fun c => ?_)
  · have c' : (e : Int) < (z.length : Int) := of_decide_eq_true c
    have hlt2 : e < (tl z).length := by omega
    have hg2 : (tl z)[e]? = some (tl z)[e] := List.getElem?_eq_getElem hlt2
    have hdr2 : (tl z).drop e = (tl z)[e] :: (tl z).drop (e + 1) := List.drop_eq_getElem_cons hlt2
    generalize (tl z)[e] = ch2 at hg2 hdr2
    refine ⟨_, rfl, _, rfl, z, _, ch2, rfl, rfl, by omega, atI_nat hg2, ch2, MK, rfl, rfl, _, rfl, ?_⟩
    have eM2 : decide (ch2 ∈ MK.cps.toList) = decide (ch2 ∈ marksW) := by rw [show MK.cps.toList = marksW from tl_MK]
    rw [eM2]
    by_cases hm3 : ch2 ∈ marksW
    · rw [decide_eq_true hm3]
      refine iteF (iteF ⟨_, rfl, fin ?_⟩)
      rw [hdr2]
      exact wE_stop _ (.inl hm3)
    · rw [decide_eq_false hm3]
      refine iteT ⟨_, rfl, _, rfl, z, _, ch2, rfl, rfl, by omega, atI_nat hg2, rfl, _, rfl, ?_⟩
      rw [one_eq ch2 34 _ d1]
      by_cases h342 : ch2 = 34
      · rw [decide_eq_true h342]
        refine iteF ⟨_, rfl, fin ?_⟩
        rw [hdr2]
        exact wE_stop _ (.inr h342)
      · rw [decide_eq_false h342]
        refine iteT ⟨fun σ' H'' => H'' = H' ∧ ∃ e' : Nat, e < e' ∧ σ' = [some (.str z), some (.int (a : Nat)), some (.int (e' : Nat))] ∧ a + 1 + wE ((tl z).drop (a + 1)) = e' + wE ((tl z).drop e'), fun σ' H'' ⟨h1, e', h2, h3, h4⟩ => ⟨z.length - min e' z.length, by omega, h1, e', by omega, h3, h4⟩, ?_⟩
        refine ⟨_, rfl, _, _, rfl, rfl, rfl, e + 1, by omega, rfl, ?_⟩
        rw [he, hdr2, wE_go _ hm3 h342]
        omega
  · have c' : ¬ (e : Int) < (z.length : Int) := fun h => c (decide_eq_true h)
    refine iteF ⟨_, rfl, fin ?_⟩
    rw [List.drop_eq_nil_of_le (by omega)]
    rfl
end
end K87
set_option Elab.async false
set_option linter.all false
set_option maxRecDepth 100000
set_option maxHeartbeats 8000000
/-! G87P: tokens_of. -/
namespace K87
open PySem PySem.Spec L2 K00 TL
open PyProof.Rows (envOfC sortedS)
theorem inV_strs {a : Str} {ws : List Str} : inV (.str a) (ws.map V.str) = decide (a ∈ ws) := by
  unfold inV
  rw [List.any_map]
  by_cases h : a ∈ ws
  · rw [decide_eq_true h]
    exact List.any_eq_true.mpr ⟨a, h, by show (a == a) = true; exact beq_iff_eq.mpr rfl⟩
  · rw [decide_eq_false h]
    refine List.any_eq_false.mpr fun y hy => ?_
    show ¬ (y == a) = true
    intro z
    exact h (beq_iff_eq.mp z ▸ hy)
theorem tl_cut (z : Str) {a e : Nat} (h1 : a ≤ z.length) : tl (cutS z (some (a : Int)) (some (e : Int))) = ((tl z).drop a).take (e - a) := by
  show ((z.cps.toList.drop (HT.sIx z.length 0 (some (a : Int)))).take (HT.sIx z.length z.length (some (e : Int)) - HT.sIx z.length 0 (some (a : Int)))) = _
  rw [HT.sIx_nat, HT.sIx_nat, Nat.min_eq_left h1]
  show ((tl z).drop a).take (min e z.length - a) = _
  rcases Nat.le_total e z.length with h | h
  · rw [Nat.min_eq_left h]
  · rw [Nat.min_eq_right h, List.take_of_length_le (by rw [List.length_drop, ← len_tl]; omega), List.take_of_length_le (by rw [List.length_drop, ← len_tl]; omega)]
/-- a text's tokens -/
inductive Lex : List Nat → List (List Nat) → Prop where
  | nil : Lex [] []
  | cons {l : List Nat} {ts : List (List Nat)} (h : l ≠ []) (r : Lex (l.drop (tE l)) ts) : Lex l (l.take (tE l) :: ts)
theorem tE_pos {l : List Nat} (h : l ≠ []) : 1 ≤ tE l := by
  cases l with
  | nil => exact absurd rfl h
  | cons c r =>
    unfold tE
    simp only
    split
    · omega
    · split <;> omega
theorem Lex.len {l : List Nat} {ts : List (List Nat)} (h : Lex l ts) : ts.length ≤ l.length := by
  induction h with
  | nil => exact Nat.le_refl _
  | @cons l ts h r ih =>
    have := tE_pos h
    rw [List.length_drop] at ih
    have hl : l.length ≠ 0 := fun z => h (List.eq_nil_of_length_eq_zero z)
    rw [List.length_cons]
    omega
def keepN (t : List Nat) : Bool := !decide (t ∈ ([[44], [58], [32]] : List (List Nat)))
theorem keep_eq (t : List Nat) : (!inV (.str (mk t)) [.str ",", .str ":", .str " "]) = keepN t := by
  show (!inV (.str (mk t)) (([",", ":", " "] : List Str).map V.str)) = _
  rw [inV_strs]
  unfold keepN
  congr 2
  have e1 : (("," : Str)) = mk [44] := by decide +kernel
  have e2 : ((":" : Str)) = mk [58] := by decide +kernel
  have e3 : ((" " : Str)) = mk [32] := by decide +kernel
  rw [e1, e2, e3]
  have inj : ∀ u : List Nat, mk t = mk u ↔ t = u := fun u => ⟨fun h => congrArg tl h, fun h => congrArg mk h⟩
  simp only [List.mem_cons, List.not_mem_nil, or_false, inj]
section
variable {P : Program} {w : World} {K : PySem.W.Frag} {mg : Str → Option Value} {base : Heap} {f g g2 g3 : Addr} {fd gd gd2 gd3 : FuncData}
def spTokens : Sp := fun vs H Q _ => ∃ (s : Str) (ts : List (List Nat)), vs = [.str s] ∧ s.length ≤ 1000000 ∧ Lex (tl s) ts ∧
  ∀ l H', Same H H' → H l = none → H' l = some (.lst ((ts.filter keepN).map fun t => V.str (mk t))) → Q (.ref l) H'
abbrev NgTk : List Str := ["text", "tokens", "at", "end", "token"]
abbrev ttTk (K : PySem.W.Frag) : TT := tTest (tOp (rIn K true) (tVar 4) (tTup (tCons (tC (.str ",")) (tCons (tC (.str ":")) (tCons (tC (.str " ")) tNil)))))
theorem scTokens : FnScope NgTk ["text"] (defScope (top 27)) := ⟨rfl, rfl, rfl, by decide +kernel, rfl, by decide +kernel, by decide +kernel⟩
theorem ok_tokens (F : FnD K "tokens_of" 27 f fd) (B : Bl mg) (G : FnOk P w K mg base CX0 2 g gd ["text", "at"] spTokEnd) (bG : Binds K gd ["text", "at"] []) (kG : PySem.W.keepIn K (.ref g) = true) (gG : mg "token_end" = some (.ref g)) :
    FnOk P w K mg base CX0 3 f fd ["text"] spTokens := by
  refine F.ok scTokens (fun vs H Q E h => ?_) (fun cdv A outer s H vs Q E hr h => ?_)
  · obtain ⟨z, ts, rfl, _⟩ := h
    rfl
  obtain ⟨z, ts, rfl, hz, hx, q⟩ := h
  refine ⟨_, PSs.nox (pss_cons (ps_set (i := 1) scTokens.nd rfl (Or.inl rfl) (pe_lst pa_nil))
    (pss_cons (ps_set (i := 2) scTokens.nd rfl (Or.inl rfl) pe_int)
    (pss_cons (ps_while PassesOwn.never (pt_cmpR op_lt (pv 2) (pe_callB call_len_str (by rfl) B.len PySem.boot_len (pa_cons (pv 0) pa_nil)) (nomark _))
      (pss_cons (ps_set (i := 3) scTokens.nd rfl (Or.inl rfl) (pe_call G hr rfl gG kG bG .nil pass0 (pa_cons (pv 0) (pa_cons (pv 2) pa_nil))))
      (pss_cons (ps_expr (pe_bm PySem.F.plainAttrs_list PySem.F.slot_list_append PySem.F.type_list_append mt_append (pv 1) (pa_cons (pe_slice sl_str (pv 0) (po_some (pv 2)) (po_some (pv 3))) pa_nil)))
      (pss_one (ps_set (i := 2) scTokens.nd rfl (Or.inl rfl) (pv 3))))))
    (pss_one (ps_ret (pe_lc (own := [("token", 4)]) (g := gName 4) (tt := ttTk K) (te := tVar 4) rfl scTokens.nd (pi_list (pv 1)) (blkOk_by (N := NgTk) (sc := defScope (top 27)) (by decide +kernel))
        (fun _ _ _ _ _ => pg_name (i := 4) scTokens.nd rfl (Or.inl rfl)) (fun _ _ _ _ _ => pts_one (pt_cmpR op_notIn_seq (pv 4) (pe_tup (pa_cons pe_str (pa_cons pe_str (pa_cons pe_str pa_nil)))) (by rfl))) (fun _ _ _ _ _ => pv 4))))))), ?_⟩
  have big : (1000000 : Nat) ≤ sizeLine := by decide
  have zl : z.length = (tl z).length := len_tl z
  have tlen := hx.len
  refine ⟨(by show 0 ≤ sizeLine; decide), fun L hL => ?_⟩
  have k0 := same_new hL (.lst [])
  refine ⟨fun m σ H' => ∃ (a : Nat) (ev : Option V) (done rest : List (List Nat)), m = rest.length ∧ done ++ rest = ts ∧ Lex ((tl z).drop a) rest ∧ σ = [some (.str z), some (.ref L), some (.int (a : Nat)), ev, none] ∧ H' L = some (.lst (done.map fun t => V.str (mk t))) ∧ Same H H',
    ⟨ts.length, 0, none, [], ts, rfl, rfl, hx, rfl, upd_same, k0⟩, ?_⟩
  rintro m σ H' ⟨a, ev, done, rest, rfl, hdr, hrest, rfl, hL2, k2⟩
  refine ⟨_, rfl, _, rfl, z, rfl, by omega, _, _, rfl, rfl, _, rfl, ?_⟩
  have dl : done.length + rest.length = ts.length := by rw [← hdr, List.length_append]
  refine ite2 (fun c => ?_) (fun c => ?_)
  · have c' : (a : Int) < (z.length : Int) := of_decide_eq_true c
    have ne : (tl z).drop a ≠ [] := fun h => by
      have := congrArg List.length h
      rw [List.length_drop] at this
      simp only [List.length_nil] at this
      omega
    generalize hd : (tl z).drop a = l at hrest ne
    cases hrest with
    | nil => exact absurd rfl ne
    | @cons _ rest' hne hr' =>
      rw [← hd] at hr'
      rw [List.drop_drop, hd] at hr'
      refine ⟨fun σ' H'' => ∃ (a' : Nat) (ev' : Option V) (done' : List (List Nat)), done' ++ rest' = ts ∧ Lex ((tl z).drop a') rest' ∧ σ' = [some (.str z), some (.ref L), some (.int (a' : Nat)), ev', none] ∧ H'' L = some (.lst (done'.map fun t => V.str (mk t))) ∧ Same H H'',
        fun σ' H'' ⟨a', ev', done', z1, z2, z3, z4, z5⟩ => ⟨rest'.length, by rw [List.length_cons]; omega, a', ev', done', rest', rfl, z1, z2, z3, z4, z5⟩, ?_⟩
      refine ⟨_, rfl, _, rfl, z, a, rfl, hz, by omega, fun H3 k3 => ?_⟩
      have h3L := k3 _ _ hL2
      rw [hd]
      refine ⟨_, rfl, .inl ⟨rfl, _, SqL.of h3L⟩, _, rfl, _, rfl, _, rfl, _, rfl, _, rfl, z, rfl, by omega, L, _, _, rfl, rfl, h3L, Nat.lt_of_lt_of_le (by rw [List.length_map]; rw [List.length_cons] at dl; omega : _ < 1000000) big, ?_⟩
      refine ⟨_, rfl, a + tE l, _, done ++ [l.take (tE l)], by rw [List.append_assoc]; exact hdr, hr', rfl, ?_, fun b o e => ?_⟩
      · rw [upd_same, List.map_append]
        congr 3
        refine congrArg (fun t => [V.str t]) (ext_tl ?_)
        rw [tl_cut z (by omega), hd, Nat.add_sub_cancel_left]
      · rw [upd_ne (ne_of_none e hL)]
        exact k3 _ _ (k2 _ _ e)
  · have c' : ¬ (a : Int) < (z.length : Int) := fun h => c (decide_eq_true h)
    have e0 : (tl z).drop a = [] := List.drop_eq_nil_of_le (by omega)
    rw [e0] at hrest
    have hn : rest = [] := by
      cases hrest with
      | nil => rfl
      | cons h _ => exact absurd rfl h
    subst hn
    rw [List.append_nil] at hdr
    subst hdr
    refine ⟨_, rfl, L, rfl, ⟨_, SqL.of hL2⟩, fun D hD => ?_⟩
    refine lc_it (tt := ttTk K) (te := tVar 4) (walk_list (K := K) (a := L) (xs := done.map fun t => V.str (mk t))) (fun i H3 => Same H' H3 ∧ H3 D = some (.lst (((done.take i).filter keepN).map fun t => V.str (mk t)))) ⟨same_new hD _, upd_same⟩ (fun _ H3 _ y => SqL.of (y.1 _ _ hL2)) ?_ ?_
    · rintro i v H3 H3' hi ⟨k3, hD3⟩ ⟨rfl, hv⟩
      rw [List.length_map] at hi
      rw [List.getElem?_map, List.getElem?_eq_getElem hi] at hv
      have hv' : V.str (mk done[i]) = v := Option.some.inj hv
      subst hv'
      have ht : done[i]? = some done[i] := List.getElem?_eq_getElem hi
      generalize done[i] = t at ht
      refine ⟨rfl, _, rfl, (by show 3 ≤ sizeLine; decide), fun p hp => ⟨p, _, rfl, .inr (SqT.of upd_same), rfl, rfl, _, rfl, ?_⟩⟩
      have k4 := same_new hp (.tup [.str ",", .str ":", .str " "])
      show if (!inV (.str (mk t)) [.str ",", .str ":", .str " "]) = true then _ else _
      rw [keep_eq]
      have e5 : ((done.take (i + 1)).filter keepN).map (fun t => V.str (mk t)) = ((done.take i).filter keepN).map (fun t => V.str (mk t)) ++ (if keepN t = true then [V.str (mk t)] else []) := by
        rw [List.take_add_one, ht]
        simp only [Option.toList_some, List.filter_append, List.map_append]
        congr 1
        by_cases hk : keepN t = true
        · rw [if_pos hk, List.filter_cons_of_pos hk]
          rfl
        · rw [if_neg hk, List.filter_cons_of_neg hk]
          rfl
      by_cases hk : keepN t = true
      · rw [if_pos hk] at e5
        refine ite_t hk ⟨_, rfl, _, k4 _ _ hD3, Nat.lt_of_lt_of_le (by rw [List.length_map]; have := List.length_filter_le keepN (done.take i); rw [List.length_take] at this; omega : _ < 1000000) big, fun b o e => ?_, ?_⟩
        · rw [upd_ne (ne_of_none e hD)]
          exact k4 _ _ (k3 _ _ e)
        · rw [upd_same, e5]
      · rw [if_neg hk, List.append_nil] at e5
        refine ite_f (by simpa using hk) ⟨k3.trans k4, ?_⟩
        rw [e5]
        exact k4 _ _ hD3
    · rintro H3 ⟨k3, hD3⟩
      rw [List.length_map, List.take_length] at hD3
      exact q D H3 (k2.trans k3) (Same.free k2 hD) hD3
end
end K87
set_option Elab.async false
set_option linter.all false
set_option maxRecDepth 100000
set_option maxHeartbeats 8000000
/-! G87Q: unquoted, of a string's own token. -/
namespace K87
open PySem PySem.Spec L2 K00 TL
open PyProof.Rows (envOfC sortedS)
theorem at_drop {α : Type} {l : List α} {n : Nat} {c : α} {r : List α} (h : l.drop n = c :: r) : l[n]? = some c := by
  have := congrArg (fun x => x[0]?) h
  simpa using this
theorem esc_cons (c : Nat) (r : List Nat) : esc (c :: r) = e1 c ++ esc r := rfl
theorem e1_pos (c : Nat) : 1 ≤ (e1 c).length := by
  unfold e1
  split
  · exact Nat.le_succ 1
  · exact Nat.le_refl 1
/-- a string's token -/
def qt (l : List Nat) : List Nat := 34 :: (esc l ++ [34])
theorem qt_len (l : List Nat) : (qt l).length = (esc l).length + 2 := by
  unfold qt
  rw [List.length_cons, List.length_append]
  rfl
theorem qt_drop (l : List Nat) (i : Nat) : (qt l).drop (1 + (esc (l.take i)).length) = esc (l.drop i) ++ [34] := by
  have e : esc l = esc (l.take i) ++ esc (l.drop i) := by rw [← esc_append, List.take_append_drop]
  unfold qt
  rw [Nat.add_comm, List.drop_succ_cons, e, List.append_assoc, List.drop_left]
section
variable {P : Program} {w : World} {K : PySem.W.Frag} {mg : Str → Option Value} {base : Heap} {f g g2 g3 : Addr} {fd gd gd2 gd3 : FuncData}
def spUnq : Sp := fun vs H Q _ => ∃ (l : List Nat), vs = [.str (mk (qt l))] ∧ l.length ≤ 400000 ∧ ∀ H', Same H H' → Q (.str (mk l)) H'
theorem scUnq : FnScope ["token", "told", "at"] ["token"] (defScope (top 28)) := ⟨rfl, rfl, rfl, by decide +kernel, rfl, by decide +kernel, by decide +kernel⟩
theorem ok_unq (F : FnD K "unquoted" 28 f fd) (B : Bl mg) : FnOk P w K mg base CX0 1 f fd ["token"] spUnq := by
  refine F.ok scUnq (fun vs H Q E h => ?_) (fun cdv A outer s H vs Q E hr h => ?_)
  · obtain ⟨l, rfl, _⟩ := h
    rfl
  obtain ⟨l, rfl, hl, q⟩ := h
  refine ⟨_, PSs.nox (pss_cons (ps_set (i := 1) scUnq.nd rfl (Or.inl rfl) (pe_lst pa_nil))
    (pss_cons (ps_set (i := 2) scUnq.nd rfl (Or.inl rfl) pe_int)
    (pss_cons (ps_while PassesOwn.never (pt_cmpR op_lt (pv 2) (pe_op op_sub (pe_callB call_len_str (by rfl) B.len PySem.boot_len (pa_cons (pv 0) pa_nil)) pe_int) (nomark _))
      (pss_cons (ps_if (pt_cmpR op_eq (pe_ix ix_str (pv 0) (pv 2) (fun _ _ => rfl)) pe_str (nomark _)) (pss_one (ps_aug (i := 2) scUnq.nd rfl (Or.inl rfl) pe_int ip_add)) pss_nil)
      (pss_cons (ps_expr (pe_bm PySem.F.plainAttrs_list PySem.F.slot_list_append PySem.F.type_list_append mt_append (pv 1) (pa_cons (pe_ix ix_str (pv 0) (pv 2) (fun _ _ => rfl)) pa_nil)))
      (pss_one (ps_aug (i := 2) scUnq.nd rfl (Or.inl rfl) pe_int ip_add)))))
    (pss_one (ps_ret (pe_join pe_str (pv 1))))))), ?_⟩
  have big : (1000000 : Nat) ≤ sizeLine := by decide
  have el := esc_len l
  have d2 : tl ("\\" : Str) = [92] := by decide +kernel
  have zl : (mk (qt l)).length = (esc l).length + 2 := (mk_len _).trans (qt_len l)
  have zt : (mk (qt l)).cps.toList = qt l := rfl
  generalize hz : mk (qt l) = z at zl zt ⊢
  refine ⟨(by show 0 ≤ sizeLine; decide), fun L hL => ?_⟩
  have k0 := same_new hL (.lst [])
  refine ⟨fun m σ H' => ∃ (i : Nat), m + i = l.length ∧ σ = [some (.str z), some (.ref L), some (.int ((1 + (esc (l.take i)).length : Nat) : Int))] ∧ H' L = some (.lst ((l.take i).map fun c => V.str (mk [c]))) ∧ Same H H',
    ⟨l.length, 0, rfl, rfl, upd_same, k0⟩, ?_⟩
  rintro m σ H' ⟨i, hm, rfl, hL2, k2⟩
  have e : esc l = esc (l.take i) ++ esc (l.drop i) := by rw [← esc_append, List.take_append_drop]
  have ee := congrArg List.length e
  rw [List.length_append] at ee
  refine ⟨_, rfl, _, rfl, z, rfl, by omega, _, _, rfl, rfl, _, _, rfl, rfl, _, rfl, ?_⟩
  refine ite2 (fun c => ?_) (fun c => ?_)
  · have c' : ((1 + (esc (l.take i)).length : Nat) : Int) < (z.length : Int) - 1 := of_decide_eq_true c
    have hi : i < l.length := by
      rcases Nat.lt_or_ge i l.length with h | h
      · exact h
      · rw [List.drop_eq_nil_of_le h] at ee
        have : (esc ([] : List Nat)).length = 0 := rfl
        omega
    have hci : l.drop i = l[i] :: l.drop (i + 1) := List.drop_eq_getElem_cons hi
    have hg : l[i]? = some l[i] := List.getElem?_eq_getElem hi
    generalize l[i] = ch at hci hg
    have hd := qt_drop l i
    rw [hci, esc_cons] at hd
    have e6 : esc (l.take (i + 1)) = esc (l.take i) ++ e1 ch := by
      rw [List.take_add_one, hg, esc_append]
      show _ ++ esc [ch] = _
      rw [esc_cons]
      simp [esc]
    have e7 := congrArg List.length e6
    rw [List.length_append] at e7
    refine ⟨fun σ' H'' => σ' = [some (.str z), some (.ref L), some (.int ((1 + (esc (l.take (i + 1))).length : Nat) : Int))] ∧ H'' L = some (.lst ((l.take (i + 1)).map fun c => V.str (mk [c]))) ∧ Same H H'',
      fun σ' H'' z => ⟨m - 1, by omega, i + 1, by omega, z⟩, ?_⟩
    have fin : ∀ (b : Nat), Same H (upd H' L (.lst ((l.take i).map (fun c => V.str (mk [c])) ++ [V.str (mk [ch])]))) ∧ upd H' L (.lst ((l.take i).map (fun c => V.str (mk [c])) ++ [V.str (mk [ch])])) L = some (.lst ((l.take (i + 1)).map fun c => V.str (mk [c]))) := fun _ => ⟨fun b o e => by
      rw [upd_ne (ne_of_none e hL)]
      exact k2 _ _ e, by
      rw [upd_same, List.take_add_one, hg, List.map_append]
      rfl⟩
    have tk : ((l.take i).map fun c => V.str (mk [c])).length < sizeLine := Nat.lt_of_lt_of_le (by rw [List.length_map, List.length_take]; omega : _ < 1000000) big
    by_cases hesc : ch = 34 ∨ ch = 92
    · have e1c : e1 ch = [92, ch] := if_pos hesc
      rw [e1c] at hd e7
      have g1 : z.cps.toList[1 + (esc (l.take i)).length]? = some 92 := by
        rw [zt]
        exact at_drop hd
      have hd2 : (qt l).drop (1 + (esc (l.take i)).length + 1) = ch :: (esc (l.drop (i + 1)) ++ [34]) := by
        rw [← List.drop_drop, hd]
        rfl
      have g2 : z.cps.toList[1 + (esc (l.take i)).length + 1]? = some ch := by
        rw [zt]
        exact at_drop hd2
      refine ⟨_, rfl, _, rfl, z, _, 92, rfl, rfl, by omega, atI_nat g1, rfl, _, rfl, ?_⟩
      rw [one_eq 92 92 _ d2, decide_eq_true rfl]
      refine iteT ⟨_, rfl, _, _, rfl, rfl, ?_⟩
      refine ⟨_, rfl, .inl ⟨rfl, _, SqL.of hL2⟩, _, rfl, _, rfl, z, _, ch, rfl, rfl, by omega, atI_nat (j := 1 + (esc (l.take i)).length + 1) g2, L, _, _, rfl, rfl, hL2, tk, ?_⟩
      refine ⟨_, rfl, _, _, rfl, rfl, ?_, (fin 0).2, (fin 0).1⟩
      have : ([92, ch] : List Nat).length = 2 := rfl
      have e9 : ((1 + (esc (l.take i)).length : Nat) : Int) + 1 + 1 = ((1 + (esc (l.take (i + 1))).length : Nat) : Int) := by omega
      show [some (V.str z), some (V.ref L), some (V.int (((1 + (esc (l.take i)).length : Nat) : Int) + 1 + 1))] = _
      rw [e9]
    · have e1c : e1 ch = [ch] := if_neg hesc
      rw [e1c] at hd e7
      have g1 : z.cps.toList[1 + (esc (l.take i)).length]? = some ch := by
        rw [zt]
        exact at_drop hd
      refine ⟨_, rfl, _, rfl, z, _, ch, rfl, rfl, by omega, atI_nat g1, rfl, _, rfl, ?_⟩
      rw [one_eq ch 92 _ d2, decide_eq_false (by omega)]
      refine iteF ?_
      refine ⟨_, rfl, .inl ⟨rfl, _, SqL.of hL2⟩, _, rfl, _, rfl, z, _, ch, rfl, rfl, by omega, atI_nat g1, L, _, _, rfl, rfl, hL2, tk, ?_⟩
      refine ⟨_, rfl, _, _, rfl, rfl, ?_, (fin 0).2, (fin 0).1⟩
      have : ([ch] : List Nat).length = 1 := rfl
      have e9 : ((1 + (esc (l.take i)).length : Nat) : Int) + 1 = ((1 + (esc (l.take (i + 1))).length : Nat) : Int) := by omega
      show [some (V.str z), some (V.ref L), some (V.int (((1 + (esc (l.take i)).length : Nat) : Int) + 1))] = _
      rw [e9]
  · have c' : ¬ ((1 + (esc (l.take i)).length : Nat) : Int) < (z.length : Int) - 1 := fun h => c (decide_eq_true h)
    have hi : l.length ≤ i := by
      rcases Nat.lt_or_ge i l.length with h | h
      · have hci : l.drop i = l[i] :: l.drop (i + 1) := List.drop_eq_getElem_cons h
        rw [hci, esc_cons, List.length_append] at ee
        have := e1_pos l[i]
        omega
      · exact h
    rw [List.take_of_length_le hi] at hL2
    have eL : (l.map fun c => V.str (mk [c])) = (l.map fun c => mk [c]).map V.str := by rw [List.map_map]; rfl
    rw [eL] at hL2
    have z1 : tl ("" : Str) = [] := by decide +kernel
    have sl := sum_len (ls := l.map fun c => [c]) (c := 1) fun x hx => by
      obtain ⟨c, _, rfl⟩ := List.mem_map.mp hx
      exact Nat.le_refl 1
    rw [List.length_map] at sl
    have eM : (l.map fun c => [c]).map mk = l.map fun c => mk [c] := by rw [List.map_map]; rfl
    rw [eM] at sl
    have l0 : ("" : Str).length = 0 := rfl
    refine ⟨⟨_, rfl⟩, _, rfl, _, L, _, rfl, rfl, .inl (SqL.of hL2), ?_, ?_⟩
    · rw [l0]
      have : ((l.map fun c => mk [c]).map (fun x => x.length)).sum ≤ l.length * 1 := sl
      omega
    · have eJ : Txt.join ("" : Str) (l.map fun c => mk [c]) = mk l := by
        refine ext_tl ?_
        have := join_mk ("" : Str) (l.map fun c => [c])
        rw [List.map_map] at this
        refine this.trans ?_
        rw [z1, jn_nil]
        show (l.map fun c => [c]).flatten = l
        generalize l = l
        induction l with
        | nil => rfl
        | cons c r ih => rw [List.map_cons, List.flatten_cons, ih]; rfl
      rw [eJ]
      exact q _ k2
end
end K87
set_option Elab.async false
set_option linter.all false
set_option maxRecDepth 100000
set_option maxHeartbeats 8000000
/-! G87R: leaves_in, of a leaf's own text. -/
namespace K87
open PySem PySem.Spec L2 K00 TL PySem.NumText
open PyProof.Rows (envOfC sortedS)
def DIG : Str := "0123456789"
theorem dig_in {c : Nat} (h1 : 48 ≤ c) (h2 : c ≤ 57) : c ∈ DIG.cps.toList := by
  have : c = 48 ∨ c = 49 ∨ c = 50 ∨ c = 51 ∨ c = 52 ∨ c = 53 ∨ c = 54 ∨ c = 55 ∨ c = 56 ∨ c = 57 := by omega
  rcases this with rfl | rfl | rfl | rfl | rfl | rfl | rfl | rfl | rfl | rfl <;> decide +kernel
theorem tl_neg (k : Nat) : tl (ts (Int.negSucc k)) = 45 :: numL (k + 1) := by
  unfold ts
  show (Str.ofString (toString (Int.negSucc k))).cps.toList = _
  rw [PyProof.Rows.signs_ofString]
  show ("-" ++ Nat.repr (k + 1)).toList.map Char.toNat = _
  rw [String.toList_append, List.map_append, Nat.toList_repr]
  rfl
theorem starts_eq (x y : Str) : Txt.startswith x y = (decide (y.length ≤ x.length) && ((tl x).take (tl y).length == tl y)) := by
  unfold Txt.startswith
  rw [PySem.StrLaws.subAt_eq, Nat.zero_add, List.drop_zero, len_tl y]
theorem sw1 {x y : Str} {b c : Nat} {r : List Nat} (hy : tl y = [b]) (hx : tl x = c :: r) : Txt.startswith x y = decide (c = b) := by
  rw [starts_eq, decide_eq_true (by rw [len_tl, len_tl, hx, hy]; exact Nat.succ_le_succ (Nat.zero_le _)), hx, hy]
  show ([c] == [b]) = _
  by_cases h : c = b
  · subst h
    simp
  · rw [decide_eq_false h]
    simpa using h
theorem tl_cut1 (x : Str) : tl (cutS x (some 1) none) = (tl x).drop 1 := by
  show ((x.cps.toList.drop (HT.sIx x.length 0 (some ((1 : Nat) : Int)))).take (HT.sIx x.length x.length none - HT.sIx x.length 0 (some ((1 : Nat) : Int)))) = _
  rw [HT.sIx_nat, HT.sIx_none]
  have e : x.length = x.cps.toList.length := by simp [Str.length]
  rcases Nat.lt_or_ge x.length 1 with h | h
  · have h0 : x.cps.toList = [] := List.eq_nil_of_length_eq_zero (by omega)
    show _ = x.cps.toList.drop 1
    rw [h0]
    simp
  · rw [Nat.min_eq_left h]
    exact List.take_of_length_le (by rw [List.length_drop]; omega)
/-- a number's text -/
structure NumF (i : Int) : Prop where
  hd : ∃ c r, tl (ts i) = c :: r ∧ c ≠ 34 ∧ (ts i) ∉ wdT ∧ c ∉ marksW
  neg : (∃ r, tl (ts i) = 45 :: r ∧ ∀ c ∈ r, 48 ≤ c ∧ c ≤ 57) ∨ ((∀ c ∈ tl (ts i), 48 ≤ c ∧ c ≤ 57) ∧ ∃ c r, tl (ts i) = c :: r ∧ c ≠ 45)
  rd : intText? (ts i) = some i
theorem numF {i : Int} (h : i.natAbs ≤ 2000000000000000000) : NumF i := by
  have w1 : tl ("-" : Str) = [45] := by decide +kernel
  have w2 : tl ("yes" : Str) = [121, 101, 115] := by decide +kernel
  have w3 : tl ("no" : Str) = [110, 111] := by decide +kernel
  have nowd : ∀ {c : Nat} {r : List Nat}, tl (ts i) = c :: r → (c = 45 → r ≠ []) → c ≤ 57 → ts i ∉ wdT := fun {c r} e h1 h2 hm => by
    have e2 : wdT = (["-", "yes", "no"] : List Str) := rfl
    rw [e2] at hm
    simp only [List.mem_cons, List.not_mem_nil, or_false] at hm
    rcases hm with z | z | z
    · rw [z, w1] at e
      cases e
      exact h1 rfl rfl
    · rw [z, w2] at e
      cases e
      omega
    · rw [z, w3] at e
      cases e
      omega
  have nomk : ∀ {c : Nat}, (c = 45 ∨ (48 ≤ c ∧ c ≤ 57)) → c ∉ marksW := fun {c} h hm => by
    have e2 : marksW = [91, 93, 123, 125, 44, 58, 32] := rfl
    rw [e2] at hm
    simp only [List.mem_cons, List.not_mem_nil, or_false] at hm
    omega
  cases i with
  | ofNat n =>
    have e : tl (ts (Int.ofNat n)) = numL n := tl_num n
    have ne := numL_ne n
    have dg := numL_digits n
    obtain ⟨c, r, er⟩ : ∃ c r, numL n = c :: r := by
      cases q : numL n with
      | nil => exact absurd q ne
      | cons c r => exact ⟨c, r, rfl⟩
    have hc := dg c (by rw [er]; exact List.mem_cons_self)
    have hn : n ≤ 2000000000000000000 := h
    have hl : (numL n).length ≤ 20 := numL_len (by decide) (by omega)
    refine ⟨⟨c, r, e.trans er, by omega, nowd (e.trans er) (by omega) (by omega), nomk (.inr hc)⟩, .inr ⟨by rw [e]; exact dg, c, r, e.trans er, by omega⟩, ?_⟩
    exact int_num (n := n) (by omega)
  | negSucc k =>
    have e := tl_neg k
    have ne := numL_ne (k + 1)
    have dg := numL_digits (k + 1)
    have hn : k + 1 ≤ 2000000000000000000 := h
    have hl : (numL (k + 1)).length ≤ 20 := numL_len (by decide) (by omega)
    refine ⟨⟨45, _, e, by omega, nowd e (fun _ => ne) (by omega), nomk (.inl rfl)⟩, .inl ⟨_, e, dg⟩, ?_⟩
    have := intText_neg (x := ts (Int.negSucc k)) (cs := numL (k + 1)) e dg ne (by rw [len_tl, e, List.length_cons]; omega)
    rw [this, numL_val]
    rfl
/-- what is asked of WORDS -/
structure WdK (K : PySem.W.Frag) (w : World) (mg : Str → Option Value) (D : Addr) : Prop where
  g : mg "WORDS" = some (.ref D)
  d : ∃ es n, KDict K w D es n
  no_ : PySem.W.nsIn K D "-" = some (some .none)
  yes : PySem.W.nsIn K D "yes" = some (some (.bool true))
  not : PySem.W.nsIn K D "no" = some (some (.bool false))
  out : ∀ z, z ∉ wdT → PySem.W.nsIn K D z = some none
section
variable {P : Program} {w : World} {K : PySem.W.Frag} {mg : Str → Option Value} {base : Heap} {f g g2 g3 : Addr} {fd gd gd2 gd3 : FuncData}
def spLeaves (P : Program) (w : World) : Sp := fun vs H Q _ => ∃ (d : PyData), vs = [.str (mk (wr d))] ∧ isOne d = true ∧ isL d = false ∧ isK d = false ∧ Tq d ∧
  ∀ l x H', Same H H' → H l = none → H' l = some (.lst [x]) → Da P w H' x d → Q (.ref l) H'
theorem scLeaves : FnScope ["token", "digits", "digit"] ["token"] (defScope (top 29)) := ⟨rfl, rfl, rfl, by decide +kernel, rfl, by decide +kernel, by decide +kernel⟩
theorem ok_leaves {t1 : Tok} {D : Addr} (F : FnD K "leaves_in" 29 f fd) (B : Bl mg) (gD : mg "DIGITS" = some (.str DIG t1)) (W : WdK K w mg D) (GU : FnOk P w K mg base CX0 1 g gd ["token"] spUnq) (bU : Binds K gd ["token"] []) (kU : PySem.W.keepIn K (.ref g) = true) (gU : mg "unquoted" = some (.ref g)) :
    FnOk P w K mg base CX0 2 f fd ["token"] (spLeaves P w) := by
  refine F.ok scLeaves (fun vs H Q E h => ?_) (fun cdv A outer s H vs Q E hr h => ?_)
  · obtain ⟨d, rfl, _⟩ := h
    rfl
  obtain ⟨d, rfl, od, nL, nK, tq, q⟩ := h
  obtain ⟨es, n, KD⟩ := W.d
  refine ⟨_, PSs.nox (pss_cons (ps_if (pt_val (pe_m1 PySem.F.slot_str_startswith PySem.F.type_str_startswith mt_startswith (pv 0) pe_str)) (pss_one (ps_ret (pe_lst (pa_cons (pe_call GU hr rfl gU kU bU .nil pass0 (pa_cons (pv 0) pa_nil)) pa_nil)))) pss_nil)
    (pss_cons (ps_if (pt_cmpR (op_in_kd KD) (pv 0) (pe_glob (v := .ref D) rfl W.g rfl) (by rfl)) (pss_one (ps_ret (pe_lst (pa_cons (pe_ix ix_kdict (pe_glob (v := .ref D) rfl W.g rfl) (pv 0) (fun _ _ => rfl)) pa_nil)))) pss_nil)
    (pss_cons (ps_set (i := 1) scLeaves.nd rfl (Or.inl rfl) (pe_ifExp (pt_val (pe_m1 PySem.F.slot_str_startswith PySem.F.type_str_startswith mt_startswith (pv 0) pe_str)) (pe_slice sl_str (pv 0) (po_some pe_int) po_none) (pv 0)))
    (pss_one (ps_ret (pe_ifExp (pt_val (pe_callB (cr_all rfl) (by rfl) B.all (by decide +kernel) (pa_cons
          (pe_lc (own := [("digit", 2)]) (g := gName 2) (tt := tYes) rfl scLeaves.nd (pi_str (pv 1)) (blkOk_by (N := ["token", "digits", "digit"]) (sc := defScope (top 29)) (by decide +kernel))
            (fun _ _ _ _ _ => pg_name (i := 2) scLeaves.nd rfl (Or.inl rfl)) (fun _ _ _ _ _ => pts_nil)
            (fun _ _ _ _ _ => pe_cmpR op_in_sign (pv 2) (pe_glob (v := .str DIG) rfl gD ⟨_, rfl⟩) (by rfl))) pa_nil)))
        (pe_lst (pa_cons (pe_callTy call_int_str (by rfl) B.int (by decide +kernel) (pa_cons (pv 0) pa_nil)) pa_nil)) (pe_lst pa_nil))))))), ?_⟩
  have d1 : tl ("\"" : Str) = [34] := by decide +kernel
  have d5 : tl ("-" : Str) = [45] := by decide +kernel
  have one : 1 ≤ sizeLine := by decide
  have big : (1000000 : Nat) ≤ sizeLine := by decide
  cases d with
  | none =>
    have ez : mk (wr (.none)) = ("-" : Str) := by decide +kernel
    have hc : tl ("-" : Str) = 45 :: [] := by decide +kernel
    rw [ez]
    refine ⟨_, rfl, ⟨_, rfl⟩, _, _, rfl, rfl, _, rfl, ?_⟩
    rw [sw1 d1 hc]
    refine iteF ⟨_, rfl, _, _, rfl, rfl, W.no_, _, rfl, iteT ⟨_, rfl, D, _, .non, rfl, rfl, ⟨es, n, .none, KD.at_, KD.lit, W.no_, rfl⟩, one, fun l hl => q l .non _ (same_new hl _) hl upd_same .non⟩⟩
  | bool b =>
    cases b with
    | true =>
      have ez : mk (wr (.bool true)) = ("yes" : Str) := by decide +kernel
      have hc : tl ("yes" : Str) = 121 :: [101, 115] := by decide +kernel
      rw [ez]
      refine ⟨_, rfl, ⟨_, rfl⟩, _, _, rfl, rfl, _, rfl, ?_⟩
      rw [sw1 d1 hc]
      refine iteF ⟨_, rfl, _, _, rfl, rfl, W.yes, _, rfl, iteT ⟨_, rfl, D, _, (.bl true), rfl, rfl, ⟨es, n, (.bool true), KD.at_, KD.lit, W.yes, rfl⟩, one, fun l hl => q l (.bl true) _ (same_new hl _) hl upd_same (.bl true)⟩⟩
    | false =>
      have ez : mk (wr (.bool false)) = ("no" : Str) := by decide +kernel
      have hc : tl ("no" : Str) = 110 :: [111] := by decide +kernel
      rw [ez]
      refine ⟨_, rfl, ⟨_, rfl⟩, _, _, rfl, rfl, _, rfl, ?_⟩
      rw [sw1 d1 hc]
      refine iteF ⟨_, rfl, _, _, rfl, rfl, W.not, _, rfl, iteT ⟨_, rfl, D, _, .bl false, rfl, rfl, ⟨es, n, .bool false, KD.at_, KD.lit, W.not, rfl⟩, one, fun l hl => q l (.bl false) _ (same_new hl _) hl upd_same (.bl false)⟩⟩
  | str y =>
    have yl : y.length ≤ 40 := tq.1
    have ez : mk (wr (.str y)) = mk (qt (tl y)) := rfl
    have hc : tl (mk (wr (.str y))) = 34 :: (esc (tl y) ++ [34]) := rfl
    refine ⟨_, rfl, ⟨_, rfl⟩, _, _, rfl, rfl, _, rfl, ?_⟩
    rw [sw1 d1 hc]
    refine iteT ⟨_, rfl, tl y, rfl, by rw [← len_tl]; omega, fun H1 k1 => ⟨one, fun l hl => q l _ _ (k1.trans (same_new hl _)) (Same.free k1 hl) upd_same (.str y)⟩⟩
  | int i =>
    have N := numF (i := i) tq
    have ez : mk (wr (.int i)) = ts i := mk_tl (ts i)
    rw [ez]
    obtain ⟨c, r, hc, h34, hw, _⟩ := N.hd
    have tl20 := ts_len (i := i) tq
    refine ⟨_, rfl, ⟨_, rfl⟩, _, _, rfl, rfl, _, rfl, ?_⟩
    rw [sw1 d1 hc, decide_eq_false h34]
    refine iteF ⟨_, rfl, _, _, rfl, rfl, W.out _ hw, _, rfl, iteF ⟨_, rfl, ⟨_, rfl⟩, _, _, rfl, rfl, _, rfl, ?_⟩⟩
    have dall : ∀ (z : Str), (∀ c ∈ tl z, 48 ≤ c ∧ c ≤ 57) → ((tl z).map fun c => decide (c ∈ DIG.cps.toList)).all id = true := fun z hz => by
      rw [List.all_map]
      exact List.all_eq_true.mpr fun c hc => decide_eq_true (dig_in (hz c hc).1 (hz c hc).2)
    have neg : decide (c = 45) = true ∨ decide (c = 45) = false := by cases decide (c = 45) <;> simp
    have cont : ∃ z : Str, (∀ c ∈ tl z, 48 ≤ c ∧ c ≤ 57) ∧ z.length ≤ 20 ∧ ((decide (c = 45) = true ∧ z = cutS (ts i) (some 1) none) ∨ (decide (c = 45) = false ∧ z = ts i)) := by
      rcases N.neg with ⟨r', e1, e2⟩ | ⟨e1, c', r', e2, e3⟩
      · rw [e1] at hc
        refine ⟨cutS (ts i) (some 1) none, by rw [tl_cut1, e1]; exact e2, by have := cutS_length (ts i) (some 1) none; omega, .inl ⟨decide_eq_true ?_, rfl⟩⟩
        exact (List.cons.inj hc).1.symm
      · rw [e2] at hc
        exact ⟨ts i, e1, tl20, .inr ⟨decide_eq_false (by rw [← (List.cons.inj hc).1]; exact e3), rfl⟩⟩
    obtain ⟨z, hz, zl, hcase⟩ := cont
    rw [sw1 d5 hc]
    have zl2 : (tl z).length = z.length := (len_tl z).symm
    rcases hcase with ⟨hb, ez2⟩ | ⟨hb, ez2⟩
    · rw [hb]
      subst ez2
      refine iteT ⟨_, rfl, _, rfl, _, rfl, by omega, ?_⟩
      refine ⟨_, rfl, cutS (ts i) (some 1) none, rfl, fun Dd hDd => ?_⟩
      refine lc_it (walk_str (z := cutS (ts i) (some 1) none)) (fun t H2 => Same H H2 ∧ H2 Dd = some (.lst ((((tl (cutS (ts i) (some 1) none)).take t).map fun c => decide (c ∈ DIG.cps.toList)).map V.bl))) ⟨same_new hDd _, upd_same⟩ (fun _ _ _ _ => trivial) ?_ ?_
      · rintro t v H2 H2' ht ⟨k2, hD2⟩ ⟨rfl, c0, hc0, rfl⟩
        refine ⟨rfl, ?_⟩
        simp only [tYes, if_true]
        have hc' : (tl (cutS (ts i) (some 1) none))[t]? = some c0 := by rw [← hc0]; exact Array.getElem?_toList ..
        refine ⟨_, rfl, c0, DIG, rfl, rfl, _, hD2, ?_, fun b o e => ?_, ?_⟩
        · rw [List.length_map, List.length_map, List.length_take]
          exact K00.small1000 (by omega)
        · rw [upd_ne (ne_of_none e hDd)]
          exact k2 _ _ e
        · rw [upd_same, List.take_add_one, hc']
          simp
      · rintro H2 ⟨k2, hD2⟩
        have et : (tl (cutS (ts i) (some 1) none)).take (cutS (ts i) (some 1) none).cps.size = tl (cutS (ts i) (some 1) none) := List.take_of_length_le (Nat.le_refl _)
        rw [et] at hD2
        refine ⟨Dd, _, rfl, SqL.of hD2, _, rfl, ite_t (dall _ hz) ⟨_, rfl, ts i, i, rfl, N.rd, by omega, one, fun l hl => q l _ _ (k2.trans (same_new hl _)) (Same.free k2 hl) upd_same (.int i)⟩⟩
    · rw [hb]
      subst ez2
      refine iteF ⟨_, rfl, ?_⟩
      refine ⟨_, rfl, ts i, rfl, fun Dd hDd => ?_⟩
      refine lc_it (walk_str (z := ts i)) (fun t H2 => Same H H2 ∧ H2 Dd = some (.lst ((((tl (ts i)).take t).map fun c => decide (c ∈ DIG.cps.toList)).map V.bl))) ⟨same_new hDd _, upd_same⟩ (fun _ _ _ _ => trivial) ?_ ?_
      · rintro t v H2 H2' ht ⟨k2, hD2⟩ ⟨rfl, c0, hc0, rfl⟩
        refine ⟨rfl, ?_⟩
        simp only [tYes, if_true]
        have hc' : (tl (ts i))[t]? = some c0 := by rw [← hc0]; exact Array.getElem?_toList ..
        refine ⟨_, rfl, c0, DIG, rfl, rfl, _, hD2, ?_, fun b o e => ?_, ?_⟩
        · rw [List.length_map, List.length_map, List.length_take]
          exact K00.small1000 (by omega)
        · rw [upd_ne (ne_of_none e hDd)]
          exact k2 _ _ e
        · rw [upd_same, List.take_add_one, hc']
          simp
      · rintro H2 ⟨k2, hD2⟩
        have et : (tl (ts i)).take (ts i).cps.size = tl (ts i) := List.take_of_length_le (Nat.le_refl _)
        rw [et] at hD2
        refine ⟨Dd, _, rfl, SqL.of hD2, _, rfl, ite_t (dall _ hz) ⟨_, rfl, ts i, i, rfl, N.rd, by omega, one, fun l hl => q l _ _ (k2.trans (same_new hl _)) (Same.free k2 hl) upd_same (.int i)⟩⟩
  | tuple xs => cases od
  | list xs => cases nL
  | dict xs => cases nK
end
end K87
set_option Elab.async false
set_option linter.all false
set_option maxRecDepth 100000
set_option maxHeartbeats 4000000
/-! G87S: xs[::2], xs[1::2], dict(zip(a, b)). -/
namespace K87
open PySem PySem.Spec PyProof.Rows L2 HT K00 K00Z
def evs {α : Type} : List α → List α
  | [] => []
  | [x] => [x]
  | x :: _ :: r => x :: evs r
def ods {α : Type} : List α → List α
  | [] => []
  | [_] => []
  | _ :: y :: r => y :: ods r
theorem fm_congr {α β : Type} {f g : α → Option β} : ∀ {l : List α}, (∀ x ∈ l, f x = g x) → l.filterMap f = l.filterMap g
  | [], _ => rfl
  | x :: r, h => by
    rw [List.filterMap_cons, List.filterMap_cons, h x List.mem_cons_self, fm_congr fun y hy => h y (List.mem_cons_of_mem _ hy)]
theorem range_two (n : Nat) : List.range (n + 1) = 0 :: (List.range n).map (· + 1) := List.range_succ_eq_map
theorem evs_pick {α : Type} : ∀ l : List α, (List.range ((l.length + 1) / 2)).filterMap (fun k => l[2 * k]?) = evs l
  | [] => by simp [evs]
  | [x] => by simp [evs, List.range_succ]
  | x :: y :: r => by
    have e : ((x :: y :: r).length + 1) / 2 = (r.length + 1) / 2 + 1 := by
      rw [List.length_cons, List.length_cons]
      omega
    rw [e, range_two, List.filterMap_cons_some (b := x) (by rfl), List.filterMap_map]
    show x :: _ = x :: evs r
    rw [← evs_pick r]
    congr 1
theorem ods_pick {α : Type} : ∀ l : List α, (List.range (l.length / 2)).filterMap (fun k => l[1 + 2 * k]?) = ods l
  | [] => by simp [ods]
  | [x] => by simp [ods]
  | x :: y :: r => by
    have e : (x :: y :: r).length / 2 = r.length / 2 + 1 := by
      rw [List.length_cons, List.length_cons]
      omega
    rw [e, range_two, List.filterMap_cons_some (b := y) (by rfl), List.filterMap_map]
    show y :: _ = y :: ods r
    rw [← ods_pick r]
    congr 1
theorem pick_ev (items : Array Value) : slicePick items none none (some 2) = (evs items.toList).toArray := by
  unfold slicePick
  congr 1
  have b : sliceBounds none none (some 2) items.size = (0, (items.size : Int), 2) := by
    first
    | rfl
    | simp [sliceBounds]
  rw [b]
  show (sliceRange 0 (items.size : Int) 2).filterMap (items[·]?) = _
  unfold sliceRange
  have c : (if (2 : Int) > 0 then (if (0 : Int) < (items.size : Int) then ((items.size : Int) - 0 + 2 - 1) / 2 else 0) else (if (0 : Int) > (items.size : Int) then (0 - (items.size : Int) - 2 - 1) / (-2) else 0)).toNat = (items.toList.length + 1) / 2 := by
    rw [if_pos (by decide), Array.length_toList]
    by_cases h : (0 : Int) < (items.size : Int)
    · rw [if_pos h]
      omega
    · rw [if_neg h]
      omega
  show ((List.range (if (2 : Int) > 0 then (if (0 : Int) < (items.size : Int) then ((items.size : Int) - 0 + 2 - 1) / 2 else 0) else (if (0 : Int) > (items.size : Int) then (0 - (items.size : Int) - 2 - 1) / (-2) else 0)).toNat).map fun (k : Nat) => ((0 : Int) + 2 * (k : Int)).toNat).filterMap (items[·]?) = _
  rw [c, List.filterMap_map, ← evs_pick]
  refine fm_congr fun k _ => ?_
  show items[((0 : Int) + 2 * (k : Int)).toNat]? = items.toList[2 * k]?
  rw [show ((0 : Int) + 2 * (k : Int)).toNat = 2 * k by omega]
  simp
theorem pick_od (items : Array Value) : slicePick items (some 1) none (some 2) = (ods items.toList).toArray := by
  unfold slicePick
  congr 1
  have b : sliceBounds (some 1) none (some 2) items.size = (max 0 (min 1 (items.size : Int)), (items.size : Int), 2) := by
    first
    | rfl
    | simp [sliceBounds]
  rw [b]
  show (sliceRange (max 0 (min 1 (items.size : Int))) (items.size : Int) 2).filterMap (items[·]?) = _
  generalize hlo : max 0 (min 1 (items.size : Int)) = lo
  unfold sliceRange
  have c : (if (2 : Int) > 0 then (if lo < (items.size : Int) then ((items.size : Int) - lo + 2 - 1) / 2 else 0) else (if lo > (items.size : Int) then (lo - (items.size : Int) - 2 - 1) / (-2) else 0)).toNat = items.toList.length / 2 := by
    rw [if_pos (by decide), Array.length_toList]
    by_cases h : lo < (items.size : Int)
    · rw [if_pos h]
      omega
    · rw [if_neg h]
      omega
  show ((List.range (if (2 : Int) > 0 then (if lo < (items.size : Int) then ((items.size : Int) - lo + 2 - 1) / 2 else 0) else (if lo > (items.size : Int) then (lo - (items.size : Int) - 2 - 1) / (-2) else 0)).toNat).map fun (k : Nat) => (lo + 2 * (k : Int)).toNat).filterMap (items[·]?) = _
  rw [c, List.filterMap_map, ← ods_pick]
  refine fm_congr fun k hk => ?_
  have hk2 := List.mem_range.mp hk
  rw [Array.length_toList] at hk2
  show items[(lo + 2 * (k : Int)).toNat]? = items.toList[1 + 2 * k]?
  rw [show (lo + 2 * (k : Int)).toNat = 1 + 2 * k by omega]
  simp
theorem vals_ev : ∀ {xs : List V} {us : List Value}, Vals xs us → Vals (evs xs) (evs us)
  | _, _, .nil => .nil
  | _, _, .cons a .nil => .cons a .nil
  | _, _, .cons a (.cons _ r) => .cons a (vals_ev r)
theorem vals_od : ∀ {xs : List V} {us : List Value}, Vals xs us → Vals (ods xs) (ods us)
  | _, _, .nil => .nil
  | _, _, .cons _ .nil => .nil
  | _, _, .cons _ (.cons b r) => .cons b (vals_od r)
theorem evs_len {α : Type} : ∀ l : List α, (evs l).length ≤ l.length
  | [] => Nat.le_refl _
  | [_] => Nat.le_refl _
  | _ :: _ :: r => by
    have := evs_len r
    show (evs r).length + 1 ≤ r.length + 1 + 1
    omega
theorem ods_len {α : Type} : ∀ l : List α, (ods l).length ≤ l.length
  | [] => Nat.le_refl _
  | [_] => Nat.zero_le _
  | _ :: _ :: r => by
    have := ods_len r
    show (ods r).length + 1 ≤ r.length + 1 + 1
    omega
def tEv (K : PySem.W.Frag) (te : TE) : TE := fun σ H Q => te σ H fun x H1 => ∃ a xs, x = .ref a ∧ SqL K H1 a xs ∧ ∀ p, H1 p = none → Q (.ref p) (upd H1 p (.lst (evs xs)))
def tOd (K : PySem.W.Frag) (te : TE) : TE := fun σ H Q => te σ H fun x H1 => ∃ a xs, x = .ref a ∧ SqL K H1 a xs ∧ ∀ p, H1 p = none → Q (.ref p) (upd H1 p (.lst (ods xs)))
section
variable {X : Cx}
/-- xs[::2] -/
theorem pe_ev {e : Expr} {te : TE} {k : Nat} {p1 p3 pos : Pos} (he : PE X e te) : PE X (.Subscript e (.Slice none none (some (.Constant (.int 2) k p1)) p3) pos) (tEv X.K te) := by
  refine ⟨fun pins s σ H Q I h => ?_⟩
  refine Subscript_ (thn (he.run pins s σ H _ I h) fun v s1 ⟨x, H1, I1, r1, q1⟩ => ?_)
  obtain ⟨a, xs, ex, hx, q⟩ := q1
  subst ex
  cases r1
  have hst : PO X (some (.Constant (.int 2) k p1)) (tPart (tC (.int 2))) := po_some pe_int
  refine wpAny_Slice (thn (po_none.run pins s1 σ H1 (fun o H2 => o = none ∧ H2 = H1) I1 ⟨rfl, rfl⟩) fun vl s2 ⟨l, H2, I2, pl, el, e2⟩ => ?_)
  subst el e2
  refine thn (po_none.run pins s2 σ H2 (fun o H3 => o = none ∧ H3 = H2) I2 ⟨rfl, rfl⟩) fun vu s3 ⟨u, H3, I3, pu, eu, e3⟩ => ?_
  subst eu e3
  refine thn (hst.run pins s3 σ H3 (fun o H4 => o = some 2 ∧ H4 = H3) I3 ⟨2, rfl, rfl, rfl⟩) fun vs s4 ⟨o, H4, I4, ps, eo, e4⟩ => ?_
  subst eo e4
  have I5 : Inv X pins σ H4 { s4 with heap := s4.heap.push { cls := .type "slice", data := .fields #[vl, vu, vs] } } := I4.kept (t' := s4.toks) fun b ob q => Heap.get?_push_of_some _ q
  obtain ⟨its, r, ht, hz⟩ := I5.list hx
  have hlen := r.length
  show wpAny (model X.prog X.w) X.A (subscriptTail e (.Slice none none (some (.Constant (.int 2) k p1)) p3) (.ref a) (.ref s4.heap.objs.size)) (EP X pins σ Q) X.xe { s4 with heap := s4.heap.push { cls := .type "slice", data := .fields #[vl, vu, vs] } }
  refine tail_any (ops := [.ref a, .ref s4.heap.objs.size]) ht.isList.typeIs (PySem.slot_list_getitem.lookup) ?_ (by with_unfolding_all rfl)
  refine wpAny_getItem_list_slice ht.isList (Heap.IsSliceOf.new _ vl vu vs) pl pu ps (by decide) ?_ (by rw [List.size_toArray]; omega)
  rw [pick_ev]
  refine ⟨.ref _, _, I5.laid (t' := s4.toks) (o := .lst (evs xs)) (fun b ob q => Heap.get?_push_of_some _ q) (Nat.le_refl _) ?_, rfl, q _ (I5.hok.fresh (Nat.le_refl _))⟩
  exact ⟨Nat.le_trans (evs_len xs) hz, _, 0, vals_ev r, Heap.get?_push_size _ rfl⟩
/-- xs[1::2] -/
theorem pe_od {e : Expr} {te : TE} {k k1 : Nat} {p0 p1 p3 pos : Pos} (he : PE X e te) : PE X (.Subscript e (.Slice (some (.Constant (.int 1) k1 p0)) none (some (.Constant (.int 2) k p1)) p3) pos) (tOd X.K te) := by
  refine ⟨fun pins s σ H Q I h => ?_⟩
  refine Subscript_ (thn (he.run pins s σ H _ I h) fun v s1 ⟨x, H1, I1, r1, q1⟩ => ?_)
  obtain ⟨a, xs, ex, hx, q⟩ := q1
  subst ex
  cases r1
  have hst : PO X (some (.Constant (.int 2) k p1)) (tPart (tC (.int 2))) := po_some pe_int
  have hs1 : PO X (some (.Constant (.int 1) k1 p0)) (tPart (tC (.int 1))) := po_some pe_int
  refine wpAny_Slice (thn (hs1.run pins s1 σ H1 (fun o H2 => o = some 1 ∧ H2 = H1) I1 ⟨1, rfl, rfl, rfl⟩) fun vl s2 ⟨l, H2, I2, pl, el, e2⟩ => ?_)
  subst el e2
  refine thn (po_none.run pins s2 σ H2 (fun o H3 => o = none ∧ H3 = H2) I2 ⟨rfl, rfl⟩) fun vu s3 ⟨u, H3, I3, pu, eu, e3⟩ => ?_
  subst eu e3
  refine thn (hst.run pins s3 σ H3 (fun o H4 => o = some 2 ∧ H4 = H3) I3 ⟨2, rfl, rfl, rfl⟩) fun vs s4 ⟨o, H4, I4, ps, eo, e4⟩ => ?_
  subst eo e4
  have I5 : Inv X pins σ H4 { s4 with heap := s4.heap.push { cls := .type "slice", data := .fields #[vl, vu, vs] } } := I4.kept (t' := s4.toks) fun b ob q => Heap.get?_push_of_some _ q
  obtain ⟨its, r, ht, hz⟩ := I5.list hx
  have hlen := r.length
  show wpAny (model X.prog X.w) X.A (subscriptTail e (.Slice (some (.Constant (.int 1) k1 p0)) none (some (.Constant (.int 2) k p1)) p3) (.ref a) (.ref s4.heap.objs.size)) (EP X pins σ Q) X.xe { s4 with heap := s4.heap.push { cls := .type "slice", data := .fields #[vl, vu, vs] } }
  refine tail_any (ops := [.ref a, .ref s4.heap.objs.size]) ht.isList.typeIs (PySem.slot_list_getitem.lookup) ?_ (by with_unfolding_all rfl)
  refine wpAny_getItem_list_slice ht.isList (Heap.IsSliceOf.new _ vl vu vs) pl pu ps (by decide) ?_ (by rw [List.size_toArray]; omega)
  rw [pick_od]
  refine ⟨.ref _, _, I5.laid (t' := s4.toks) (o := .lst (ods xs)) (fun b ob q => Heap.get?_push_of_some _ q) (Nat.le_refl _) ?_, rfl, q _ (I5.hok.fresh (Nat.le_refl _))⟩
  exact ⟨Nat.le_trans (ods_len xs) hz, _, 0, vals_od r, Heap.get?_push_size _ rfl⟩
end
/-! ### dict(zip(a, b)) -/
def rDictZip (K : PySem.W.Frag) : List V → Hp → VK → Prop := fun vs H Q => ∃ (a b : Addr) (ks : List Str) (ys : List V), vs = [.ref a, .ref b] ∧ SqL K H a (ks.map V.str) ∧ SqL K H b ys ∧ ks.length = ys.length ∧
  ∀ p, H p = none → Q (.ref p) (upd H p (.dK (mergeK [] ((ks.map fun k => (Sum.inr k : Key)).zip ys))))
def tDictZip (K : PySem.W.Frag) (ta : TA) : TE := fun σ H Q => ta σ H fun vs H1 => rDictZip K vs H1 Q
theorem kv_zip : ∀ {ks : List Key} {ys : List V} {us : List Value}, Vals ys us → KV (ks.zip ys) (ks.zip us)
  | [], _, _, _ => by rw [List.zip_nil_left, List.zip_nil_left]; exact .nil
  | _ :: _, _, _, .nil => .nil
  | k :: ks, _, _, .cons a r => .cons ⟨rfl, a⟩ (kv_zip r)
section
variable {X : Cx} {e e2 : Expr} {ta : TA} {p p2 cpos pos : Pos}
theorem pe_dictzip (hc : X.calm = true) (hg : Gl X "dict") (hm : X.mg "dict" = none) (hv : bootBuiltins "dict" = some (.type "dict")) (hg2 : Gl X "zip") (hm2 : X.mg "zip" = none) (ha : PA X [e, e2] ta)
    (hs2 : starEach [e, e2] X.env = (false, eval e X.env) :: starEach [e2] X.env := by rfl) (hpl2 : (backTo cpos (starEach [e2] X.env)).any (·.1) = false := by rfl)
    (hs : starEach [.Call (.Name "zip" p2) [e, e2] [] cpos] X.env = (false, eval (.Call (.Name "zip" p2) [e, e2] [] cpos) X.env) :: starEach [] X.env := by rfl) :
    PE X (.Call (.Name "dict" p) [.Call (.Name "zip" p2) [e, e2] [] cpos] [] pos) (tDictZip X.K ta) := by
  refine ⟨fun pins s σ H Q I hq => ?_⟩
  refine wpAny_Call_Name_kw (ld_blt I hg hm hv ?_)
  refine PyProof.Rows.callWith_type1 ?_ hs rfl
  rw [hs]
  show wpAny _ _ (spliced ((false, eval (.Call (.Name "zip" p2) [e, e2] [] cpos) X.env) :: backTo pos (starEach [] X.env))) _ _ s
  refine Calls.spliced_cons ?_
  refine wpAny_Call_Name_kw (ld_blt I hg2 hm2 PyProof.Rows.boot_zip (PyProof.Rows.callWith_type1 (thn (ha.run cpos pins s σ H _ I hq) fun us s1 ⟨vs, H1, I1, r1, q1⟩ => ?_) hs2 hpl2))
  obtain ⟨a, b, ks, ys, ex, hqx, hqy, hxy, q⟩ := q1
  subst ex
  cases r1 with
  | cons r rr =>
    cases rr with
    | cons r' rr =>
      cases rr
      cases r
      cases r'
      obtain ⟨its, rv, p1, hz1⟩ := I1.list hqx
      obtain ⟨its2, rv2, p2', hz2⟩ := I1.list hqy
      have la : a < s1.heap.objs.size := let ⟨_, ho, _⟩ := p1.isList; Heap.lt_size ho
      have lb : b < s1.heap.objs.size := let ⟨_, ho, _⟩ := p2'.isList; Heap.lt_size ho
      have lx : ks.length = its.length := by rw [← rv.length, List.length_map]
      have ly : ys.length = its2.length := rv2.length
      rw [List.length_map] at hz1
      refine call_zip_2 p1.isList p2'.isList fun h' hz hTI hTO h1 h2 hsz hk => ?_
      refine Calls.spliced_nil ?_
      have D : ZipApart (s1.heap.objs.size + 4) (s1.heap.objs.size + 2) (s1.heap.objs.size + 3) s1.heap.objs.size (s1.heap.objs.size + 1) a b := apartN la lb
      have hmin : min its.toArray.size its2.toArray.size = its.length := by
        simp only [List.size_toArray]
        omega
      refine PySem.call_dict_pairs (s := { s1 with heap := h' }) (knd := mixKind X.prog X.w) (kvs := (ks.map fun k => (Sum.inr k : Key)).zip its2) (PairArg.zip _ _ _ _ _ _ _ D its.toArray its2.toArray) (I1.ok.hd hc)
        ⟨hz, hTI, ⟨_, _, hTO⟩, h1, h2, p1.isList.at fun o e => hk _ o e, p2'.isList.at fun o e => hk _ o e⟩ ⟨?_, fun i key v hr => ?_⟩ (by rw [hmin]; omega) fun h'' tk hd' hk2 => ?_
      · rw [hmin, List.length_zip, List.length_map]
        omega
      · obtain ⟨e1, e2⟩ := hr
        have g1 : its[i]? = some key := by simpa using e1
        have g2 : its2[i]? = some v := by simpa using e2
        have hi : i < ks.length := by rw [lx]; exact (List.getElem?_eq_some_iff.mp g1).1
        have k1 : ks[i]? = some ks[i] := List.getElem?_eq_getElem hi
        obtain ⟨u1, hu1, r1⟩ := rv.get (i := i) (x := V.str ks[i]) (by rw [List.getElem?_map, k1]; rfl)
        rw [g1] at hu1
        cases hu1
        refine ⟨Sum.inr ks[i], List.getElem?_zip_eq_some.mpr ⟨by rw [List.getElem?_map, k1]; rfl, g2⟩, ?_⟩
        exact kV_is (P := X.prog) (w := X.w) (k := Sum.inr ks[i]) r1
      · have hlow : ∀ b' o, s1.heap.get? b' = some o → h''.get? b' = some o := fun b' o e => by
          have lt := Heap.lt_size e
          refine hk2 b' o (fun z => ?_) (hk b' o e)
          simp only [List.mem_cons, List.not_mem_nil, or_false] at z
          rcases z with z | z | z | z
          · exact neN (Nat.lt_add_right 4 lt) z
          · exact neN (Nat.lt_add_right 3 lt) z
          · exact neN lt z
          · exact neN (Nat.lt_add_right 1 lt) z
        have hsz' : h'.objs.size = s1.heap.objs.size + 5 := hsz
        have hSs : s1.heap.objs.size ≤ h'.objs.size := by omega
        have hmm : (h'.objs.size == sysModules) = false := beq_eq_false_iff_ne.mpr (Nat.ne_of_gt (Nat.lt_of_lt_of_le I1.big hSs))
        have hlen : (mergeK [] ((ks.map fun k => (Sum.inr k : Key)).zip ys)).length ≤ sizeLine := by
          refine Nat.le_trans (length_mergeK _ []) ?_
          rw [List.length_nil, Nat.zero_add, List.length_zip, List.length_map]
          omega
        exact ⟨.ref h'.objs.size, upd H1 h'.objs.size (.dK (mergeK [] ((ks.map fun k => (Sum.inr k : Key)).zip ys))), I1.laid (t' := tk) hlow hSs (show ObjOk X.prog X.w _ _ _ (.dK _) from ⟨hlen, hmm, merged [] _, KV.merge (kv_zip rv2) .nil, hd'⟩), rfl, q _ (I1.hok.fresh hSs)⟩
end
end K87
set_option Elab.async false
set_option linter.all false
set_option maxRecDepth 100000
set_option maxHeartbeats 8000000
/-! G87T: wholes_in, of a frame that is whole. -/
namespace K87
open PySem PySem.Spec L2 K00 TL
open PyProof.Rows (envOfC sortedS)
def alt : List Str → List V → List V
  | k :: ks, y :: ys => .str k :: y :: alt ks ys
  | _, _ => []
theorem alt_ev : ∀ {ks : List Str} {ys : List V}, ks.length = ys.length → evs (alt ks ys) = ks.map V.str
  | [], [], _ => rfl
  | k :: ks, y :: ys, h => by
    show V.str k :: evs (alt ks ys) = _
    rw [alt_ev (by simpa using h)]
    rfl
  | [], _ :: _, h => by cases h
  | _ :: _, [], h => by cases h
theorem alt_od : ∀ {ks : List Str} {ys : List V}, ks.length = ys.length → ods (alt ks ys) = ys
  | [], [], _ => rfl
  | k :: ks, y :: ys, h => by
    show y :: ods (alt ks ys) = _
    rw [alt_od (by simpa using h)]
  | [], _ :: _, h => by cases h
  | _ :: _, [], h => by cases h
theorem alt_len : ∀ {ks : List Str} {ys : List V}, ks.length = ys.length → (alt ks ys).length = 2 * ks.length
  | [], [], _ => rfl
  | k :: ks, y :: ys, h => by
    show (alt ks ys).length + 1 + 1 = _
    rw [alt_len (by simpa using h), List.length_cons]
    omega
  | [], _ :: _, h => by cases h
  | _ :: _, [], h => by cases h
theorem zip_keys : ∀ {ks : List Str} {ys : List V}, ((ks.map fun k => (Sum.inr k : Key)).zip ys).map (fun p => (kV p.1, p.2)) = (ks.map V.str).zip ys
  | [], _ => by simp
  | _ :: _, [] => by simp
  | k :: ks, y :: ys => by
    show (V.str k, y) :: ((ks.map fun k => (Sum.inr k : Key)).zip ys).map (fun p => (kV p.1, p.2)) = (V.str k, y) :: (ks.map V.str).zip ys
    rw [zip_keys]
theorem name_as7 {s : Str} (h : nameB s = true) : as7 s = true ∧ s.length ≤ 8 := by
  unfold nameB at h
  obtain ⟨_, h⟩ := He.ba h
  obtain ⟨h1, h2⟩ := He.ba h
  refine ⟨as7_iff.mpr fun c hc => ?_, of_decide_eq_true h1⟩
  have := List.all_eq_true.mp h2 c hc
  have e : ∀ c ∈ LET.cps.toList, c < 128 := by decide +kernel
  exact e c (by simpa using this)
theorem name_sm {s : Str} (h : nameB s = true) : Sm (.str s) := by
  obtain ⟨h1, h2⟩ := name_as7 h
  exact ⟨by omega, as7_ok h1⟩
section
variable {P : Program} {w : World} {K : PySem.W.Frag} {mg : Str → Option Value} {base : Heap} {f g g2 g3 : Addr} {fd gd gd2 gd3 : FuncData}
def spWhole (P : Program) (w : World) : Sp := fun vs H Q _ => ∃ (fa : Addr) (t : Nat), vs = [.ref fa, .str (mk [t])] ∧
  ((t = 93 ∧ ∃ xs ds, H fa = some (.lst (.str (mk [91]) :: xs)) ∧ xs.length ≤ 1000 ∧ DaL P w H xs ds ∧ ∀ l x H', Same H H' → H l = none → H' l = some (.lst [x]) → (∀ p, x = .ref p → H p = none) → Da P w H' x (.list ds) → Q (.ref l) H') ∨
   (t = 125 ∧ ∃ (ks : List Str) (ys : List V) (ds : List (PyData × PyData)), H fa = some (.lst (.str (mk [123]) :: alt ks ys)) ∧ ks.length = ys.length ∧ ks.length ≤ 100 ∧ ks.Nodup ∧ (∀ k ∈ ks, nameB k = true) ∧ DaE P w H ((ks.map V.str).zip ys) ds ∧
      ∀ l x H', Same H H' → H l = none → H' l = some (.lst [x]) → (∀ p, x = .ref p → H p = none) → Da P w H' x (.dict ds) → Q (.ref l) H'))
abbrev NgH : List Str := ["frame", "token", "inner", "field"]
theorem scWhole : FnScope NgH ["frame", "token"] (defScope (top 30)) := ⟨rfl, rfl, rfl, by decide +kernel, rfl, by decide +kernel, by decide +kernel⟩
theorem ok_whole (F : FnD K "wholes_in" 30 f fd) (B : Bl mg) (GN : FnOk P w K mg base CX0 1 g gd ["value"] (spName P w)) (bN : Binds K gd ["value"] []) (kN : PySem.W.keepIn K (.ref g) = true) (gN : mg "is_name" = some (.ref g)) :
    FnOk P w K mg base CX0 2 f fd ["frame", "token"] (spWhole P w) := by
  refine F.ok scWhole (fun vs H Q E h => ?_) (fun cdv A outer s H vs Q E hr h => ?_)
  · obtain ⟨fa, t, rfl, _⟩ := h
    rfl
  obtain ⟨fa, t, rfl, h⟩ := h
  refine ⟨_, PSs.nox (pss_cons (ps_set (i := 2) scWhole.nd rfl (Or.inl rfl) (pe_fz (pe_slice sl_list (pv 0) (po_some pe_int) po_none)))
    (pss_cons (ps_if (pt_cmpR op_eq (pe_op op_add_str (pe_ix ix_list (pv 0) pe_int (fun _ _ => rfl)) (pv 1)) pe_str (nomark _)) (pss_one (ps_ret (pe_lst (pa_cons (pv 2) pa_nil)))) pss_nil)
    (pss_cons (ps_if (PW.pt (pw_or (pt_cmpR op_ne (pe_op op_add_str (pe_ix ix_list (pv 0) pe_int (fun _ _ => rfl)) (pv 1)) pe_str (nomark _))
        (pw_or (pt_cmpR op_eq (pe_op op_mod (pe_callB call_len_seq (by rfl) B.len PySem.boot_len (pa_cons (pv 2) pa_nil)) pe_int) pe_int (nomark _))
        (pw_or1 (pt_not (pt_val (pe_callB (cr_all rfl) (by rfl) B.all (by decide +kernel) (pa_cons
          (pe_lc (own := [("field", 3)]) (g := gName 3) (tt := tYes) rfl scWhole.nd (pi_list (pe_ev (pv 2))) (blkOk_by (N := NgH) (sc := defScope (top 30)) (by decide +kernel))
            (fun _ _ _ _ _ => pg_name (i := 3) scWhole.nd rfl (Or.inl rfl)) (fun _ _ _ _ _ => pts_nil)
            (fun _ _ _ _ _ => pe_call GN hr rfl gN kN bN .nil pass0 (pa_cons (pv 3) pa_nil))) pa_nil)))))))) (pss_one (ps_ret (pe_lst pa_nil))) pss_nil)
    (pss_one (ps_ret (pe_lst (pa_cons (pe_fzK (pe_dictzip rfl (by rfl) B.dict (by decide +kernel) (by rfl) B.zip (pa_cons (pe_ev (pv 2)) (pa_cons (pe_od (pv 2)) pa_nil)))) pa_nil))))))), ?_⟩
  have one : 1 ≤ sizeLine := by decide
  have br : ("[]" : Str) = mk [91, 93] := by decide +kernel
  have cu : ("{}" : Str) = mk [123, 125] := by decide +kernel
  have ca : ∀ a b : Nat, mk [a] ++ mk [b] = mk [a, b] := fun a b => ext_tl (tl_append _ _)
  have l2 : ∀ a b : Nat, (mk [a]).length + (mk [b]).length ≤ sizeLine := fun a b => (by decide : 2 ≤ sizeLine)
  have inj : ∀ a b : List Nat, V.str (mk a) = V.str (mk b) → a = b := fun a b h => congrArg tl (V.str.inj h)
  rcases h with ⟨rfl, xs, ds, hfa, xl, hda, q⟩ | ⟨rfl, ks, ys, ds, hfa, kl, kl2, knd, hkn, hda, q⟩
  · refine ⟨_, rfl, 1, rfl, fa, _, rfl, SqL.of hfa, fun ih hih => ⟨ih, _, rfl, upd_same, trivial, fun o => ?_⟩⟩
    rw [cut_from _ (by decide), upd_upd]
    have k1 : Same H (upd H ih (.frz o (.lst xs))) := same_new hih _
    have e1 : (V.str (mk [91]) :: xs).drop (1 : Int).toNat = xs := rfl
    rw [e1]
    refine ⟨_, rfl, fa, _, 0, .str (mk [91]), rfl, rfl, SqL.of (k1 _ _ hfa), atI_nat (j := 0) rfl, _, rfl, _, _, rfl, rfl, l2 _ _, rfl, _, rfl, ?_⟩
    rw [ca, br]
    refine ite_t (decide_eq_true rfl) ⟨_, rfl, one, fun l hl => ?_⟩
    have k2 := same_new hl (.lst [V.ref ih])
    exact q l _ _ (k1.trans k2) (Same.free k1 hl) upd_same (fun p e => by cases e; exact hih) (.lst (k2 _ _ upd_same) (hda.kp (.same (k1.trans k2))))
  · have al := alt_len kl
    refine ⟨_, rfl, 1, rfl, fa, _, rfl, SqL.of hfa, fun ih hih => ⟨ih, _, rfl, upd_same, trivial, fun o => ?_⟩⟩
    rw [cut_from _ (by decide), upd_upd]
    have e1 : (V.str (mk [123]) :: alt ks ys).drop (1 : Int).toNat = alt ks ys := rfl
    rw [e1]
    have k1 : Same H (upd H ih (.frz o (.lst (alt ks ys)))) := same_new hih _
    have hih1 : SqL K (upd H ih (.frz o (.lst (alt ks ys)))) ih (alt ks ys) := .inl (.inr ⟨o, upd_same⟩)
    refine ⟨_, rfl, fa, _, 0, .str (mk [123]), rfl, rfl, SqL.of (k1 _ _ hfa), atI_nat (j := 0) rfl, _, rfl, _, _, rfl, rfl, l2 _ _, rfl, _, rfl, ?_⟩
    rw [ca, br]
    refine ite_f (decide_eq_false fun h => absurd (inj _ _ h) (by decide)) ?_
    refine ⟨_, rfl, fa, _, 0, .str (mk [123]), rfl, rfl, SqL.of (k1 _ _ hfa), atI_nat (j := 0) rfl, _, rfl, _, _, rfl, rfl, l2 _ _, rfl, _, rfl, ?_⟩
    rw [ca, cu]
    refine ite_f (by rw [decide_eq_true rfl]; rfl) ?_
    refine ⟨_, rfl, ih, _, rfl, .inl hih1, _, _, rfl, rfl, (by show (0 : Int) < 2; decide), rfl, _, rfl, ?_⟩
    refine ite_f (decide_eq_false fun h => by have := V.int.inj h; omega) ?_
    refine ⟨_, rfl, ih, _, rfl, hih1, fun ev hev => ?_⟩
    rw [alt_ev kl]
    have k2 := same_new hev (.lst (ks.map V.str))
    refine ⟨ev, rfl, ⟨_, SqL.of upd_same⟩, fun D hD => ?_⟩
    refine lc_it (walk_list (K := K) (a := ev) (xs := ks.map V.str)) (fun i H2 => Same (upd (upd H ih (.frz o (.lst (alt ks ys)))) ev (.lst (ks.map V.str))) H2 ∧ H2 D = some (.lst ((List.replicate i true).map V.bl))) ⟨same_new hD _, upd_same⟩ (fun _ H2 _ z => SqL.of (z.1 _ _ upd_same)) ?_ ?_
    · rintro i v H2 H2' hi ⟨k3, hD2⟩ ⟨rfl, hv⟩
      rw [List.length_map] at hi
      rw [List.getElem?_map, List.getElem?_eq_getElem hi] at hv
      have hv' : V.str ks[i] = v := Option.some.inj hv
      subst hv'
      have hn := hkn ks[i] (List.getElem_mem hi)
      refine ⟨rfl, ?_⟩
      simp only [tYes, if_true]
      refine ⟨_, rfl, _, _, rfl, .str _, name_sm hn, fun H3 k4 => ⟨_, k4 _ _ hD2, K00.small1000 (by rw [List.length_map, List.length_replicate]; omega), fun b o' e => ?_, ?_⟩⟩
      · rw [upd_ne (ne_of_none e hD)]
        exact k4 _ _ (k3 _ _ e)
      · have ek : keyB (.str ks[i]) = true := hn
        rw [upd_same, ek, List.replicate_succ', List.map_append]
        rfl
    · rintro H2 ⟨k3, hD2⟩
      have kk : Same H H2 := (k1.trans k2).trans k3
      have hih2 : SqL K H2 ih (alt ks ys) := .inl (.inr ⟨o, k3 _ _ (k2 _ _ upd_same)⟩)
      refine ⟨D, _, rfl, SqL.of hD2, _, rfl, ?_⟩
      have ea : (List.replicate (ks.map V.str).length true).all id = true := List.all_eq_true.mpr fun b hb => by
        rw [(List.mem_replicate.mp hb).2]
        rfl
      rw [ea]
      refine iteF ⟨_, rfl, ih, alt ks ys, rfl, hih2, fun e1a he1 => ⟨_, rfl, ih, alt ks ys, rfl, ?_, fun e2a he2 => ?_⟩⟩
      · exact .inl (.inr ⟨o, (same_new he1 _) _ _ (k3 _ _ (k2 _ _ upd_same))⟩)
      rw [alt_ev kl] at he2 ⊢
      rw [alt_od kl]
      have k4 := same_new he1 (.lst (ks.map V.str))
      have k5 := same_new he2 (.lst ys)
      refine ⟨e1a, e2a, ks, ys, rfl, SqL.of (k5 _ _ upd_same), SqL.of upd_same, kl, fun pd hpd => ⟨pd, _, rfl, upd_same, fun nd o' => ⟨one, fun l hl => ?_⟩⟩⟩
      have nd0 : (((ks.map fun k => (Sum.inr k : Key)).zip ys).map (·.1)).Nodup := by
        rw [List.map_fst_zip (by rw [List.length_map]; omega)]
        exact List.pairwise_map.mpr (knd.imp fun h z => h (Sum.inr.inj z))
      have em : mergeK [] ((ks.map fun k => (Sum.inr k : Key)).zip ys) = (ks.map fun k => (Sum.inr k : Key)).zip ys := by
        have := merge_new (more := (ks.map fun k => (Sum.inr k : Key)).zip ys) (kvs := []) (by rw [List.nil_append]; exact nd0)
        rw [this, List.nil_append]
      rw [em, upd_upd] at hl ⊢
      have k6 := same_new hpd (.frz o' (.dK ((ks.map fun k => (Sum.inr k : Key)).zip ys)))
      have k7 := same_new hl (.lst [V.ref pd])
      have kf := ((((kk.trans k4).trans k5).trans k6).trans k7)
      have eK : ((ks.map fun k => (Sum.inr k : Key)).zip ys).map (fun p => (kV p.1, p.2)) = (ks.map V.str).zip ys := by
        rw [zip_keys]
      refine q l _ _ kf (Same.free (((kk.trans k4).trans k5).trans k6) hl) upd_same (fun p e => by cases e; exact Same.free ((kk.trans k4).trans k5) hpd) (.dic (.inl ⟨_, k7 _ _ upd_same, rfl⟩) ?_)
      rw [eK]
      exact hda.kp (.same kf)
end
end K87
set_option Elab.async false
set_option linter.all false
set_option maxRecDepth 100000
set_option maxHeartbeats 8000000
/-! G87U: read_loosely. -/
namespace K87
open PySem PySem.Spec L2 K00 TL
open PyProof.Rows (envOfC sortedS)
/-- a frame -/
inductive Fr where
  | root (ds : List PyData)
  | lst (ds : List PyData)
  | dct (es : List (Str × PyData)) (k : Option Str)
def Fr.put : Fr → PyData → Option Fr
  | .root ds, d => if ds.length < 400 then some (.root (ds ++ [d])) else none
  | .lst ds, d => if ds.length < 400 then some (.lst (ds ++ [d])) else none
  | .dct es (some k), d => if es.length < 100 then some (.dct (es ++ [(k, d)]) none) else none
  | .dct _ none, _ => none
def Fr.wants : Fr → Bool
  | .dct _ none => true
  | _ => false
/-- a token read -/
inductive Step : List Nat → List Fr → List Fr → Prop where
  | openL {st : List Fr} (h : st.length < 400) : Step [91] st (.lst [] :: st)
  | openK {st : List Fr} (h : st.length < 400) : Step [123] st (.dct [] none :: st)
  | closeL {ds : List PyData} {f f' : Fr} {st : List Fr} (hl : ds.length ≤ 400) (h : f.put (.list ds) = some f') : Step [93] (.lst ds :: f :: st) (f' :: st)
  | closeK {es : List (Str × PyData)} {f f' : Fr} {st : List Fr} (hl : es.length ≤ 100) (hn : (es.map (·.1)).Nodup) (hk : ∀ e ∈ es, nameB e.1 = true) (h : f.put (.dict (es.map fun e => (.str e.1, e.2))) = some f') : Step [125] (.dct es none :: f :: st) (f' :: st)
  | field {t : List Nat} {es : List (Str × PyData)} {st : List Fr} (h : t ∉ ([[91], [123], [93], [125]] : List (List Nat))) : Step t (.dct es none :: st) (.dct es (some (mk t)) :: st)
  | leaf {d : PyData} {f f' : Fr} {st : List Fr} (h : wr d ∉ ([[91], [123], [93], [125]] : List (List Nat))) (od : isOne d = true) (nL : isL d = false) (nK : isK d = false) (tq : Tq d) (hw : f.wants = false) (hp : f.put d = some f') : Step (wr d) (f :: st) (f' :: st)
inductive Runs : List (List Nat) → List Fr → List Fr → Prop where
  | nil {st : List Fr} : Runs [] st st
  | cons {t : List Nat} {ts : List (List Nat)} {a b c : List Fr} (h : Step t a b) (r : Runs ts b c) : Runs (t :: ts) a c
section
variable {P : Program} {w : World} {Z H H' : Hp}
def NewV (Z : Hp) (x : V) : Prop := ∀ p, x = .ref p → Z p = none
/-- what a frame's list holds -/
def FrV (P : Program) (w : World) (Z H : Hp) : Fr → List V → Prop
  | .root ds, vs => ∃ us, vs = .str (mk []) :: us ∧ DaL P w H us ds ∧ ds.length ≤ 400 ∧ ∀ u ∈ us, NewV Z u
  | .lst ds, vs => ∃ us, vs = .str (mk [91]) :: us ∧ DaL P w H us ds ∧ ds.length ≤ 400
  | .dct es k, vs => ∃ ys, vs = .str (mk [123]) :: (alt (es.map (·.1)) ys ++ (k.map V.str).toList) ∧ DaL P w H ys (es.map (·.2)) ∧ es.length ≤ 100
theorem FrV.kp {f : Fr} {vs : List V} (h : FrV P w Z H f vs) (k : Kp H H') : FrV P w Z H' f vs := by
  cases f with
  | root ds => obtain ⟨us, h1, h2, h3⟩ := h; exact ⟨us, h1, h2.kp k, h3⟩
  | lst ds => obtain ⟨us, h1, h2, h3⟩ := h; exact ⟨us, h1, h2.kp k, h3⟩
  | dct es o => obtain ⟨ys, h1, h2, h3⟩ := h; exact ⟨ys, h1, h2.kp k, h3⟩
theorem new_flat {d : PyData} {x : V} (od : isOne d = true) (nL : isL d = false) (nK : isK d = false) (h : Da P w H x d) : NewV Z x := by
  cases h with
  | tup h r => cases od
  | lst h r => cases nL
  | dic h r => cases nK
  | _ => intro p e; cases e
theorem alt_snoc : ∀ {ks : List Str} {ys : List V} {k : Str} {y : V}, ks.length = ys.length → alt (ks ++ [k]) (ys ++ [y]) = alt ks ys ++ [.str k, y]
  | [], [], _, _, _ => rfl
  | a :: ks, b :: ys, k, y, h => by
    show V.str a :: b :: alt (ks ++ [k]) (ys ++ [y]) = _
    rw [alt_snoc (by simpa using h)]
    rfl
  | [], _ :: _, _, _, h => by cases h
  | _ :: _, [], _, _, h => by cases h
/-- a document put into a frame -/
theorem FrV.put {f f' : Fr} {vs : List V} {d : PyData} {x : V} (h : FrV P w Z H f vs) (hp : f.put d = some f') (hx : Da P w H x d) (hn : NewV Z x) : FrV P w Z H f' (vs ++ [x]) ∧ vs.length ≤ 1000 := by
  cases f with
  | root ds =>
    obtain ⟨us, rfl, h2, h3, h4⟩ := h
    have hl := h2.length
    simp only [Fr.put] at hp
    split at hp
    · cases hp
      exact ⟨⟨us ++ [x], rfl, h2.snoc hx, by rw [List.length_append]; show ds.length + 1 ≤ 400; omega, fun u hu => by
        rcases List.mem_append.mp hu with y | y
        · exact h4 u y
        · rw [List.mem_singleton.mp y]; exact hn⟩, by rw [List.length_cons]; omega⟩
    · cases hp
  | lst ds =>
    obtain ⟨us, rfl, h2, h3⟩ := h
    have hl := h2.length
    simp only [Fr.put] at hp
    split at hp
    · cases hp
      exact ⟨⟨us ++ [x], rfl, h2.snoc hx, by rw [List.length_append]; show ds.length + 1 ≤ 400; omega⟩, by rw [List.length_cons]; omega⟩
    · cases hp
  | dct es o =>
    obtain ⟨ys, rfl, h2, h3⟩ := h
    have hl := h2.length
    rw [List.length_map] at hl
    cases o with
    | none => cases hp
    | some k =>
      simp only [Fr.put] at hp
      split at hp
      · cases hp
        refine ⟨⟨ys ++ [x], ?_, ?_, by rw [List.length_append]; show es.length + 1 ≤ 100; omega⟩, ?_⟩
        · rw [List.map_append, List.map_cons, List.map_nil, alt_snoc (by rw [List.length_map]; exact hl.symm)]
          simp
        · rw [List.map_append]
          exact h2.snoc hx
        · rw [List.length_cons, List.length_append, alt_len (by rw [List.length_map]; exact hl.symm), List.length_map]
          show 2 * es.length + 1 + 1 ≤ 1000
          omega
      · cases hp
end
section
variable {P : Program} {w : World} {H : Hp}
theorem dae_es : ∀ {es : List (Str × PyData)} {ys : List V}, DaL P w H ys (es.map (·.2)) → DaE P w H (((es.map (·.1)).map V.str).zip ys) (es.map fun e => (PyData.str e.1, e.2))
  | [], _, _ => by
    rw [List.map_nil, List.map_nil, List.zip_nil_left]
    exact .nil
  | (k, d) :: es, ys, h => by
    cases h with
    | cons a r => exact .cons (.str k) a (dae_es r)
end
section
variable {P : Program} {w : World} {H0 H1 H2 : Hp}
structure LI (P : Program) (w : World) (H0 H1 : Hp) (L : Addr) (as : List Addr) (st : List Fr) : Prop where
  lst : H1 L = some (.lst (as.reverse.map V.ref))
  fr : Paired (fun (a : Addr) (f : Fr) => ∃ vs, H1 a = some (.lst vs) ∧ FrV P w H0 H1 f vs) as st
  nd : (L :: as).Nodup
  new : ∀ a ∈ L :: as, H0 a = none
  keep : Same H0 H1
  few : st.length ≤ 400
theorem LI.same {L : Addr} {as : List Addr} {st : List Fr} (h : LI P w H0 H1 L as st) (k : Same H1 H2) : LI P w H0 H2 L as st :=
  ⟨k _ _ h.lst, Paired.mapP h.fr fun a f ⟨vs, h1, h2⟩ => ⟨vs, k _ _ h1, h2.kp (.same k)⟩, h.nd, h.new, h.keep.trans k, h.few⟩
theorem rev_snoc (a : Addr) (as : List Addr) : (a :: as).reverse.map V.ref = as.reverse.map V.ref ++ [V.ref a] := by
  rw [List.reverse_cons, List.map_append]
  rfl
theorem paired_off {as : List Addr} {st : List Fr} {b : Addr} {o : HO} (h : Paired (fun (a : Addr) (f : Fr) => ∃ vs, H1 a = some (.lst vs) ∧ FrV P w H0 H1 f vs) as st) (hb : b ∉ as) (k : Kp H1 (upd H1 b o)) :
    Paired (fun (a : Addr) (f : Fr) => ∃ vs, upd H1 b o a = some (.lst vs) ∧ FrV P w H0 (upd H1 b o) f vs) as st := by
  induction h with
  | nil => exact .nil
  | @cons a f as' st' h r ih =>
    obtain ⟨vs, h1, h2⟩ := h
    refine .cons ⟨vs, ?_, h2.kp k⟩ (ih fun z => hb (List.mem_cons_of_mem _ z))
    rw [upd_ne (fun z => hb (by rw [← z]; exact List.mem_cons_self))]
    exact h1
theorem LI.push {L a : Addr} {as : List Addr} {st : List Fr} {f : Fr} {vs : List V} (h : LI P w H0 H1 L as st) (ha : H1 a = none) (hf : ∀ H, FrV P w H0 H f vs) (hl : st.length < 400) :
    LI P w H0 (upd (upd H1 a (.lst vs)) L (.lst (as.reverse.map V.ref ++ [V.ref a]))) L (a :: as) (f :: st) := by
  have nL : L ≠ a := ne_of_none h.lst ha
  have k1 := same_new ha (.lst vs)
  have h1 := h.same k1
  have hLas := (List.nodup_cons.mp h.nd)
  have naas : a ∉ as := fun z => by
    obtain ⟨f', _, vs', e1, _⟩ := paired_memL h.fr z
    rw [ha] at e1
    cases e1
  have k2 : Kp (upd H1 a (.lst vs)) (upd (upd H1 a (.lst vs)) L (.lst (as.reverse.map V.ref ++ [V.ref a]))) := .lst h1.lst _
  refine ⟨by rw [upd_same, rev_snoc], .cons ⟨vs, ?_, hf _⟩ (paired_off h1.fr hLas.1 k2), ?_, fun b hb => ?_, fun b o e => ?_, by rw [List.length_cons]; omega⟩
  · rw [upd_ne (Ne.symm nL), upd_same]
  · refine List.nodup_cons.mpr ⟨fun z => ?_, List.nodup_cons.mpr ⟨naas, hLas.2⟩⟩
    rcases List.mem_cons.mp z with z | z
    · exact nL z
    · exact hLas.1 z
  · rcases List.mem_cons.mp hb with z | z
    · exact h.new b (by rw [z]; exact List.mem_cons_self)
    · rcases List.mem_cons.mp z with z | z
      · rw [z]
        exact Same.free h.keep ha
      · exact h.new b (List.mem_cons_of_mem _ z)
  · have nb : b ≠ L := ne_of_none e (h.new L List.mem_cons_self)
    rw [upd_ne nb]
    exact k1 _ _ (h.keep _ _ e)
theorem LI.pop {L a : Addr} {as : List Addr} {st : List Fr} {f : Fr} (h : LI P w H0 H1 L (a :: as) (f :: st)) :
    LI P w H0 (upd H1 L (.lst (as.reverse.map V.ref))) L as st ∧ ∃ vs, upd H1 L (.lst (as.reverse.map V.ref)) a = some (.lst vs) ∧ FrV P w H0 (upd H1 L (.lst (as.reverse.map V.ref))) f vs := by
  obtain ⟨n1, n2⟩ := List.nodup_cons.mp h.nd
  have k2 : Kp H1 (upd H1 L (.lst (as.reverse.map V.ref))) := .lst h.lst _
  have p := paired_off h.fr n1 k2
  cases p with
  | cons h1 r =>
    refine ⟨⟨upd_same, r, ?_, fun b hb => ?_, fun b o e => ?_, by have := h.few; rw [List.length_cons] at this; omega⟩, h1⟩
    · exact List.nodup_cons.mpr ⟨fun z => n1 (List.mem_cons_of_mem _ z), (List.nodup_cons.mp n2).2⟩
    · rcases List.mem_cons.mp hb with z | z
      · exact h.new b (by rw [z]; exact List.mem_cons_self)
      · exact h.new b (List.mem_cons_of_mem _ (List.mem_cons_of_mem _ z))
    · rw [upd_ne (ne_of_none e (h.new L List.mem_cons_self))]
      exact h.keep _ _ e
theorem LI.set {L a : Addr} {as : List Addr} {st : List Fr} {f f' : Fr} {vs ws : List V} (h : LI P w H0 H1 L (a :: as) (f :: st)) (ha : H1 a = some (.lst vs)) (hf : FrV P w H0 H1 f' ws) : LI P w H0 (upd H1 a (.lst ws)) L (a :: as) (f' :: st) := by
  obtain ⟨n1, n2⟩ := List.nodup_cons.mp h.nd
  have k2 : Kp H1 (upd H1 a (.lst ws)) := .lst ha _
  have nL : L ≠ a := fun z => n1 (by rw [z]; exact List.mem_cons_self)
  cases h.fr with
  | cons h1 r =>
    refine ⟨by rw [upd_ne nL]; exact h.lst, .cons ⟨ws, upd_same, hf.kp k2⟩ (paired_off r (List.nodup_cons.mp n2).1 k2), h.nd, h.new, fun b o e => ?_, h.few⟩
    rw [upd_ne (ne_of_none e (h.new a (List.mem_cons_of_mem _ List.mem_cons_self)))]
    exact h.keep _ _ e
end
theorem at_last {xs : List V} {x : V} : atI (xs ++ [x]) (-1) = some x := by
  unfold atI ixN
  rw [if_neg (by decide), if_pos (by rw [List.length_append, List.length_singleton]; omega)]
  show (xs ++ [x])[((-1 : Int) + ((xs ++ [x]).length : Nat)).toNat]? = some x
  have e : ((-1 : Int) + ((xs ++ [x]).length : Nat)).toNat = xs.length := by
    rw [List.length_append]
    simp
    omega
  rw [e]
  simp
theorem in_two (t : List Nat) (a b : Nat) (A B : Str) (hA : tl A = [a]) (hB : tl B = [b]) : inV (.str (mk t)) [.str A, .str B] = decide (t ∈ ([[a], [b]] : List (List Nat))) := by
  show inV (.str (mk t)) (([A, B] : List Str).map V.str) = _
  rw [inV_strs, mk_eq hA, mk_eq hB]
  have inj : ∀ u : List Nat, mk t = mk u ↔ t = u := fun u => ⟨fun h => congrArg tl h, fun h => congrArg mk h⟩
  simp only [List.mem_cons, List.not_mem_nil, or_false, inj]
section
variable {P : Program} {w : World} {K : PySem.W.Frag} {mg : Str → Option Value} {base : Heap} {f g g2 g3 : Addr} {fd gd gd2 gd3 : FuncData}
def spLoose (P : Program) (w : World) : Sp := fun vs H Q _ => ∃ (z : Str) (ts : List (List Nat)) (ds : List PyData), vs = [.str z] ∧ z.length ≤ 1000000 ∧ Lex (tl z) ts ∧ Runs (ts.filter keepN) [.root []] [.root ds] ∧
  ∀ l xs H', Same H H' → H l = none → H' l = some (.lst xs) → (∀ u ∈ xs, NewV H u) → DaL P w H' xs ds → Q (.ref l) H'
abbrev NgR : List Str := ["text", "frames", "token", "found"]
theorem scLoose : FnScope NgR ["text"] (defScope (top 31)) := ⟨rfl, rfl, rfl, by decide +kernel, rfl, by decide +kernel, by decide +kernel⟩
theorem ok_loose (F : FnD K "read_loosely" 31 f fd) (B : Bl mg)
    (GT : FnOk P w K mg base CX0 3 g gd ["text"] spTokens) (bT : Binds K gd ["text"] []) (kT : PySem.W.keepIn K (.ref g) = true) (gT : mg "tokens_of" = some (.ref g))
    (GW : FnOk P w K mg base CX0 2 g2 gd2 ["frame", "token"] (spWhole P w)) (bW : Binds K gd2 ["frame", "token"] []) (kW : PySem.W.keepIn K (.ref g2) = true) (gW : mg "wholes_in" = some (.ref g2))
    (GL : FnOk P w K mg base CX0 2 g3 gd3 ["token"] (spLeaves P w)) (bL : Binds K gd3 ["token"] []) (kL : PySem.W.keepIn K (.ref g3) = true) (gL : mg "leaves_in" = some (.ref g3)) :
    FnOk P w K mg base CX0 4 f fd ["text"] (spLoose P w) := by
  refine F.ok scLoose (fun vs H Q E h => ?_) (fun cdv A outer s H vs Q E hr h => ?_)
  · obtain ⟨z, ts, ds, rfl, _⟩ := h
    rfl
  obtain ⟨z, ts, ds, rfl, hz, hx, hrun, q⟩ := h
  have hr2 : Room 2 _ := hr.mono (by decide)
  refine ⟨_, PSs.nox (pss_cons (ps_set (i := 1) scLoose.nd rfl (Or.inl rfl) (pe_lst (pa_cons (pe_lst (pa_cons pe_str pa_nil)) pa_nil)))
    (pss_cons (ps_for PassesOwn.never rfl (pi_list (pe_call GT hr rfl gT kT bT .nil pass0 (pa_cons (pv 0) pa_nil))) (pg_name (i := 2) scLoose.nd rfl (Or.inl rfl))
      (pss_cons (ps_if (pt_cmpR op_in_seq (pv 2) (pe_tup (pa_cons pe_str (pa_cons pe_str pa_nil))) (by rfl))
        (pss_cons (ps_expr (pe_bm PySem.F.plainAttrs_list PySem.F.slot_list_append PySem.F.type_list_append mt_append (pv 1) (pa_cons (pe_lst (pa_cons (pv 2) pa_nil)) pa_nil))) (pss_one ps_continue)) pss_nil)
      (C8.pss_cut (ps_if (pt_cmpR op_in_seq (pv 2) (pe_tup (pa_cons pe_str (pa_cons pe_str pa_nil))) (by rfl))
        (pss_one (ps_set (i := 3) scLoose.nd rfl (Or.inl rfl) (pe_call GW hr2 rfl gW kW bW .nil pass0 (pa_cons (pe_bm0 PySem.F.plainAttrs_list PySem.F.slot_list_pop PySem.F.type_list_pop mt_pop (pv 1)) (pa_cons (pv 2) pa_nil)))))
        (pss_one (ps_if (PW.pt (pw_and (pt_cmpR op_eq (pe_ix ix_list (pe_ix ix_list (pv 1) (pe_un un_neg pe_int) (fun _ _ => rfl)) pe_int (fun _ _ => rfl)) pe_str (nomark _))
            (pw_and1 (pt_cmpR op_eq (pe_op op_mod (pe_callB call_len_seq (by rfl) B.len PySem.boot_len (pa_cons (pe_ix ix_list (pv 1) (pe_un un_neg pe_int) (fun _ _ => rfl)) pa_nil)) pe_int) pe_int (nomark _)))))
          (pss_one (ps_set (i := 3) scLoose.nd rfl (Or.inl rfl) (pe_lst (pa_cons (pv 2) pa_nil))))
          (pss_one (ps_set (i := 3) scLoose.nd rfl (Or.inl rfl) (pe_call GL hr2 rfl gL kL bL .nil pass0 (pa_cons (pv 2) pa_nil)))))))
      (pss_cons (ps_if (pt_not (pt_truth (pv 3) (by intro _; rfl))) (pss_one (ps_ret (pe_lst pa_nil))) pss_nil)
      (pss_one (ps_expr (pe_bm PySem.F.plainAttrs_list PySem.F.slot_list_extend PySem.F.type_list_extend mt_extend (pe_ix ix_list (pv 1) (pe_un un_neg pe_int) (fun _ _ => rfl)) (pa_cons (pv 3) pa_nil)))))))
    )
    (pss_one (ps_ret (pe_slice sl_list (pe_ix ix_list (pv 1) pe_int (fun _ _ => rfl)) (po_some pe_int) po_none))))), ?_⟩
  have two : 2 ≤ sizeLine := by decide
  have one : 1 ≤ sizeLine := by decide
  have b1 : tl ("[" : Str) = [91] := by decide +kernel
  have b2 : tl ("{" : Str) = [123] := by decide +kernel
  have b3 : tl ("]" : Str) = [93] := by decide +kernel
  have b4 : tl ("}" : Str) = [125] := by decide +kernel
  have e0 : ("" : Str) = mk [] := by decide +kernel
  refine ⟨one, fun r0 hr0 => ⟨one, fun L hL => ?_⟩⟩
  have k0 := same_new hr0 (.lst [.str (Str.ofString "")])
  have nrL : r0 ≠ L := ne_of_none upd_same hL
  have kL := same_new hL (.lst [V.ref r0])
  have li0 : LI P w H (upd (upd H r0 (.lst [.str (Str.ofString "")])) L (.lst [V.ref r0])) L [r0] [.root []] :=
    ⟨upd_same, .cons ⟨_, kL _ _ upd_same, ⟨[], by rw [e0], .nil, by decide, (fun _ h => nomatch h)⟩⟩ .nil, by simp [Ne.symm nrL], fun b hb => by
      rcases List.mem_cons.mp hb with z | z
      · rw [z]; exact Same.free k0 hL
      · rw [List.mem_singleton.mp z]; exact hr0, k0.trans kL, by decide⟩
  generalize upd (upd H r0 (.lst [.str (Str.ofString "")])) L (.lst [V.ref r0]) = H1 at li0 ⊢
  generalize htoks : ts.filter keepN = toks at hrun
  refine ⟨_, rfl, z, ts, rfl, hz, hx, fun tk H1b k1 htk htk1 => ⟨tk, rfl, ⟨_, SqL.of htk1⟩, ?_⟩⟩
  rw [htoks] at htk1
  have ntk : tk ∉ L :: [r0] := fun h => by
    rcases List.mem_cons.mp h with y | y
    · rw [y, li0.lst] at htk; cases htk
    · cases li0.fr with
      | cons h1 _ =>
        obtain ⟨vs, h2, _⟩ := h1
        rw [List.mem_singleton.mp y, h2] at htk; cases htk
  refine for_it (walk_list (K := K) (a := tk) (xs := toks.map fun t => V.str (mk t))) (fun i σ H2 => ∃ (tv fv : Option V) (as : List Addr) (st : List Fr), σ = [some (.str z), some (.ref L), tv, fv] ∧ LI P w H H2 L as st ∧ Runs (toks.drop i) st [.root ds] ∧ H2 tk = some (.lst (toks.map fun t => V.str (mk t))) ∧ tk ∉ L :: as)
    ⟨none, none, [r0], [.root []], rfl, li0.same k1, hrun, htk1, ntk⟩ (fun _ _ H2 _ ⟨_, _, _, _, _, _, _, y, _⟩ => SqL.of y) ?turn ?after
  case after =>
    rintro σ H2 ⟨tv, fv, as, st, rfl, li, hr', _, _⟩
    rw [List.length_map, List.drop_length] at hr'
    cases hr'
    cases hfr : li.fr with
    | @cons a _ as' _ h1 r =>
      cases r
      obtain ⟨vs, h2, us, rfl, h3, h4, h5⟩ := h1
      refine ⟨_, rfl, L, _, 0, .ref a, rfl, rfl, SqL.of li.lst, atI_nat (j := 0) rfl, 1, rfl, a, _, rfl, SqL.of h2, fun l hl => ?_⟩
      rw [cut_from _ (by decide)]
      have kl := same_new hl (.lst ((V.str (mk []) :: us).drop (1 : Int).toNat))
      exact q l _ _ (li.keep.trans kl) (Same.free li.keep hl) upd_same h5 (h3.kp (.same kl))
  case turn =>
    rintro i v σ H2 H2' hi ⟨tv, fv, as, st, rfl, li, hr', htk2, hnt⟩ ⟨rfl, hv⟩
    rw [List.length_map] at hi
    rw [List.getElem?_map, List.getElem?_eq_getElem hi] at hv
    have hv' : V.str (mk toks[i]) = v := Option.some.inj hv
    subst hv'
    rw [List.drop_eq_getElem_cons hi] at hr'
    generalize toks[i] = t at hr'
    cases hr' with
    | @cons _ _ _ b _ hs hr2 =>
    refine ⟨_, rfl, two, fun p1 hp1 => ⟨p1, _, rfl, .inr (SqT.of upd_same), rfl, rfl, _, rfl, ?_⟩⟩
    have kp1 := same_new hp1 (.tup [.str (Str.ofString "["), .str (Str.ofString "{")])
    have li3 := li.same kp1
    have htk3 := kp1 _ _ htk2
    generalize upd H2' p1 (.tup [.str (Str.ofString "["), .str (Str.ofString "{")]) = H3 at li3 htk3 ⊢
    have lst3 := li3.lst
    have alen : as.length = st.length := Paired.length li3.fr
    by_cases hop : t ∈ ([[91], [123]] : List (List Nat))
    · refine ite_t (by show inV (.str (mk t)) [.str "[", .str "{"] = true; rw [in_two t 91 123 _ _ b1 b2]; exact decide_eq_true hop) ?_
      refine ⟨_, rfl, .inl ⟨rfl, _, SqL.of lst3⟩, _, rfl, one, fun a ha => ⟨L, _, _, rfl, rfl, (same_new ha _) _ _ lst3, K00.small1000 (by have := li3.few; rw [List.length_map, List.length_reverse]; omega), ?_⟩⟩
      have nta : tk ≠ a := ne_of_none htk3 ha
      have keepT : upd (upd H3 a (.lst [V.str (mk t)])) L (.lst (as.reverse.map V.ref ++ [V.ref a])) tk = some (.lst (toks.map fun t => V.str (mk t))) := by
        rw [upd_ne (fun y => hnt (by rw [y]; exact List.mem_cons_self)), upd_ne nta]
        exact htk3
      have notin : tk ∉ L :: (a :: as) := fun y => by
        rcases List.mem_cons.mp y with y | y
        · exact hnt (by rw [y]; exact List.mem_cons_self)
        · rcases List.mem_cons.mp y with y | y
          · exact nta y
          · exact hnt (List.mem_cons_of_mem _ y)
      cases hs with
      | openL hl => exact ⟨_, _, a :: as, _, rfl, li3.push (f := .lst []) ha (fun _ => ⟨[], rfl, .nil, by decide⟩) hl, hr2, keepT, notin⟩
      | openK hl => exact ⟨_, _, a :: as, _, rfl, li3.push (f := .dct [] none) ha (fun _ => ⟨[], rfl, .nil, by decide⟩) hl, hr2, keepT, notin⟩
      | closeL => exact absurd hop (by decide)
      | closeK => exact absurd hop (by decide)
      | field h => exact absurd (by simp only [List.mem_cons, List.not_mem_nil, or_false] at hop ⊢; rcases hop with y | y <;> simp [y]) h
      | leaf h => exact absurd (by simp only [List.mem_cons, List.not_mem_nil, or_false] at hop ⊢; rcases hop with y | y <;> simp [y]) h
    · refine ite_f (by show inV (.str (mk t)) [.str "[", .str "{"] = false; rw [in_two t 91 123 _ _ b1 b2]; exact decide_eq_false hop) ?_
      refine ⟨fun σ H4 => ∃ (fl : Addr) (x : V) (a : Addr) (as' : List Addr) (vs : List V), σ = [some (.str z), some (.ref L), some (.str (mk t)), some (.ref fl)] ∧ H4 fl = some (.lst [x]) ∧ H4 L = some (.lst (as'.reverse.map V.ref ++ [V.ref a])) ∧ H4 a = some (.lst vs) ∧ vs.length ≤ 1000 ∧
        LI P w H (upd H4 a (.lst (vs ++ [x]))) L (a :: as') b ∧ H4 tk = some (.lst (toks.map fun t => V.str (mk t))) ∧ tk ∉ L :: (a :: as'), ?m1, ?m2⟩
      case m2 =>
        rintro σ H4 ⟨fl, x, a, as', vs, rfl, hfl, hL4, ha4, hvl, li5, htk4, hn4⟩
        refine ⟨_, rfl, true, .inl ⟨_, SqL.of hfl, rfl⟩, iteF ?_⟩
        refine ⟨_, rfl, _, rfl, L, _, _, .ref a, rfl, rfl, SqL.of hL4, at_last, .inl ⟨rfl, _, SqL.of ha4⟩, _, rfl, a, fl, vs, [x], rfl, rfl, ha4, hfl, Nat.le_of_lt (Nat.lt_of_lt_of_le (by simp; omega : _ < 1000000) (by decide)), ?_⟩
        refine ⟨_, _, a :: as', b, rfl, li5, hr2, ?_, hn4⟩
        rw [upd_ne (fun y => hn4 (by rw [y]; exact List.mem_cons_of_mem _ List.mem_cons_self))]
        exact htk4
      case m1 =>
        refine ⟨_, rfl, two, fun p2 hp2 => ⟨p2, _, rfl, .inr (SqT.of upd_same), rfl, rfl, _, rfl, ?_⟩⟩
        have kp2 := same_new hp2 (.tup [.str (Str.ofString "]"), .str (Str.ofString "}")])
        have li4 := li3.same kp2
        have htk4 := kp2 _ _ htk3
        generalize upd H3 p2 (.tup [.str (Str.ofString "]"), .str (Str.ofString "}")]) = H4 at li4 htk4 ⊢
        have lst4 := li4.lst
        have tkL : tk ≠ L := fun y => hnt (by rw [y]; exact List.mem_cons_self)
        have fin : ∀ {H5 : Hp} {fl a : Addr} {x : V} {as1 : List Addr} {f0 f1 : Fr} {st1 : List Fr} {d : PyData}, LI P w H H5 L (a :: as1) (f0 :: st1) → f0.put d = some f1 → b = f1 :: st1 → Da P w H5 x d → NewV H x → H5 fl = some (.lst [x]) → H5 tk = some (.lst (toks.map fun t => V.str (mk t))) → tk ∉ L :: (a :: as1) →
            ∃ (fl' : Addr) (x' : V) (a' : Addr) (as' : List Addr) (vs : List V), [some (V.str z), some (V.ref L), some (V.str (mk t)), some (V.ref fl)] = [some (.str z), some (.ref L), some (.str (mk t)), some (.ref fl')] ∧ H5 fl' = some (.lst [x']) ∧ H5 L = some (.lst (as'.reverse.map V.ref ++ [V.ref a'])) ∧ H5 a' = some (.lst vs) ∧ vs.length ≤ 1000 ∧
              LI P w H (upd H5 a' (.lst (vs ++ [x']))) L (a' :: as') b ∧ H5 tk = some (.lst (toks.map fun t => V.str (mk t))) ∧ tk ∉ L :: (a' :: as') := by
          intro H5 fl a x as1 f0 f1 st1 d l5 hput hb hdx hnx hfl htk5 hn5
          cases l5.fr with
          | cons h1 r1 =>
            obtain ⟨vs, h2, h3⟩ := h1
            obtain ⟨h4, h5⟩ := FrV.put h3 hput hdx hnx
            subst hb
            exact ⟨fl, x, a, as1, vs, rfl, hfl, by rw [← rev_snoc]; exact l5.lst, h2, h5, l5.set h2 h4, htk5, hn5⟩
        have no4 : ∀ {u : List Nat}, u ∉ ([[91], [123], [93], [125]] : List (List Nat)) → u ∉ ([[93], [125]] : List (List Nat)) := fun h hm => h (by
          simp only [List.mem_cons, List.not_mem_nil, or_false] at hm ⊢
          rcases hm with y | y <;> simp [y])
        cases hs with
        | openL => exact (hop (by decide)).elim
        | openK => exact (hop (by decide)).elim
        | @closeL ds1 f0 f1 st1 hl hput =>
          refine ite_t (by show inV (.str (mk [93])) [.str "]", .str "}"] = true; rw [in_two _ 93 125 _ _ b3 b4]; decide) ?_
          cases hpf : li4.fr with
          | @cons a _ as1 _ h1 r1 =>
            cases r1 with
            | @cons a' _ as2 _ h2 r2 =>
              obtain ⟨lp, vs, ha, us, rfl, hda, _⟩ := li4.pop
              have lus := hda.length
              rw [rev_snoc] at lst4
              refine ⟨_, rfl, .inl ⟨rfl, _, SqL.of lst4⟩, L, _, .ref a, rfl, rfl, lst4, by simp, ?_⟩
              rw [List.dropLast_concat]
              refine ⟨_, rfl, a, 93, rfl, .inl ⟨rfl, us, ds1, ha, by omega, hda, fun l x H5 k5 hl5 hl51 hnx hdx => ?_⟩⟩
              refine fin (lp.same k5) hput rfl hdx (fun p e => Same.free lp.keep (hnx p e)) hl51 (k5 _ _ (by rw [upd_ne tkL]; exact htk4)) fun y => ?_
              rcases List.mem_cons.mp y with y | y
              · exact tkL y
              · exact hnt (List.mem_cons_of_mem _ (List.mem_cons_of_mem _ y))
        | @closeK es f0 f1 st1 hl hnd hk hput =>
          refine ite_t (by show inV (.str (mk [125])) [.str "]", .str "}"] = true; rw [in_two _ 93 125 _ _ b3 b4]; decide) ?_
          cases hpf : li4.fr with
          | @cons a _ as1 _ h1 r1 =>
            cases r1 with
            | @cons a' _ as2 _ h2 r2 =>
              obtain ⟨lp, vs, ha, ys, rfl, hda, _⟩ := li4.pop
              have lus := hda.length
              rw [List.length_map] at lus
              rw [rev_snoc] at lst4
              refine ⟨_, rfl, .inl ⟨rfl, _, SqL.of lst4⟩, L, _, .ref a, rfl, rfl, lst4, by simp, ?_⟩
              rw [List.dropLast_concat]
              refine ⟨_, rfl, a, 125, rfl, .inr ⟨rfl, es.map (·.1), ys, _, ?_, by rw [List.length_map]; exact lus.symm, by rw [List.length_map]; exact hl, hnd, fun k hk' => ?_, dae_es hda, fun l x H5 k5 hl5 hl51 hnx hdx => ?_⟩⟩
              · have : ((none : Option Str).map V.str).toList = [] := rfl
                rw [this, List.append_nil] at ha
                exact ha
              · obtain ⟨e, he, rfl⟩ := List.mem_map.mp hk'
                exact hk e he
              · refine fin (lp.same k5) hput rfl hdx (fun p e => Same.free lp.keep (hnx p e)) hl51 (k5 _ _ (by rw [upd_ne tkL]; exact htk4)) fun y => ?_
                rcases List.mem_cons.mp y with y | y
                · exact tkL y
                · exact hnt (List.mem_cons_of_mem _ (List.mem_cons_of_mem _ y))
        | @field _ es st1 h4 =>
          refine ite_f (by show inV (.str (mk t)) [.str "]", .str "}"] = false; rw [in_two _ 93 125 _ _ b3 b4]; exact decide_eq_false (no4 h4)) ?_
          cases hpf : li4.fr with
          | @cons a _ as1 _ h1 r1 =>
            obtain ⟨vs, ha, ys, rfl, hda, hel⟩ := h1
            have lus := hda.length
            rw [List.length_map] at lus
            have e00 : ((none : Option Str).map V.str).toList = [] := rfl
            rw [e00, List.append_nil] at ha
            have al := alt_len (ks := es.map (·.1)) (ys := ys) (by rw [List.length_map]; exact lus.symm)
            rw [List.length_map] at al
            rw [rev_snoc] at lst4
            refine ⟨_, rfl, _, rfl, L, _, _, .ref a, rfl, rfl, SqL.of lst4, at_last, a, _, _, _, rfl, rfl, SqL.of ha, atI_nat (j := 0) rfl, rfl, _, rfl, ?_⟩
            refine ite_t (decide_eq_true (congrArg V.str (ext_tl b2.symm))) ?_
            refine ⟨_, rfl, _, rfl, L, _, _, .ref a, rfl, rfl, SqL.of lst4, at_last, a, _, rfl, .inl (SqL.of ha), _, _, rfl, rfl, (by show (0 : Int) < 2; decide), rfl, _, rfl, ?_⟩
            refine ite_t (decide_eq_true (congrArg V.int (by rw [List.length_cons]; omega))) ?_
            refine ⟨_, rfl, one, fun fl hfl => ?_⟩
            have k5 := same_new hfl (.lst [V.str (mk t)])
            have l5 := li4.same k5
            exact ⟨fl, .str (mk t), a, as1, _, rfl, upd_same, k5 _ _ lst4, k5 _ _ ha, by rw [List.length_cons]; omega, l5.set (f' := .dct es (some (mk t))) (k5 _ _ ha) ⟨ys, rfl, hda.kp (.same k5), hel⟩, k5 _ _ htk4, hnt⟩
        | @leaf d f0 f1 st1 h4 od nL nK tq hwn hput =>
          refine ite_f (by show inV (.str (mk (wr d))) [.str "]", .str "}"] = false; rw [in_two _ 93 125 _ _ b3 b4]; exact decide_eq_false (no4 h4)) ?_
          cases hpf : li4.fr with
          | @cons a _ as1 _ h1 r1 =>
            obtain ⟨vs, ha, hF⟩ := h1
            rw [rev_snoc] at lst4
            have finL : ∀ l x H5, Same H4 H5 → H4 l = none → H5 l = some (.lst [x]) → Da P w H5 x d → _ := fun l x H5 k5 hl5 hl51 hdx => fin (li4.same k5) hput rfl hdx (new_flat od nL nK hdx) hl51 (k5 _ _ htk4) hnt
            cases f0 with
            | root ds1 =>
              obtain ⟨us, rfl, hda, _⟩ := hF
              refine ⟨_, rfl, _, rfl, L, _, _, .ref a, rfl, rfl, SqL.of lst4, at_last, a, _, _, _, rfl, rfl, SqL.of ha, atI_nat (j := 0) rfl, rfl, _, rfl, ?_⟩
              refine ite_f (decide_eq_false fun h => absurd (congrArg tl (V.str.inj h)) (by rw [b2]; decide)) (iteF ?_)
              exact ⟨_, rfl, d, rfl, od, nL, nK, tq, finL⟩
            | lst ds1 =>
              obtain ⟨us, rfl, hda, _⟩ := hF
              refine ⟨_, rfl, _, rfl, L, _, _, .ref a, rfl, rfl, SqL.of lst4, at_last, a, _, _, _, rfl, rfl, SqL.of ha, atI_nat (j := 0) rfl, rfl, _, rfl, ?_⟩
              refine ite_f (decide_eq_false fun h => absurd (congrArg tl (V.str.inj h)) (by rw [b2]; decide)) (iteF ?_)
              exact ⟨_, rfl, d, rfl, od, nL, nK, tq, finL⟩
            | dct es o =>
              cases o with
              | none => cases hwn
              | some k =>
                obtain ⟨ys, rfl, hda, _⟩ := hF
                have lus := hda.length
                rw [List.length_map] at lus
                have al := alt_len (ks := es.map (·.1)) (ys := ys) (by rw [List.length_map]; exact lus.symm)
                rw [List.length_map] at al
                refine ⟨_, rfl, _, rfl, L, _, _, .ref a, rfl, rfl, SqL.of lst4, at_last, a, _, _, _, rfl, rfl, SqL.of ha, atI_nat (j := 0) rfl, rfl, _, rfl, ?_⟩
                refine ite_t (decide_eq_true (congrArg V.str (ext_tl b2.symm))) ?_
                refine ⟨_, rfl, _, rfl, L, _, _, .ref a, rfl, rfl, SqL.of lst4, at_last, a, _, rfl, .inl (SqL.of ha), _, _, rfl, rfl, (by show (0 : Int) < 2; decide), rfl, _, rfl, ?_⟩
                refine ite_f (decide_eq_false fun h => ?_) ?_
                · have h' := V.int.inj h
                  have : ((some k).map V.str).toList.length = 1 := rfl
                  rw [List.length_cons, List.length_append] at h'
                  omega
                · exact ⟨_, rfl, d, rfl, od, nL, nK, tq, finL⟩
end
end K87
set_option Elab.async false
set_option linter.all false
set_option maxRecDepth 100000
set_option maxHeartbeats 8000000
/-! G87V: documents_in, read_document, of a document's own text. -/
namespace K87
open PySem PySem.Spec L2 K00 TL
open PyProof.Rows (envOfC sortedS)
/-- a text that reads as this document -/
structure Rd1 (z : Str) (d : PyData) : Prop where
  zl : z.length ≤ 1000000
  lx : ∃ ts, Lex (tl z) ts ∧ Runs (ts.filter keepN) [.root []] [.root [d]]
  tx : ∃ n, Tx n d ∧ wL n ≤ 100000
  cn : cnt d ≤ 900
  eq : mk (wr d) = z
section
variable {P : Program} {w : World} {K : PySem.W.Frag} {mg : Str → Option Value} {base : Heap} {f g g2 g3 : Addr} {fd gd gd2 gd3 : FuncData}
def spDocs (P : Program) (w : World) : Sp := fun vs H Q _ => ∃ (z : Str) (d : PyData), vs = [.str z] ∧ Rd1 z d ∧ ∀ l x H', Same H H' → H l = none → H' l = some (.lst [x]) → NewV H x → Da P w H' x d → Q (.ref l) H'
theorem scDocs : FnScope ["text", "found"] ["text"] (defScope (top 32)) := ⟨rfl, rfl, rfl, by decide +kernel, rfl, by decide +kernel, by decide +kernel⟩
theorem ok_docs (F : FnD K "documents_in" 32 f fd) (B : Bl mg)
    (GR : FnOk P w K mg base CX0 4 g gd ["text"] (spLoose P w)) (bR : Binds K gd ["text"] []) (kR : PySem.W.keepIn K (.ref g) = true) (gR : mg "read_loosely" = some (.ref g))
    (GT : FnOk P w K mg base CX0 3 g2 gd2 ["document"] (spText P w)) (bT : Binds K gd2 ["document"] []) (kT : PySem.W.keepIn K (.ref g2) = true) (gT : mg "text_of" = some (.ref g2)) :
    FnOk P w K mg base CX0 5 f fd ["text"] (spDocs P w) := by
  refine F.ok scDocs (fun vs H Q E h => ?_) (fun cdv A outer s H vs Q E hr h => ?_)
  · obtain ⟨z, d, rfl, _⟩ := h
    rfl
  obtain ⟨z, d, rfl, R, q⟩ := h
  have hr3 : Room 3 _ := hr.mono (by decide)
  refine ⟨_, PSs.nox (pss_cons (ps_if (pt_not (pt_val (pe_callB call_isDa (by rfl) B.isi (by decide +kernel) (pa_cons (pv 0) (pa_cons (pe_bltn (v := .ty "str") (by rfl) B.str (by decide +kernel) rfl) pa_nil))))) (pss_one (ps_ret (pe_lst pa_nil))) pss_nil)
    (pss_cons (ps_set (i := 1) scDocs.nd rfl (Or.inl rfl) (pe_call GR hr rfl gR kR bR .nil pass0 (pa_cons (pv 0) pa_nil)))
    (pss_one (ps_ret (pe_ifExp (PW.pt (pw_and (pt_cmpR op_eq (pe_callB call_len_seq (by rfl) B.len PySem.boot_len (pa_cons (pv 1) pa_nil)) pe_int (nomark _))
        (pw_and1 (pt_cmpR op_eq (pe_call GT hr3 rfl gT kT bT .nil pass0 (pa_cons (pe_ix ix_list (pv 1) pe_int (fun _ _ => rfl)) pa_nil)) (pv 0) (nomark _))))) (pv 1) (pe_lst pa_nil)))))), ?_⟩
  obtain ⟨ts, lx, rn⟩ := R.lx
  obtain ⟨n, tx, hw⟩ := R.tx
  refine ⟨_, rfl, _, "str", _, _, rfl, .str z, kt_s _, _, rfl, iteF ⟨_, rfl, z, ts, [d], rfl, R.zl, lx, rn, fun l xs H1 k1 hl hl1 hnew hda => ?_⟩⟩
  cases hda with
  | cons hx r =>
    cases r
    refine ⟨_, rfl, l, _, rfl, .inl (SqL.of hl1), rfl, _, rfl, ite_t (decide_eq_true rfl) ?_⟩
    refine ⟨_, rfl, l, _, _, _, rfl, rfl, SqL.of hl1, atI_nat (j := 0) rfl, _, d, n, rfl, hx, tx, hw, R.cn, fun H2 k2 => ⟨_, rfl, rfl, _, rfl, ite_t (decide_eq_true (congrArg V.str R.eq)) ⟨_, rfl, ?_⟩⟩⟩
    exact q l _ H2 (k1.trans k2) hl (k2 _ _ hl1) (hnew _ List.mem_cons_self) (hx.kp (.same k2))
def spRead (P : Program) (w : World) : Sp := fun vs H Q _ => ∃ (z : Str) (d : PyData), vs = [.str z] ∧ Rd1 z d ∧ ∀ x H', Same H H' → NewV H x → Da P w H' x d → Q x H'
theorem scRead : FnScope ["text", "found"] ["text"] (defScope (top 33)) := ⟨rfl, rfl, rfl, by decide +kernel, rfl, by decide +kernel, by decide +kernel⟩
theorem ok_read (F : FnD K "read_document" 33 f fd) (B : Bl mg)
    (GD : FnOk P w K mg base CX0 5 g gd ["text"] (spDocs P w)) (bD : Binds K gd ["text"] []) (kD : PySem.W.keepIn K (.ref g) = true) (gD : mg "documents_in" = some (.ref g)) :
    FnOk P w K mg base CX0 6 f fd ["text"] (spRead P w) := by
  refine F.ok scRead (fun vs H Q E h => ?_) (fun cdv A outer s H vs Q E hr h => ?_)
  · obtain ⟨z, d, rfl, _⟩ := h
    rfl
  obtain ⟨z, d, rfl, R, q⟩ := h
  refine ⟨_, PSs.nox (pss_cons (ps_set (i := 1) scRead.nd rfl (Or.inl rfl) (pe_call GD hr rfl gD kD bD .nil pass0 (pa_cons (pv 0) pa_nil)))
    (pss_cons (ps_if (pt_not (pt_truth (pv 1) (by intro _; rfl))) (pss_one ps_no) pss_nil)
    (pss_one (ps_ret (pe_ix ix_list (pv 1) pe_int (fun _ _ => rfl)))))), ?_⟩
  refine ⟨_, rfl, z, d, rfl, R, fun l x H1 k1 hl hl1 hnx hx => ?_⟩
  exact ⟨_, rfl, true, .inl ⟨_, SqL.of hl1, rfl⟩, iteF ⟨_, rfl, l, _, _, _, rfl, rfl, SqL.of hl1, atI_nat (j := 0) rfl, q x H1 k1 hnx hx⟩⟩
end
end K87
set_option Elab.async false
set_option linter.all false
set_option maxRecDepth 100000
set_option maxHeartbeats 8000000
/-! G87X: the text of a document is read as that document. -/
namespace K87
open PySem PySem.Spec L2 K00 TL
open PyProof.Rows (envOfC sortedS)
def okR (rest : List Nat) : Prop := rest = [] ∨ ∃ c r, rest = c :: r ∧ c ∈ marksW
theorem wE_run : ∀ {r rest : List Nat}, (∀ c ∈ r, c ∉ marksW ∧ c ≠ 34) → okR rest → wE (r ++ rest) = r.length
  | [], rest, _, h => by
    rcases h with rfl | ⟨c, r, rfl, hc⟩
    · rfl
    · exact wE_stop r (.inl hc)
  | c :: r, rest, h, ok => by
    have hc := h c List.mem_cons_self
    show wE (c :: (r ++ rest)) = _
    rw [wE_go _ hc.1 hc.2, wE_run (fun d hd => h d (List.mem_cons_of_mem _ hd)) ok, List.length_cons]
    omega
theorem tE_word {c : Nat} {r rest : List Nat} (h : ∀ d ∈ c :: r, d ∉ marksW ∧ d ≠ 34) (ok : okR rest) : tE ((c :: r) ++ rest) = (c :: r).length := by
  have hc := h c List.mem_cons_self
  have e := wE_run (fun d hd => h d (List.mem_cons_of_mem _ hd)) ok
  show tE (c :: (r ++ rest)) = _
  simp [tE, hc.1, hc.2, e]
  omega
theorem tE_mark {c : Nat} {rest : List Nat} (h : c ∈ marksW) : tE ([c] ++ rest) = ([c] : List Nat).length := by
  have h34 : c ≠ 34 := fun z => by
    rw [z] at h
    exact absurd h (by decide)
  show tE (c :: rest) = 1
  simp [tE, h, h34]
theorem sE_esc : ∀ (l rest : List Nat), sE (esc l ++ (34 :: rest)) = (esc l).length
  | [], rest => sE_quote rest
  | c :: l, rest => by
    have ih := sE_esc l rest
    by_cases h : c = 34 ∨ c = 92
    · have e : esc (c :: l) = 92 :: c :: esc l := by rw [esc_cons]; unfold e1; rw [if_pos h]; rfl
      rw [e]
      show sE (92 :: (c :: (esc l ++ (34 :: rest)))) = _
      rw [sE_stroke _ _ rfl]
      show 2 + sE (esc l ++ (34 :: rest)) = _
      rw [ih, List.length_cons, List.length_cons]
      omega
    · have e : esc (c :: l) = c :: esc l := by rw [esc_cons]; unfold e1; rw [if_neg h]; rfl
      rw [e]
      show sE (c :: (esc l ++ (34 :: rest))) = _
      rw [sE_other _ (fun z => h (.inl z)) (fun z => h (.inr z)), ih, List.length_cons]
      omega
theorem tE_str (l rest : List Nat) : tE (qt l ++ rest) = (qt l).length := by
  have e : qt l ++ rest = 34 :: (esc l ++ (34 :: rest)) := by
    unfold qt
    simp
  rw [e, qt_len]
  show tE (34 :: (esc l ++ (34 :: rest))) = _
  simp only [tE, if_true]
  rw [sE_esc]
  omega
theorem lex1 {t rest : List Nat} {tr : List (List Nat)} (hne : t ≠ []) (h : tE (t ++ rest) = t.length) (r : Lex rest tr) : Lex (t ++ rest) (t :: tr) := by
  have z := Lex.cons (l := t ++ rest) (ts := tr) (fun e => hne (List.append_eq_nil_iff.mp e).1) (by rw [h, List.drop_left]; exact r)
  rw [h, List.take_left] at z
  exact z
theorem head_in {c : Nat} {r : List Nat} (h : c ∉ marksW) : (c :: r) ∉ ([[91], [123], [93], [125]] : List (List Nat)) ∧ keepN (c :: r) = true := by
  have e2 : marksW = [91, 93, 123, 125, 44, 58, 32] := rfl
  rw [e2] at h
  simp only [List.mem_cons, List.not_mem_nil, or_false, not_or] at h
  refine ⟨fun hm => ?_, ?_⟩
  · simp only [List.mem_cons, List.not_mem_nil, or_false, List.cons.injEq] at hm
    omega
  · unfold keepN
    rw [decide_eq_false (fun hm => ?_)]
    · rfl
    · simp only [List.mem_cons, List.not_mem_nil, or_false, List.cons.injEq] at hm
      omega
/-- a leaf's token -/
theorem leaf_tok {d : PyData} (od : isOne d = true) (nL : isL d = false) (nK : isK d = false) (tq : Tq d) :
    wr d ∉ ([[91], [123], [93], [125]] : List (List Nat)) ∧ keepN (wr d) = true ∧ wr d ≠ [] ∧ ∀ rest, okR rest → tE (wr d ++ rest) = (wr d).length := by
  cases d with
  | none => rw [wr_non]; exact ⟨(head_in (by decide)).1, (head_in (by decide)).2, by decide, fun rest ok => tE_word (by decide) ok⟩
  | bool b =>
    rw [wr_bool]
    cases b with
    | true => exact ⟨(head_in (by decide)).1, (head_in (by decide)).2, by decide, fun rest ok => tE_word (by decide) ok⟩
    | false => exact ⟨(head_in (by decide)).1, (head_in (by decide)).2, by decide, fun rest ok => tE_word (by decide) ok⟩
  | int i =>
    have N := numF (i := i) tq
    obtain ⟨c, r, hc, h34, _, hm⟩ := N.hd
    have all : ∀ e ∈ tl (ts i), e ∉ marksW ∧ e ≠ 34 := fun e he => by
      have e2 : marksW = [91, 93, 123, 125, 44, 58, 32] := rfl
      have hd : e = 45 ∨ (48 ≤ e ∧ e ≤ 57) := by
        rcases N.neg with ⟨r', e1, h⟩ | ⟨h, _⟩
        · rw [e1] at he
          rcases List.mem_cons.mp he with z | z
          · exact .inl z
          · exact .inr (h e z)
        · exact .inr (h e he)
      rw [e2]
      simp only [List.mem_cons, List.not_mem_nil, or_false, not_or]
      omega
    rw [wr_int, hc]
    rw [hc] at all
    exact ⟨(head_in hm).1, (head_in hm).2, by simp, fun rest ok => tE_word all ok⟩
  | str s =>
    have e : wr (.str s) = qt (tl s) := rfl
    rw [e]
    exact ⟨(head_in (by decide)).1, (head_in (by decide)).2, by unfold qt; simp, fun rest _ => tE_str _ _⟩
  | tuple xs => cases od
  | list xs => cases nL
  | dict xs => cases nK
/-- a field's name as a token -/
theorem name_tok {k : Str} (h : nameB k = true) : tl k ∉ ([[91], [123], [93], [125]] : List (List Nat)) ∧ keepN (tl k) = true ∧ tl k ≠ [] ∧ ∀ rest, okR rest → tE (tl k ++ rest) = (tl k).length := by
  unfold nameB at h
  obtain ⟨h1, h⟩ := He.ba h
  obtain ⟨_, h2⟩ := He.ba h
  have l1 : 1 ≤ k.length := of_decide_eq_true h1
  rw [len_tl] at l1
  have all : ∀ e ∈ tl k, e ∉ marksW ∧ e ≠ 34 := fun e he => by
    have := List.all_eq_true.mp h2 e he
    have hh : ∀ e ∈ LET.cps.toList, e ∉ marksW ∧ e ≠ 34 := by decide +kernel
    exact hh e (by simpa using this)
  cases q : tl k with
  | nil => rw [q] at l1; simp at l1
  | cons c r =>
    rw [q] at all
    exact ⟨(head_in (all c List.mem_cons_self).1).1, (head_in (all c List.mem_cons_self).1).2, by simp, fun rest ok => tE_word all ok⟩
end K87
set_option Elab.async false
set_option linter.all false
set_option maxRecDepth 100000
set_option maxHeartbeats 8000000
/-! G87Y: the text of a document is read as that document, put together. -/
namespace K87
open PySem PySem.Spec L2 K00 TL
open PyProof.Rows (envOfC sortedS)
/-- its text is read as a document like it -/
def Rds (n : Nat) (d : PyData) : Prop := ∃ ts d', Tm n d' d ∧ (∀ rest tr, okR rest → Lex rest tr → Lex (wr d ++ rest) (ts ++ tr)) ∧
  ∀ f f' st rest b, f.wants = false → f.put d' = some f' → st.length + n < 300 → Runs rest (f' :: st) b → Runs (ts.filter keepN ++ rest) (f :: st) b
theorem rds_leaf {n : Nat} {d : PyData} (tx : Tx n d) (nL : isL d = false) (nK : isK d = false) : Rds n d := by
  obtain ⟨h1, h2, h3, h4⟩ := leaf_tok tx.one nL nK tx.tq
  refine ⟨[wr d], d, ⟨tx, rfl⟩, fun rest tr ok r => lex1 h3 (h4 rest ok) r, fun f f' st rest b hw hp _ hr => ?_⟩
  rw [List.filter_cons_of_pos h2]
  exact .cons (.leaf h1 tx.one nL nK tx.tq hw hp) hr
theorem ok_mark {c : Nat} {r : List Nat} (h : c ∈ marksW) : okR ([c] ++ r) := .inr ⟨c, r, rfl, h⟩
theorem rds_items {n : Nat} : ∀ {xs : List PyData}, (∀ x ∈ xs, Rds n x) → ∃ ts ds', Paired (Tm n) ds' xs ∧ (∀ rest tr, okR rest → Lex rest tr → Lex (jn [44, 32] (xs.map wr) ++ rest) (ts ++ tr)) ∧
    ∀ acc st rest b, acc.length + xs.length ≤ 100 → st.length + n < 300 → Runs rest (.lst (acc ++ ds') :: st) b → Runs (ts.filter keepN ++ rest) (.lst acc :: st) b
  | [], _ => ⟨[], [], .nil, fun rest tr _ r => r, fun acc st rest b _ _ r => by rw [List.append_nil] at r; exact r⟩
  | [x], h => by
    obtain ⟨ts, d', tm, lx, rn⟩ := h x List.mem_cons_self
    refine ⟨ts, [d'], .cons tm .nil, lx, fun acc st rest b hl hs r => ?_⟩
    rw [List.length_singleton] at hl
    exact rn (.lst acc) _ st rest b rfl (by simp only [Fr.put]; rw [if_pos (by omega)]) hs r
  | x :: y :: r, h => by
    obtain ⟨ts1, d', tm, lx, rn⟩ := h x List.mem_cons_self
    obtain ⟨ts2, ds', tms, lxs, rns⟩ := rds_items (xs := y :: r) fun z hz => h z (List.mem_cons_of_mem _ hz)
    refine ⟨ts1 ++ ([44] :: [32] :: ts2), d' :: ds', .cons tm tms, fun rest tr ok lr => ?_, fun acc st rest b hl hs rr => ?_⟩
    · have e : jn [44, 32] ((x :: y :: r).map wr) ++ rest = wr x ++ ([44] ++ ([32] ++ (jn [44, 32] ((y :: r).map wr) ++ rest))) := by
        show (wr x ++ [44, 32] ++ jn [44, 32] ((y :: r).map wr)) ++ rest = _
        simp
      rw [e, List.append_assoc]
      exact lx _ _ (ok_mark (by decide)) (lex1 (by decide) (tE_mark (by decide)) (lex1 (by decide) (tE_mark (by decide)) (lxs rest tr ok lr)))
    · rw [List.filter_append, List.append_assoc]
      rw [List.length_cons] at hl
      refine rn (.lst acc) (.lst (acc ++ [d'])) st _ b rfl (by simp only [Fr.put]; rw [if_pos (by omega)]) hs ?_
      have e : (([44] :: [32] :: ts2).filter keepN) = ts2.filter keepN := by
        rw [List.filter_cons_of_neg (by decide), List.filter_cons_of_neg (by decide)]
      rw [e]
      refine rns (acc ++ [d']) st rest b (by rw [List.length_append, List.length_singleton]; omega) hs ?_
      rw [List.append_assoc]
      exact rr
theorem rds_list {n : Nat} {xs : List PyData} (tx : Tx (n + 1) (.list xs)) (h : ∀ x ∈ xs, Rds n x) : Rds (n + 1) (.list xs) := by
  obtain ⟨ts, ds', tms, lx, rn⟩ := rds_items h
  have l4 : xs.length ≤ 4 := tx.nar.1
  have hl : ds'.length = xs.length := Paired.length tms
  refine ⟨[91] :: (ts ++ [[93]]), .list ds', turned_list7 l4 tms, fun rest tr ok lr => ?_, fun f f' st rest b hw hp hs rr => ?_⟩
  · have e : wr (.list xs) ++ rest = [91] ++ (jn [44, 32] (xs.map wr) ++ ([93] ++ rest)) := by
      rw [wr_list]
      simp
    rw [e]
    have e2 : ([91] :: (ts ++ [[93]])) ++ tr = [91] :: (ts ++ ([93] :: tr)) := by simp
    rw [e2]
    exact lex1 (by decide) (tE_mark (by decide)) (lx _ _ (ok_mark (by decide)) (lex1 (by decide) (tE_mark (by decide)) lr))
  · have e : (([91] :: (ts ++ [[93]])).filter keepN) ++ rest = [91] :: (ts.filter keepN ++ ([93] :: rest)) := by
      rw [List.filter_cons_of_pos (by decide), List.filter_append, List.filter_cons_of_pos (by decide)]
      simp
    rw [e]
    refine .cons (.openL (by rw [List.length_cons]; omega)) (rn [] (f :: st) _ b (by simp; omega) (by rw [List.length_cons]; omega) ?_)
    rw [List.nil_append]
    exact .cons (.closeL (by omega) hp) rr
theorem rds_fields {n : Nat} {ds : List (PyData × PyData)} : ∀ {ks : List Str}, (∀ k ∈ ks, nameB k = true ∧ Rds n (lookD ds k)) → ∃ (ts : List (List Nat)) (es : List (Str × PyData)), es.map (·.1) = ks ∧ (∀ e ∈ es, Tm n e.2 (lookD ds e.1)) ∧ (∀ rest tr, okR rest → Lex rest tr → Lex (jn [44, 32] (ks.map (wrow ds)) ++ rest) (ts ++ tr)) ∧
    ∀ acc st rest b, acc.length + ks.length ≤ 100 → st.length + n < 300 → Runs rest (.dct (acc ++ es) none :: st) b → Runs (ts.filter keepN ++ rest) (.dct acc none :: st) b
  | [], _ => ⟨[], [], rfl, (fun _ h => nomatch h), fun rest tr _ r => r, fun acc st rest b _ _ r => by rw [List.append_nil] at r; exact r⟩
  | k :: ks, h => by
    obtain ⟨hn, ts1, d', tm, lx, rn⟩ := h k List.mem_cons_self
    obtain ⟨n4, nk, nne, nte⟩ := name_tok hn
    obtain ⟨ts2, es, ek, tms, lxs, rns⟩ := rds_fields (ks := ks) fun z hz => h z (List.mem_cons_of_mem _ hz)
    have row : ∀ rest tr, okR rest → Lex rest tr → Lex (wrow ds k ++ rest) ((tl k :: [58] :: [32] :: ts1) ++ tr) := fun rest tr ok lr => by
      have e : wrow ds k ++ rest = tl k ++ ([58] ++ ([32] ++ (wr (lookD ds k) ++ rest))) := by
        unfold wrow
        simp
      rw [e]
      exact lex1 nne (nte _ (ok_mark (by decide))) (lex1 (by decide) (tE_mark (by decide)) (lex1 (by decide) (tE_mark (by decide)) (lx rest tr ok lr)))
    have run : ∀ acc st rest b, acc.length < 100 → st.length + n < 300 → Runs rest (.dct (acc ++ [(k, d')]) none :: st) b → Runs ((tl k :: [58] :: [32] :: ts1).filter keepN ++ rest) (.dct acc none :: st) b := fun acc st rest b hl hs rr => by
      rw [List.filter_cons_of_pos nk, List.filter_cons_of_neg (by decide), List.filter_cons_of_neg (by decide)]
      refine .cons (.field n4) (rn (.dct acc (some (mk (tl k)))) _ st rest b rfl (by simp only [Fr.put]; rw [if_pos hl]) hs ?_)
      have em : mk (tl k) = k := mk_tl k
      rw [em]
      exact rr
    have tmm : ∀ e ∈ (k, d') :: es, Tm n e.2 (lookD ds e.1) := fun e he => by
      rcases List.mem_cons.mp he with z | z
      · rw [z]; exact tm
      · exact tms e z
    cases ks with
    | nil =>
      have : es = [] := List.map_eq_nil_iff.mp ek
      subst this
      refine ⟨tl k :: [58] :: [32] :: ts1, [(k, d')], rfl, tmm, row, fun acc st rest b hl hs rr => run acc st rest b (by rw [List.length_singleton] at hl; omega) hs rr⟩
    | cons k2 ks2 =>
      refine ⟨(tl k :: [58] :: [32] :: ts1) ++ ([44] :: [32] :: ts2), (k, d') :: es, by rw [List.map_cons, ek], tmm, fun rest tr ok lr => ?_, fun acc st rest b hl hs rr => ?_⟩
      · have e : jn [44, 32] ((k :: k2 :: ks2).map (wrow ds)) ++ rest = wrow ds k ++ ([44] ++ ([32] ++ (jn [44, 32] ((k2 :: ks2).map (wrow ds)) ++ rest))) := by
          show (wrow ds k ++ [44, 32] ++ jn [44, 32] ((k2 :: ks2).map (wrow ds))) ++ rest = _
          simp
        rw [e, List.append_assoc]
        exact row _ _ (ok_mark (by decide)) (lex1 (by decide) (tE_mark (by decide)) (lex1 (by decide) (tE_mark (by decide)) (lxs rest tr ok lr)))
      · rw [List.filter_append, List.append_assoc]
        rw [List.length_cons] at hl
        refine run acc st _ b (by omega) hs ?_
        have e : (([44] :: [32] :: ts2).filter keepN) = ts2.filter keepN := by
          rw [List.filter_cons_of_neg (by decide), List.filter_cons_of_neg (by decide)]
        rw [e]
        refine rns (acc ++ [(k, d')]) st rest b (by rw [List.length_append, List.length_singleton]; omega) hs ?_
        rw [List.append_assoc]
        exact rr
theorem es_keys (es : List (Str × PyData)) : ((es.map fun e => (PyData.str e.1, e.2)).map fun p => kS p.1) = es.map (·.1) := by
  rw [List.map_map]
  rfl
theorem rds_dict {n : Nat} {ds : List (PyData × PyData)} (tx : Tx (n + 1) (.dict ds)) (h : ∀ k ∈ ds.map (fun p => kS p.1), Rds n (lookD ds k)) : Rds (n + 1) (.dict ds) := by
  obtain ⟨s1, s2, s3⟩ := tx.nar
  have hkey : ∀ k ∈ fls ds, nameB k = true ∧ Rds n (lookD ds k) := fun k hk => by
    have hm := (fls_perm ds).mem_iff.mp hk
    exact ⟨(tx.key hm).1, h k hm⟩
  obtain ⟨ts, es, ek, tms, lx, rn⟩ := rds_fields hkey
  have fl : (fls ds).length = ds.length := by rw [(fls_perm ds).length_eq, List.length_map]
  have el : es.length = ds.length := by rw [← fl, ← ek, List.length_map]
  have knd : (es.map (·.1)).Nodup := by rw [ek]; exact (fls_perm ds).nodup_iff.mpr s2
  have hnm : ∀ e ∈ es, nameB e.1 = true := fun e he => (hkey e.1 (by rw [← ek]; exact List.mem_map.mpr ⟨e, he, rfl⟩)).1
  have tmd : Tm (n + 1) (.dict (es.map fun e => (PyData.str e.1, e.2))) (.dict ds) := by
    refine ⟨tx_dict (by rw [List.length_map]; omega) (by rw [es_keys]; exact knd) fun p hp => ?_, ?_⟩
    · obtain ⟨e, he, rfl⟩ := List.mem_map.mp hp
      have hn := hnm e he
      obtain ⟨a7, l8⟩ := name_as7 hn
      exact ⟨⟨e.1, rfl, hn⟩, ⟨by omega, as7_ok a7⟩, (tms e he).1⟩
    · have nd2 : ((es.map fun e => (PyData.str e.1, e.2)).map fun p => kS p.1).Nodup := by rw [es_keys]; exact knd
      rw [ink_dict s2 (fls_perm ds) (fls_sorted ds), ink_dict nd2 (by rw [es_keys, ek]) (fls_sorted ds)]
      congr 2
      refine List.map_congr_left fun k hk => ?_
      rw [← ek] at hk
      obtain ⟨e, he, rfl⟩ := List.mem_map.mp hk
      have := lookD_of nd2 (p := (PyData.str e.1, e.2)) (List.mem_map.mpr ⟨e, he, rfl⟩)
      have e2 : lookD (es.map fun e => (PyData.str e.1, e.2)) e.1 = e.2 := this
      rw [e2, (tms e he).2]
  refine ⟨[123] :: (ts ++ [[125]]), _, tmd, fun rest tr ok lr => ?_, fun f f' st rest b hw hp hs rr => ?_⟩
  · have e : wr (.dict ds) ++ rest = [123] ++ (jn [44, 32] ((fls ds).map (wrow ds)) ++ ([125] ++ rest)) := by
      rw [wr_dictF s2]
      simp
    rw [e]
    have e2 : ([123] :: (ts ++ [[125]])) ++ tr = [123] :: (ts ++ ([125] :: tr)) := by simp
    rw [e2]
    exact lex1 (by decide) (tE_mark (by decide)) (lx _ _ (ok_mark (by decide)) (lex1 (by decide) (tE_mark (by decide)) lr))
  · have e : (([123] :: (ts ++ [[125]])).filter keepN) ++ rest = [123] :: (ts.filter keepN ++ ([125] :: rest)) := by
      rw [List.filter_cons_of_pos (by decide), List.filter_append, List.filter_cons_of_pos (by decide)]
      simp
    rw [e]
    refine .cons (.openK (by rw [List.length_cons]; omega)) (rn [] (f :: st) _ b (by simp; omega) (by rw [List.length_cons]; omega) ?_)
    rw [List.nil_append]
    exact .cons (.closeK (by omega) knd hnm hp) rr
theorem rds : ∀ {n : Nat} {d : PyData}, Tx n d → Rds n d := by
  intro n
  induction n with
  | zero =>
    intro d tx
    cases d with
    | list xs =>
      have := tx.dep
      simp [PyData.depth] at this
    | dict ds =>
      have := tx.dep
      simp [PyData.depth] at this
    | tuple xs => cases tx.one
    | none => exact rds_leaf tx rfl rfl
    | bool b => exact rds_leaf tx rfl rfl
    | int i => exact rds_leaf tx rfl rfl
    | str s => exact rds_leaf tx rfl rfl
  | succ n ih =>
    intro d tx
    cases d with
    | list xs => exact rds_list tx fun x hx => ih (tx.kid (d := .list xs) hx)
    | dict ds =>
      refine rds_dict tx fun k hk => ?_
      obtain ⟨_, p, _, _, e, hm⟩ := tx.key hk
      rw [e]
      exact ih (tx.kid hm)
    | tuple xs => cases tx.one
    | none => exact rds_leaf tx rfl rfl
    | bool b => exact rds_leaf tx rfl rfl
    | int i => exact rds_leaf tx rfl rfl
    | str s => exact rds_leaf tx rfl rfl
theorem wL3 : wL 3 = 7450 := by decide
theorem cT3 : cT 3 = 85 := by decide
/-- a drawn document's text -/
theorem reads_back {d : PyData} (tx : Tx 3 d) : ∃ d', Rd1 (mk (wr d)) d' ∧ Tm 3 d' d := by
  obtain ⟨ts, d', tm, lx, rn⟩ := rds tx
  have c1 := tx_cnt tm.1
  rw [cT3] at c1
  have w1 := tx_wr tx
  rw [wL3] at w1
  refine ⟨d', ⟨by show (wr d).length ≤ _; omega, ⟨ts, ?_, ?_⟩, ⟨3, tm.1, by rw [wL3]; omega⟩, by omega, congrArg mk (wr_ink tm.2)⟩, tm⟩
  · have := lx [] [] (.inl rfl) .nil
    rw [List.append_nil, List.append_nil] at this
    exact this
  · have := rn (.root []) (.root [d']) [] [] [.root [d']] rfl rfl (by decide) .nil
    rw [List.append_nil] at this
    exact this
end K87
set_option Elab.async false
set_option linter.all false
set_option maxRecDepth 100000
set_option maxHeartbeats 8000000
/-! G87Z: _law_right. -/
namespace K87
open PySem PySem.Spec L2 K00 TL
open PyProof.Rows (envOfC sortedS)
section
variable {X : Cx} {e : Expr} {te : TE}
/-- a locked thing, made here, unlocked -/
def tUnl (H0 : Hp) (te : TE) : TE := fun σ H Q => te σ H fun x H1 => ∃ p o u, x = .ref p ∧ H1 p = some (.frz o u) ∧ (∀ o' u', H0 p ≠ some (.frz o' u')) ∧ Q x (upd H1 p u)
theorem pe_unl (he : PE X e te) : PE X e (tUnl X.H_0 te) := by
  refine ⟨fun pins s σ H Q I h => thn (he.run pins s σ H _ I h) fun v s1 ⟨x, H1, I1, r1, p, o, u, ex, hp, hn, q⟩ => ?_⟩
  exact ⟨x, _, I1.unlock hp hn, r1, q⟩
theorem call_isEi : CallR X (.builtin "isinstance") (fun xs H Q => rIsDa X.prog X.w xs H Q ∨ rIsi X.K xs H Q) := by
  intro pins s σ H xs us Q I r h
  rcases h with h | h
  · exact call_isDa pins s σ H xs us Q I r h
  · exact call_isi pins s σ H xs us Q I r h
end
theorem lT3 : lT 3 = 14018 := by decide
theorem th_good {d : PyData} (h : Th 3 (cT 3) (lT 3) d) : goodB d = true := by
  obtain ⟨_, dr, _⟩ := h
  have e := dr.len
  rw [lT3] at e
  unfold goodB
  rw [dr.sh, Bool.true_and]
  exact Bool.and_eq_true_iff.mpr ⟨Nat.ble_eq.mpr (by omega), Nat.ble_eq.mpr (by have := dr.dep; omega)⟩
section
variable {P : Program} {w : World} {K : PySem.W.Frag} {mg : Str → Option Value} {base : Heap} {f g1 g2 g3 g4 g5 g6 C : Addr} {fd gd1 gd2 gd3 gd4 gd5 gd6 : FuncData}
def spRight : Sp := fun vs H Q _ => ∃ (p : Addr) (c : Nat), vs = [.ref p] ∧ PotAt H p c ∧ c + potT 3 ≤ 60000 ∧ ∀ H', Ch p H H' → PotAt H' p (c + potT 3) → Q (.bl true) H'
abbrev NgG : List Str := ["_law_pot_here", "_law_document", "_law_text", "_law_kept", "_law_found"]
theorem scRight : FnScope NgG ["_law_pot_here"] (defScope (top 44)) := ⟨rfl, rfl, rfl, by decide +kernel, rfl, by decide +kernel, by decide +kernel⟩
theorem ok_right (F : FnD K "_law_right" 44 f fd) (B : Bl mg) (S : SysD K)
    (GT : FnOk P w K mg base CX0 7 g1 gd1 ["_law_pot_here", "_law_deep"] (spThing P w 3)) (bT : Binds K gd1 ["_law_pot_here", "_law_deep"] []) (kT : PySem.W.keepIn K (.ref g1) = true) (mT : mg "_law_thing" = some (.ref g1))
    (GW : FnOk P w K mg base CX0 4 g2 gd2 ["_law_document"] (spWrit P w 3)) (bW : Binds K gd2 ["_law_document"] []) (kW : PySem.W.keepIn K (.ref g2) = true) (mW : mg "_law_writ" = some (.ref g2))
    (GS : FnOk P w K mg base CX0 5 g3 gd3 ["document"] (spShow P w)) (bS : Binds K gd3 ["document"] []) (kS : PySem.W.keepIn K (.ref g3) = true) (mS : mg "show_document" = some (.ref g3))
    (GU : FnOk P w K mg base CX0 4 g4 gd4 ["_law_document"] (spTurned P w 3)) (bU : Binds K gd4 ["_law_document"] []) (kU : PySem.W.keepIn K (.ref g4) = true) (mU : mg "_law_turned" = some (.ref g4))
    (GR : FnOk P w K mg base CX0 6 g5 gd5 ["text"] (spRead P w)) (bR : Binds K gd5 ["text"] []) (kR : PySem.W.keepIn K (.ref g5) = true) (mR : mg "read_document" = some (.ref g5))
    (GE : FnOk P w K mg base (L2.CX P w) 4 g6 gd6 ["one", "other"] (spSame P w C)) (bE : Binds K gd6 ["one", "other"] []) (kE : PySem.W.keepIn K (.ref g6) = true) (mE : mg "same" = some (.ref g6)) :
    FnG P w K mg base 8 f fd ["_law_pot_here"] spRight := by
  refine fnG_of F scRight (fun vs H Q E h => ?_) (fun cdv A outer s H vs Q E hgd hr h => ?_)
  · obtain ⟨p, c, rfl, _⟩ := h
    rfl
  obtain ⟨p, c, rfl, hp, hc, q⟩ := h
  have hr7 : Room 7 _ := hr
  have hr6 : Room 6 _ := hr.mono (by decide)
  have hr5 : Room 5 _ := hr.mono (by decide)
  have hr4 : Room 4 _ := hr.mono (by decide)
  have hu1 := hu_of hr
  have hu50 : A.units + 3 + 50 < cLine := by
    have z : A.units + 3 + 16 * 7 + 200 < cLine := hr.un
    omega
  refine ⟨_, PSs.nox (pss_cons (ps_set (i := 1) scRight.nd rfl (Or.inl rfl) (pe_call GT hr7 rfl mT kT bT .nil pass0 (pa_cons (pv 0) (pa_cons pe_int pa_nil))))
    (pss_cons (ps_par (i := 2) (j := 3) rfl scRight.nd rfl rfl (by decide) rfl rfl (pa_cons (pe_call GW hr4 rfl mW kW bW .nil pass0 (pa_cons (pv 1) pa_nil)) (pa_cons (pe_callB (call_reprD S hgd hu50) (by rfl) B.repr (by decide +kernel) (pa_cons (pv 1) pa_nil)) pa_nil)) (by rfl))
    (pss_cons (ps_if (PW.pt (pw_or (pt_cmpR op_ne (pe_call GS hr5 rfl mS kS bS .nil pass0 (pa_cons (pv 1) pa_nil)) (pv 2) (nomark _))
        (pw_or1 (pt_cmpR op_ne (pe_call GS hr5 rfl mS kS bS .nil pass0 (pa_cons (pe_call GU hr4 rfl mU kU bU .nil pass0 (pa_cons (pv 1) pa_nil)) pa_nil)) (pv 2) (nomark _))))) (pss_one (ps_ret pe_bl)) pss_nil)
    (pss_cons (ps_set (i := 4) scRight.nd rfl (Or.inl rfl) (pe_call GR hr6 rfl mR kR bR .nil pass0 (pa_cons (pv 2) pa_nil)))
    (pss_cons (ps_if (PW.pt (pw_or (pt_cmpR op_ne (pe_call GW hr4 rfl mW kW bW .nil pass0 (pa_cons (pv 4) pa_nil)) (pv 2) (nomark _))
        (pw_or (pt_not (pt_val (pe_call GE hr4 rfl mE kE bE .nil (passes_call L2.takes0 (fun _ _ _ _ z => z)) (pa_cons (pv 4) (pa_cons (pv 1) pa_nil)))))
        (pw_or1 (pt_not (pt_val (pe_call GE hr4 rfl mE kE bE .nil (passes_call L2.takes0 (fun _ _ _ _ z => z)) (pa_cons (pe_call GU hr4 rfl mU kU bU .nil pass0 (pa_cons (pv 1) pa_nil)) (pa_cons (pv 4) pa_nil))))))))) (pss_one (ps_ret pe_bl)) pss_nil)
    (C8.pss_cut (ps_if (pt_val (pe_callB call_isDa (by rfl) B.isi (by decide +kernel) (pa_cons (pv 4) (pa_cons (pe_bltn (v := .ty "list") (by rfl) B.list (by decide +kernel) rfl) pa_nil))))
        (pss_one (ps_expr (pe_bm PySem.F.plainAttrs_list PySem.F.slot_list_append PySem.F.type_list_append mt_append (pe_unl (pv 4)) (pa_cons pe_non pa_nil)))) pss_nil)
    (C8.pss_cut (ps_if (pt_val (pe_callB call_isEi (by rfl) B.isi (by decide +kernel) (pa_cons (pv 4) (pa_cons (pe_bltn (v := .ty "dict") (by rfl) B.dict (by decide +kernel) rfl) pa_nil))))
        (pss_one (ps_asg pe_non (pg_sub (pe_unl (pv 4)) pe_str (set_dict hu1)))) pss_nil)
    (pss_one (ps_ret (pe_and (pe_cmpR op_eq (pe_call GW hr4 rfl mW kW bW .nil pass0 (pa_cons (pe_call GR hr6 rfl mR kR bR .nil pass0 (pa_cons (pv 2) pa_nil)) pa_nil)) (pv 2) (nomark _))
        (pe_one (pe_cmpR op_eq (pe_callB (call_reprD S hgd hu50) (by rfl) B.repr (by decide +kernel) (pa_cons (pv 1) pa_nil)) (pv 3) (nomark _))))))))))))), ?_⟩
  have hw : wL 3 ≤ 100000 := by rw [wL3]; decide
  refine ⟨_, rfl, p, c, rfl, hp, hc, fun x d H1 th hd k1 hp1 => ?_⟩
  have tx := th_tx th
  have cnt7 : ∀ {e : PyData}, Tx 3 e → cnt e ≤ 900 := fun h => by
    have := tx_cnt h
    rw [cT3] at this
    omega
  have gd := th_good th
  refine ⟨_, rfl, x, d, rfl, hd, tx, hw, fun H2 k2 => ⟨_, rfl, x, d, rfl, hd.kp (.same k2), gd, _, _, rfl, ?_⟩⟩
  have hd2 := hd.kp (.same k2)
  refine ⟨_, rfl, x, d, 3, rfl, hd2, tx, hw, cnt7 tx, fun H3 k3 => ⟨_, rfl, rfl, _, rfl, ite_f (by rw [decide_eq_true rfl]; rfl) ?_⟩⟩
  have hd3 := hd2.kp (.same k3)
  refine ⟨_, rfl, x, d, rfl, hd3, tx, fun x2 d2 H4 k4 hx2 tm2 => ⟨x2, d2, 3, rfl, hx2, tm2.1, hw, cnt7 tm2.1, fun H5 k5 => ⟨_, rfl, rfl, _, rfl, ite_f ?_ ?_⟩⟩⟩
  · rw [wr_ink tm2.2, decide_eq_true rfl]
    rfl
  have k15 : Same H1 H5 := k2.trans (k3.trans (k4.trans k5))
  have hd5 := hd3.kp (.same (k4.trans k5))
  obtain ⟨d', R1, tm'⟩ := reads_back tx
  have hR : Tx 3 d' := tm'.1
  refine ⟨_, rfl, mk (wr d), d', rfl, R1, fun xf H6 k6 hnew hxf => ?_⟩
  refine ⟨_, rfl, xf, d', rfl, hxf, hR, hw, fun H7 k7 => ⟨_, rfl, rfl, _, rfl, ite_f ?_ ?_⟩⟩
  · rw [wr_ink tm'.2, decide_eq_true rfl]
    rfl
  have hd7 := hd5.kp (.same (k6.trans k7))
  have hx7 := hxf.kp (.same k7)
  refine ⟨_, rfl, _, rfl, xf, x, d', d, rfl, hx7, hd7, hR.sm, tx.sm, by have := cnt7 hR; omega, by have := cnt7 tx; omega, (fun h => absurd h (by rw [hR.one]; decide)), (fun _ h => absurd h (by rw [tx.one]; decide)), fun _ _ b H8 k8 hb => ?_⟩
  obtain rfl : b = true := hb.mpr tm'.2
  refine ⟨_, rfl, iteF ?_⟩
  have hd8 := hd7.kp (.same k8)
  have hx8 := hx7.kp (.same k8)
  refine ⟨_, rfl, x, d, rfl, hd8, tx, fun x3 d3 H9 k9 hx3 tm3 => ⟨_, rfl, x3, xf, d3, d', rfl, hx3, hx8.kp (.same k9), tm3.1.sm, hR.sm, by have := cnt7 tm3.1; omega, by have := cnt7 hR; omega, (fun h => absurd h (by rw [tm3.1.one]; decide)), (fun _ h => absurd h (by rw [hR.one]; decide)), fun _ _ b H10 k10 hb => ?_⟩⟩
  obtain rfl : b = true := hb.mpr (tm3.2.trans tm'.2.symm)
  refine ⟨_, rfl, iteF ?_⟩
  have hx10 := hx8.kp (.same (k9.trans k10))
  have k5a : Same H5 H10 := k6.trans (k7.trans (k8.trans (k9.trans k10)))
  have hnF : ∀ pf, xf = .ref pf → (H5 pf = none ∧ ∀ o' u', H pf ≠ some (.frz o' u')) := fun pf e => by
    have h5 := hnew pf e
    refine ⟨h5, fun o' u' z => ?_⟩
    have hpn : pf ≠ p := fun y => by
      obtain ⟨a, b, k, y1, _⟩ := hp1
      rw [y, k15 _ _ y1] at h5
      cases h5
    have := k15 _ _ (k1 _ _ hpn z)
    rw [h5] at this
    cases this
  refine ⟨fun σ H' => σ = [some (.ref p), some x, some (.str (mk (wr d))), some (.str d.shown), some xf] ∧ Same H5 H' ∧ ((Da P w H' xf d' ∧ isL d' = false) ∨ ∃ pf xs, xf = .ref pf ∧ H' pf = some (.lst xs)), ?m1, ?m2⟩
  case m1 =>
    refine ⟨_, rfl, xf, "list", d', _, rfl, hx10, kt_l _, _, rfl, ?_⟩
    cases hx10 with
    | non => exact iteF ⟨rfl, k5a, .inl ⟨.non, rfl⟩⟩
    | bl b => exact iteF ⟨rfl, k5a, .inl ⟨.bl b, rfl⟩⟩
    | int b => exact iteF ⟨rfl, k5a, .inl ⟨.int b, rfl⟩⟩
    | str b => exact iteF ⟨rfl, k5a, .inl ⟨.str b, rfl⟩⟩
    | tup h r => exact iteF ⟨rfl, k5a, .inl ⟨.tup h r, rfl⟩⟩
    | dic h r => exact iteF ⟨rfl, k5a, .inl ⟨.dic h r, rfl⟩⟩
    | @lst pf o xs ds h r =>
      obtain ⟨n5, nH⟩ := hnF pf rfl
      have lx := r.length
      have l4 : ds.length ≤ 4 := hR.nar.1
      refine iteT ⟨_, rfl, pf, o, .lst xs, rfl, h, nH, .inl ⟨rfl, _, SqL.of upd_same⟩, pf, xs, _, rfl, rfl, upd_same, K00.small1000 (by omega), rfl, fun b o' e => ?_, .inr ⟨pf, _, rfl, upd_same⟩⟩
      have nb : b ≠ pf := ne_of_none e n5
      rw [upd_ne nb, upd_ne nb]
      exact k5a _ _ e
  case m2 =>
    rintro σ H11 ⟨rfl, k11, hcase⟩
    refine ⟨fun σ H' => σ = [some (.ref p), some x, some (.str (mk (wr d))), some (.str d.shown), some xf] ∧ Same H5 H', ?n1, ?n2⟩
    case n1 =>
      rcases hcase with ⟨hx11, nl⟩ | ⟨pf, xs, rfl, hpf⟩
      · refine ⟨_, rfl, .inl ⟨xf, "dict", d', _, rfl, hx11, kt_k _, _, rfl, ?_⟩⟩
        cases hx11 with
        | non => exact iteF ⟨rfl, k11⟩
        | bl b => exact iteF ⟨rfl, k11⟩
        | int b => exact iteF ⟨rfl, k11⟩
        | str b => exact iteF ⟨rfl, k11⟩
        | tup h r => exact iteF ⟨rfl, k11⟩
        | lst h r => cases nl
        | @dic pf o es ds h r =>
          obtain ⟨kvs, hf, rfl, hks⟩ := doc_dict h r (isOne_keys hR.one)
          obtain ⟨n5, nH⟩ := hnF pf rfl
          have lx := r.length
          rw [List.length_map] at lx
          have l4 : ds.length ≤ 4 := hR.nar.1
          refine iteT ⟨_, rfl, pf, o, .dK kvs, rfl, hf, nH, pf, _, rfl, DPut.k (k := Sum.inr (Str.ofString "new")) upd_same (K00.small1000 (by omega)), rfl, fun b o' e => ?_⟩
          have nb : b ≠ pf := ne_of_none e n5
          rw [upd_ne nb, upd_ne nb]
          exact k11 _ _ e
      · exact ⟨_, rfl, .inr ⟨.ref pf, .ty "dict", .type "list", .type "dict", false, rfl, .ty "dict", .base (.lst hpf), kit_ty (a := "list") (b := "dict") (by decide +kernel), _, rfl, iteF ⟨rfl, k11⟩⟩⟩
    case n2 =>
      rintro σ H12 ⟨rfl, k12⟩
      refine ⟨_, rfl, mk (wr d), d', rfl, R1, fun xg H13 k13 _ hxg => ⟨xg, d', rfl, hxg, hR, hw, fun H14 k14 => ⟨_, rfl, rfl, _, rfl, ite_t ?_ ?_⟩⟩⟩
      · rw [wr_ink tm'.2]
        exact decide_eq_true rfl
      have k514 : Same H5 H14 := k12.trans (k13.trans k14)
      refine ⟨_, rfl, x, d, rfl, hd5.kp (.same k514), gd, _, rfl, rfl, ?_⟩
      rw [decide_eq_true rfl]
      refine q H14 (k1.trans (.same (k15.trans k514))) (hp1.same (k15.trans k514))
end
end K87
set_option Elab.async false
set_option linter.all false
set_option maxRecDepth 100000
set_option maxHeartbeats 8000000
/-! G87ZA: the law's own def. -/
namespace K87
open PySem PySem.Spec L2 K00 TL
open PyProof.Rows (envOfC sortedS)
theorem turns_ok (l : Int) : 1 ≤ (if (if l < 3 then l else 3) > 1 then (if l < 3 then l else 3) else 1) ∧ (if (if l < 3 then l else 3) > 1 then (if l < 3 then l else 3) else 1) ≤ 3 := by
  by_cases h : l < 3
  · rw [if_pos h]
    by_cases h2 : l > 1
    · rw [if_pos h2]; omega
    · rw [if_neg h2]; omega
  · rw [if_neg h]
    decide
theorem seq_same {K : PySem.W.Frag} {H H' : Hp} {a : Addr} {xs : List V} (h : SqL K H a xs) (k : Same H H') : SqL K H' a xs := by
  rcases h with (h | ⟨o, h⟩) | h
  · exact .inl (.inl (k _ _ h))
  · exact .inl (.inr ⟨o, k _ _ h⟩)
  · exact .inr h
theorem potT3 : potT 3 = 850 := by decide
abbrev NgL : List Str := ["_law_script", "_law_k", "_law_pot_here", "_law_turn"]
theorem scLaw : FnScope NgL ["_law_script"] (defScope (top 45)) := ⟨rfl, rfl, rfl, by decide +kernel, rfl, by decide +kernel, by decide +kernel⟩
def spLaw (K : PySem.W.Frag) : Sp := fun vs H Q _ => ∃ (a : Addr) (ns : List Int), vs = [.ref a] ∧ SqL K H a (ns.map V.int) ∧ ns.length ≤ 63 ∧ ∀ H', Q (.bl true) H'
section
variable {P : Program} {w : World} {K : PySem.W.Frag} {mg : Str → Option Value} {base : Heap} {f fP fR : Addr} {fd dP dR : FuncData}
theorem ok_law (F : FnD K "law" 45 f fd) (B : Bl mg)
    (GP : FnOk P w K mg base CX0 1 fP dP ["_law_script", "_law_k"] (spPot K)) (bP : Binds K dP ["_law_script", "_law_k"] []) (kP : PySem.W.keepIn K (.ref fP) = true) (gP : mg "_law_pot" = some (.ref fP))
    (GR : FnG P w K mg base 8 fR dR ["_law_pot_here"] spRight) (bR : Binds K dR ["_law_pot_here"] []) (kR : PySem.W.keepIn K (.ref fR) = true) (gR : mg "_law_right" = some (.ref fR)) :
    FnG P w K mg base 9 f fd ["_law_script"] (spLaw K) := by
  refine fnG_of F scLaw (fun vs H Q E h => ?_) (fun cdv A outer s H vs Q E hgd hr h => ?_)
  · obtain ⟨a, ns, rfl, _⟩ := h
    rfl
  obtain ⟨a, ns, rfl, hS, hn, q⟩ := h
  have hr8 : Room 8 _ := hr
  have hr1 : Room 1 _ := hr.mono (by decide)
  refine ⟨_, PSs.nox (pss_cons (ps_for PassesOwn.never rfl (pi_range1 (by rfl) B.range (pa_cons (pe_callB (call_max2 rfl) (by rfl) B.max (by decide +kernel) (pa_cons pe_int (pa_cons (pe_callB (call_min2 rfl) (by rfl) B.min (by decide +kernel)
          (pa_cons pe_int (pa_cons (pe_callB call_len_seq (by rfl) B.len PySem.boot_len (pa_cons (pv 0) pa_nil)) pa_nil))) pa_nil))) pa_nil))
        (pg_name (i := 1) scLaw.nd rfl (Or.inl rfl))
      (pss_cons (ps_set (i := 2) scLaw.nd rfl (by first | exact Or.inl rfl | exact Or.inr rfl) (pe_call GP hr1 rfl gP kP bP .nil pass0 (pa_cons (pv 0) (pa_cons (pv 1) pa_nil))))
      (pss_one (ps_if (pt_not (pt_val (pe_callB (cr_all rfl) (by rfl) B.all (by decide +kernel) (pa_cons
          (pe_lc (own := [("_law_turn", 3)]) (g := gName 3) (tt := tYes) rfl scLaw.nd (pi_range1 (by rfl) B.range (pa_cons pe_int pa_nil)) (blkOk_by (N := NgL) (sc := defScope (top 45)) (by decide +kernel))
            (fun _ _ _ _ _ => pg_name (i := 3) scLaw.nd rfl (Or.inl rfl)) (fun _ _ _ _ _ => pts_nil) (fun _ _ _ _ _ => pe_callG GR hgd hr8 gR kR bR (pa_cons (pv 2) pa_nil))) pa_nil))))
        (pss_one (ps_ret pe_bl)) pss_nil))))
    (pss_one (ps_ret pe_bl))), ?_⟩
  have jb := turns_ok (((ns.map V.int).length : Nat) : Int)
  refine ⟨_, rfl, a, _, rfl, .inl hS, 3, _, rfl, 1, _, rfl, _, rfl, by omega, by omega, ?_⟩
  generalize (if (if (((ns.map V.int).length : Nat) : Int) < 3 then (((ns.map V.int).length : Nat) : Int) else 3) > 1 then (if (((ns.map V.int).length : Nat) : Int) < 3 then (((ns.map V.int).length : Nat) : Int) else 3) else 1) = j at jb
  refine for_range (lo := 0) (n := j.toNat) (fun _ σ H1 => (∃ kv pv' tv : Option V, σ = [some (.ref a), kv, pv', tv]) ∧ Same H H1) ⟨⟨_, _, _, rfl⟩, same_refl H⟩ ?turn ?after
  case after =>
    rintro σ H1 ⟨⟨kv, pv', tv, rfl⟩, k1⟩
    exact q H1
  rintro i σ H1 hi ⟨⟨kv, pv', tv, rfl⟩, k1⟩
  refine ⟨_, rfl, _, rfl, a, ns, 0 + (i : Int), rfl, seq_same hS k1, by omega, by omega, fun p H2 k2 hpn hp => ?_⟩
  obtain ⟨ys, hys⟩ := hp.lst
  refine ⟨10, rfl, by decide, by decide, fun D hD => ?_⟩
  have nDp : D ≠ p := fun e => by
    rw [e, hys] at hD
    cases hD
  refine lc_range (lo := 0) (n := 10) (fun t H3 => Ch p H2 H3 ∧ PotAt H3 p (850 * t) ∧ H3 D = some (.lst (List.replicate t (.bl true)))) ⟨Ch.same (same_new hD _), hp.same (same_new hD _), upd_same⟩ ?_ ?_
  · rintro t H3 ht ⟨k3, hp3, hD3⟩
    refine ⟨rfl, ?_⟩
    simp only [tYes, if_true]
    refine ⟨_, rfl, p, 850 * t, rfl, hp3, by rw [potT3]; omega, fun H4 k4 hp4 => ⟨_, k4 _ _ nDp hD3, K00.small1000 (by rw [List.length_replicate]; omega), fun b o nb e => ?_, ?_, ?_⟩⟩
    · rw [upd_ne (ne_of_none e hD)]
      exact k4 _ _ nb (k3 _ _ nb e)
    · rw [potT3] at hp4
      obtain ⟨x1, x2, x3, e1, e2, e3, e4, e5⟩ := hp4
      exact ⟨x1, x2, x3, by rw [upd_ne (Ne.symm nDp)]; exact e1, e2, e3, e4, by omega⟩
    · rw [upd_same, List.replicate_succ']
  rintro H3 ⟨k3, hp3, hD3⟩
  refine ⟨D, List.replicate 10 true, rfl, SqL.of hD3, _, rfl, iteF ?_⟩
  refine ⟨⟨_, _, _, rfl⟩, fun b o e => ?_⟩
  have e1 := k1 _ _ e
  exact k3 _ _ (ne_of_none e1 hpn) (k2 _ _ e1)
end
end K87
set_option Elab.async false
set_option linter.all false
set_option maxRecDepth 100000
set_option maxHeartbeats 4000000
/-! G87ZB: the end of a law whose def keeps a promise outside of every repr. -/
namespace K87
open PySem PySem.Spec L2 K00
open PyProof.Rows (IntsAre AllBare)
section
variable {P : Program} {w : World} {K : PySem.W.Frag} {mg mb : Str → Option Value} {k : Nat} {fa a : Addr} {fd : FuncData} {x : Str} {sp : Sp} {s : Shared} {vs : List Value} {ns : List Int}
abbrev lobj (vs : List Value) : Obj := { cls := .type "list", data := .seq vs.toArray }
def EndOk (h : Heap) (os : OsState) (r : Result) (s' : Shared) : Prop := r = .ok (.ret (.bool true)) ∧ OldK h s'.heap ∧ s'.os = os ∧ AllBare s'.gens
/-- what stands behind the top, seen from an abstract heap that tracks the script at most -/
theorem core_call (KX : K.In s.heap) (hns : s.heap.Ns mainGlobals mg) (hb : s.heap.Ns builtinsNs mb) (hbb : ∀ y : Str, y ≠ "__name__" → mb y = bootBuiltins y) (hlim : s.heap.NoLimit) (hg : s.gens = #[])
    (ha : s.heap.get? a = some (lobj vs)) (hr : Room k callerA)
    (F : ∀ base : Heap, K.In base → base.Ns mainGlobals mg → FnG P w K mg base k fa fd [x] sp) (hbind : ∀ (s : Shared) (u : Value), BindsTo s fd ⟨[u], []⟩ [(x, u)])
    {H : Hp} (hO : Only H) (hok : HOk P w H s.heap) (hA : ∀ b, H b ≠ none → b = a) (hK : H a ≠ none → K.lookup a = none)
    (hsp : sp [.ref a] H (fun v _ => v = .bl true) fun _ _ _ => False) :
    codeAny (model P w) callerA (.call (.ref fa) ⟨[.ref a], []⟩) (EndOk s.heap s.os) s := by
  have noDict : ∀ {b : Addr} {o : Obj} {es : Array DictEntry} {ep : Nat}, s.heap.get? b = some o → o.data = .dict es ep → H b = none := by
    intro b o es ep e d
    refine Classical.byContradiction fun q => ?_
    have eb := hA b q
    rw [eb, ha] at e
    rw [← Option.some.inj e] at d
    cases d
  have names : ∀ {b : Addr} {m : Str → Option Value}, s.heap.Ns b m → (hidT s.heap H).Ns b m := by
    rintro b m ⟨o, es, ep, e, d, r⟩
    exact ⟨o, es, ep, hidT_get e (noDict e d), d, r⟩
  have kin : K.In (hidT s.heap H) := by
    intro b o e
    refine hidT_get (KX b o e) (Classical.byContradiction fun q => ?_)
    have eb := hA b q
    subst eb
    have n := hK q
    rw [e] at n
    cases n
  obtain ⟨mc, l1, l2⟩ := hlim
  have env : Env0 P w K mg (hidT s.heap H) callerA [] s H :=
    { frames := rfl, mod := ⟨kin, names hns, ⟨mb, names hb, hbb⟩, ⟨mc, names l1, l2⟩⟩, bs := fun b o e => of_hidT e, bsz := Nat.le_of_eq (hidT_size _ _), funs := trivial,
      frf := (fun b z => nomatch z), hok := hok, bare := PyProof.Rows.AllBare.of_eq hg }
  refine codeAny_mono ((F _ kin (names hns)).run callerA [] s H ⟨[.ref a], []⟩ [.ref a] [.ref a] _ _ rfl hr env (hbind s (.ref a)) (.cons rfl .nil) hsp) ?_
  intro r s' h
  match r, h with
  | .error e, h => exact h.elim
  | .ok .next, h => exact h.elim
  | .ok .brk, h => exact h.elim
  | .ok .cont, h => exact h.elim
  | .ok (.ret u), ⟨v, H', os, bare, un, hok', rv, q⟩ =>
    have q' : v = .bl true := q
    subst q'
    have eu : u = Value.bool true := rv
    subst eu
    refine ⟨rfl, OldK.of_keep ?_, os, bare⟩
    intro b o e
    rcases hO b with z | ⟨ob, xs, z⟩
    · exact un.keep b o e z (by intro q; cases q) (by intro q; cases q)
    · obtain ⟨e1, _⟩ := hok b _ z
      obtain ⟨e2, _⟩ := hok' b _ (un.frzs b ob _ z)
      exact e2.trans (e1.symm.trans e)
theorem law_callG (KX : K.In s.heap) (hns : s.heap.Ns mainGlobals mg) (hb : s.heap.Ns builtinsNs mb) (hbb : ∀ y : Str, y ≠ "__name__" → mb y = bootBuiltins y) (hlim : s.heap.NoLimit) (hg : s.gens = #[])
    (ha : s.heap.get? a = some (lobj vs)) (hi : IntsAre vs ns) (hl : ns.length ≤ sizeLine) (hr : Room k callerA)
    (F : ∀ base : Heap, K.In base → base.Ns mainGlobals mg → FnG P w K mg base k fa fd [x] sp) (hbind : ∀ (s : Shared) (u : Value), BindsTo s fd ⟨[u], []⟩ [(x, u)])
    (hsp : ∀ H : Hp, SqL K H a (ns.map V.int) → sp [.ref a] H (fun v _ => v = .bl true) fun _ _ _ => False) :
    codeAny (model P w) callerA (.call (.ref fa) ⟨[.ref a], []⟩) (EndOk s.heap s.os) s := by
  have rv := vals_ints hi
  by_cases hk : K.lookup a = none
  · let H : Hp := fun b => if b = a then some (.frz (lobj vs) (.lst (ns.map V.int))) else none
    have Ha : H a = some (.frz (lobj vs) (.lst (ns.map V.int))) := if_pos rfl
    have Hn : ∀ {b}, b ≠ a → H b = none := fun h => if_neg h
    have only : ∀ b, H b ≠ none → b = a := fun b q => Classical.byContradiction fun n => q (Hn n)
    refine core_call KX hns hb hbb hlim hg ha hr F hbind (H := H) (fun b => ?_) (fun b u z => ?_) only (fun _ => hk) (hsp H (.inl (.inr ⟨_, Ha⟩)))
    · by_cases e : b = a
      · exact .inr ⟨_, _, e ▸ Ha⟩
      · exact .inl (Hn e)
    · have e := only b (by rw [z]; exact fun q => nomatch q)
      subst e
      rw [Ha] at z
      cases z
      exact ⟨ha, by rw [List.length_map]; exact hl, vs, _, rv, ha⟩
  · obtain ⟨o, ho⟩ := Option.ne_none_iff_exists'.mp hk
    have e := KX a o ho
    rw [ha] at e
    cases e
    refine core_call KX hns hb hbb hlim hg ha hr F hbind (H := fun _ => none) (fun _ => .inl rfl) (fun b u z => nomatch z) (fun b z => absurd rfl z) (fun z => absurd rfl z)
      (hsp _ (.inr ⟨_, vs.toArray, _, ho, rfl, rfl, rfl, ?_, by simpa using rv⟩))
    rw [List.size_toArray, ← rv.length, List.length_map]
    exact hl
end
theorem walkG {l : PySem.W.OpenLaw} {n k : Nat} {q : Program} {loose : List Str} {XP : (Str → Option Value) → Heap → Prop} {YP : World → Heap → Prop} {d : DefRec} {x : Str}
    (hn : l.most = some n) (hn2 : n ≤ sizeLine) (hdf : d.params.defaults = []) (hr : Room k callerA)
    (F : ∀ (w : World) (mg : Str → Option Value) (fa : Addr) (h : Heap), YP w h → h.Ns mainGlobals mg → mg d.name = some (.ref fa) →
      ∃ (K : PySem.W.Frag) (fd : FuncData) (sp : Sp), K.In h ∧ (∀ (s : Shared) (u : Value), BindsTo s fd ⟨[u], []⟩ [(x, u)]) ∧
        (∀ (H : Hp) (a : Addr) (ns : List Int), ns.length ≤ n → SqL K H a (ns.map V.int) → sp [.ref a] H (fun v _ => v = .bl true) fun _ _ _ => False) ∧
        ∀ base : Heap, K.In base → base.Ns mainGlobals mg → FnG l.prog w K mg base k fa fd [x] sp) :
    PySem.W.WalkO q loose XP YP l.row.toRowW d [] (fun f vs => PySem.call f vs) := by
  refine Att.attach_call hn hdf ?_
  intro w s₀ s₁ mg mb fa o pm cd doc a vs ns G Y ho hd hcd hmg hobj hints hlen hg
  obtain ⟨K, fd, sp, KX, hb, hsp, hF⟩ := F w mg fa _ Y G.T.g hmg
  exact law_callG KX G.T.g G.T.b G.T.builtins G.T.nolimit hg hobj hints (Nat.le_trans hlen hn2) hr hF hb fun H hS => hsp H a ns hlen hS
end K87
set_option Elab.async false
set_option linter.all false
set_option maxRecDepth 100000
set_option maxHeartbeats 8000000
/-! G87ZC: what the head's look tells. -/
namespace K00
open PySem PySem.Spec L2
theorem eqB_ok {α : Type} [DecidableEq α] {a b : α} (h : eqB a b = true) : a = b := of_decide_eq_true h
theorem cls_of {K : PySem.W.Frag} {C : Addr} (h : clsB K C = true) :
    ∃ nm q N bs bm sn sub ab col dd k0 k1 k2 k3 k5, K.lookup C = some (excClassObj nm q C N bs bm true sn sub ab col dd k0 k1 k2 k3 k5 "ValueError.__new__") ∧ PySem.HandSPX.refsVE bm = true := by
  unfold clsB at h
  split at h
  · rename_i t dd cd sl ho
    split at h
    · rename_i C' bm k0 k1 k2 k3 n k5 hm hs
      obtain ⟨h1, h⟩ := He.ba h
      obtain ⟨h2, h⟩ := He.ba h
      obtain ⟨h3, h⟩ := He.ba h
      obtain ⟨h4, h⟩ := He.ba h
      obtain ⟨h5, h6⟩ := He.ba h
      have e1 := eqB_ok h1
      have e2 : C' = C := beq_iff_eq.mp h2
      have e3 : n = "ValueError.__new__" := beq_iff_eq.mp h3
      subst e1 e2 e3
      obtain ⟨nm, bs, mro, ns, qn, hd, sn, sub, ab, col, del⟩ := cd
      simp only at hm
      simp only [Bool.not_eq_true'] at h4
      have h5' : hd = true := h5
      subst hm h5'
      have h4' : del = false := h4
      subst h4'
      obtain ⟨l⟩ := sl
      simp only at hs
      subst hs
      exact ⟨nm, qn, ns, bs, bm, sn, sub, ab, col, dd, k0, k1, k2, k3, k5, ho, h6⟩
    · cases h
  · cases h
theorem errT_of {K : PySem.W.Frag} {x : Str} (h : errB K x = true) : ErrT K (He.ga K x) (fI K) ∧ PySem.W.nsIn K mainGlobals x = some (some (.ref (He.ga K x))) := by
  unfold errB at h
  obtain ⟨a1, h⟩ := He.ba h
  obtain ⟨a2, h⟩ := He.ba h
  obtain ⟨a3, h⟩ := He.ba h
  obtain ⟨a4, h⟩ := He.ba h
  obtain ⟨a5, h⟩ := He.ba h
  obtain ⟨a6, h⟩ := He.ba h
  obtain ⟨a7, h⟩ := He.ba h
  obtain ⟨a8, h⟩ := He.ba h
  obtain ⟨a9, h⟩ := He.ba h
  obtain ⟨a10, h⟩ := He.ba h
  obtain ⟨a11, h⟩ := He.ba h
  obtain ⟨a12, a13⟩ := He.ba h
  exact ⟨{ cls := cls_of a2, sa := He.eqO_ok a3, ga := He.eqO_ok a4, gg := He.eqO_ok a5, noN := He.eqO_ok a6, iC := He.eqO_ok a7, cl := He.eqO_ok a8, kC := a9, exC := eqB_ok a10, tyC := eqB_ok a11, hdC := a12, ob := eqB_ok a13 }, He.eqO_ok a1⟩
end K00
namespace K87
open PySem PySem.Spec L2 K00 TL
section
variable {P : Program} {w : World} {K : PySem.W.Frag} {mg : Str → Option Value} {base : Heap} {f : Addr} {fd : FuncData}
theorem fn_no {k : Nat} {ps : List Str} {sp : Sp} (h : ∀ vs H Q E, sp vs H Q E → False) : FnOk P w K mg base CX0 k f fd ps sp := ⟨fun vs H Q E z => (h _ _ _ _ z).elim, fun _ _ _ _ _ _ _ _ _ _ _ _ _ z => (h _ _ _ _ z).elim⟩
theorem fn_imp {k : Nat} {ps : List Str} {sp sp' : Sp} (h : ∀ vs H Q E, sp' vs H Q E → sp vs H Q E) (F : FnOk P w K mg base CX0 k f fd ps sp) : FnOk P w K mg base CX0 k f fd ps sp' := by
  obtain ⟨l, r⟩ := F
  exact ⟨fun vs H Q E z => l vs H Q E (h _ _ _ _ z), fun A outer s H args us vs Q E a b c d z => r A outer s H args us vs Q E a b c d (h _ _ _ _ z)⟩
end
theorem key_strW {P : Params} {ks : List Str} {e : DictEntry} : ∀ {l : List DictEntry}, l.map He.keyOf = He.keysIn P ks → e ∈ l → ∃ k t, k ∈ ks ∧ e.key = .str k t := fun {l} h he => by
  have m : He.keyOf e ∈ He.keysIn P ks := by
    rw [← h]
    exact List.mem_map_of_mem he
  obtain ⟨k, hk, ek⟩ := List.mem_map.mp (show He.keyOf e ∈ ks.map fun k => some (k, PyData.keyHash P k) from m)
  unfold He.keyOf at ek
  split at ek
  · rename_i z t hz
    have e2 := (Prod.mk.inj (Option.some.inj ek)).1
    exact ⟨z, t, by rw [← e2]; exact hk, hz⟩
  · cases ek
theorem wd_of {K : PySem.W.Frag} {w : World} {mg : Str → Option Value} (g : mg "WORDS" = some (.ref (He.ga K "WORDS"))) (h : wdB K = true) (e : He.dicW K (He.ga K "WORDS") = some (He.keysIn w.params wdT)) : WdK K w mg (He.ga K "WORDS") := by
  unfold wdB at h
  obtain ⟨h1, h⟩ := He.ba h
  obtain ⟨h2, h3⟩ := He.ba h
  refine ⟨g, He.dicW_ok e, eqB_ok h1, eqB_ok h2, eqB_ok h3, fun z hz => ?_⟩
  unfold He.dicW at e
  unfold PySem.W.nsIn
  cases q : K.lookup (He.ga K "WORDS") with
  | none =>
    rw [q] at e
    cases e
  | some o =>
    obtain ⟨oc, od, dt, osl⟩ := o
    rw [q] at e
    cases oc with
    | type c =>
      cases od with
      | none =>
        cases dt with
        | dict es n =>
          simp only at e ⊢
          split at e
          · have e1 := Option.some.inj e
            have no : es.toList.find? (fun x => x.key.isStr z) = none := List.find?_eq_none.mpr fun y hy => by
              obtain ⟨k, t, hk, ek⟩ := key_strW e1 hy
              rw [ek]
              show ¬ (k == z) = true
              intro y2
              have y3 : k = z := beq_iff_eq.mp y2
              rw [y3] at hk
              exact hz hk
            have nr : es.toList.any (fun x => x.refKey) = false := List.any_eq_false.mpr fun y hy => by
              obtain ⟨k, t, hk, ek⟩ := key_strW e1 hy
              unfold DictEntry.refKey
              rw [ek]
              simp
            rw [no]
            simp only
            rw [nr]
            rfl
          · cases e
        | _ => cases e
      | some _ => cases e
    | _ => cases e
section
variable {P : Program} {w : World} {K : PySem.W.Frag} {h : Heap} {mg : Str → Option Value} {f : Addr}
theorem facts (X : K.In h) (G : h.Ns mainGlobals mg) (hfa : mg ("law" : Str) = some (.ref f)) (c : Says h w K) :
    ∃ fd : FuncData, (∀ (s : Shared) (v : Value), BindsTo s fd ⟨[v], []⟩ [("_law_script", v)]) ∧ ∀ base : Heap, K.In base → base.Ns mainGlobals mg → FnG P w K mg base 9 f fd ["_law_script"] (spLaw K) := by
  have cs := c.d
  have ck := c.ck
  unfold ckB at ck
  obtain ⟨b0, ck⟩ := He.ba ck
  obtain ⟨b1, ck⟩ := He.ba ck
  obtain ⟨b2, ck⟩ := He.ba ck
  obtain ⟨b3, ck⟩ := He.ba ck
  obtain ⟨b4, ck⟩ := He.ba ck
  obtain ⟨b5, ck⟩ := He.ba ck
  obtain ⟨b6, ck⟩ := He.ba ck
  obtain ⟨b7, b8⟩ := He.ba ck
  have hnd : ("NoDocument" : Str) ∈ errs := by decide +kernel
  obtain ⟨TE, gE⟩ := errT_of (List.all_eq_true.mp b1 _ hnd)
  have gE := PySem.W.mg_of X G gE
  obtain ⟨fdI, FI⟩ := cs.def_ 33 rfl
  have II : InitT K (fI K) := by
    refine ⟨eqB_ok b4, eqB_ok b6, eqB_ok b7, ?_⟩
    obtain ⟨oc, od, dV, kV, doc, pm, an, cdv, ct, osl, rfl, lk, hcd, hd, _⟩ := FI.ex
    rcases hd with ⟨_, rfl⟩ | ⟨n, _⟩
    · exact ⟨oc, od, doc, pm, an, cdv, ct, osl, _, _, _, _, _, _, kV, lk, hcd⟩
    · exact absurd rfl n
  have SY : SysD K := by
    split at b8
    · rename_i t dd od sl ho
      exact ⟨_, ho, congrArg Value.type (eqB_ok b8)⟩
    · cases b8
  have fr : ∀ (i : Nat) (x : Str), fa[i]? = some (.free x) → mg x = none := fun i x e => He.free_ok X G (cs.fact i e)
  have gl : ∀ (i : Nat) (x : Str), fa[i]? = some (.glo x) → mg x = some (.ref (He.ga K x)) := fun i x e => He.glo_ok X G (cs.fact i e)
  have B : Bl mg := ⟨fr 33 _ rfl, fr 34 _ rfl, fr 35 _ rfl, fr 36 _ rfl, fr 37 _ rfl, fr 38 _ rfl, fr 39 _ rfl, fr 40 _ rfl, fr 41 _ rfl, fr 42 _ rfl, fr 43 _ rfl, fr 44 _ rfl, fr 45 _ rfl, fr 46 _ rfl, fr 47 _ rfl, fr 48 _ rfl, fr 49 _ rfl, fr 50 _ rfl⟩
  have hrev : mg "reversed" = none := fr 51 _ rfl
  obtain ⟨t1, gLet⟩ := He.str_ok X G (cs.fact 52 (f := .str "LETTERS" "abcdefghijklmnopqrstuvwxyz") rfl)
  obtain ⟨t2, gLon⟩ := He.int_ok X G (cs.fact 53 (f := .int "LONGEST_NAME" 8) rfl)
  obtain ⟨t3, gDig⟩ := He.str_ok X G (cs.fact 54 (f := .str "DIGITS" "0123456789") rfl)
  obtain ⟨t4, gMk⟩ := He.str_ok X G (cs.fact 55 (f := .str "MARKS" "[]{},: ") rfl)
  have WD := wd_of (gl 56 "WORDS" rfl) b0 c.ch
  obtain ⟨d0, F0⟩ : ∃ fd, FnD K "is_name" 7 (He.ga K "is_name") fd := cs.def_ 0 rfl
  obtain ⟨d1, F1⟩ : ∃ fd, FnD K "sort_of" 8 (He.ga K "sort_of") fd := cs.def_ 1 rfl
  obtain ⟨d2, F2⟩ : ∃ fd, FnD K "inner_parts" 9 (He.ga K "inner_parts") fd := cs.def_ 2 rfl
  obtain ⟨d3, F3⟩ : ∃ fd, FnD K "parts_of" 10 (He.ga K "parts_of") fd := cs.def_ 3 rfl
  obtain ⟨d4, F4⟩ : ∃ fd, FnD K "is_document" 11 (He.ga K "is_document") fd := cs.def_ 4 rfl
  obtain ⟨d5, F5⟩ : ∃ fd, FnD K "alike" 12 (He.ga K "alike") fd := cs.def_ 5 rfl
  obtain ⟨d6, F6⟩ : ∃ fd, FnD K "paired_parts" 13 (He.ga K "paired_parts") fd := cs.def_ 6 rfl
  obtain ⟨d7, F7⟩ : ∃ fd, FnD K "same" 14 (He.ga K "same") fd := cs.def_ 7 rfl
  obtain ⟨d8, F8⟩ : ∃ fd, FnD K "check_document" 17 (He.ga K "check_document") fd := cs.def_ 8 rfl
  obtain ⟨d9, F9⟩ : ∃ fd, FnD K "leaf_text" 21 (He.ga K "leaf_text") fd := cs.def_ 9 rfl
  obtain ⟨d10, F10⟩ : ∃ fd, FnD K "outer_text" 22 (He.ga K "outer_text") fd := cs.def_ 10 rfl
  obtain ⟨d11, F11⟩ : ∃ fd, FnD K "text_of" 23 (He.ga K "text_of") fd := cs.def_ 11 rfl
  obtain ⟨d12, F12⟩ : ∃ fd, FnD K "show_document" 24 (He.ga K "show_document") fd := cs.def_ 12 rfl
  obtain ⟨d13, F13⟩ : ∃ fd, FnD K "string_end" 25 (He.ga K "string_end") fd := cs.def_ 13 rfl
  obtain ⟨d14, F14⟩ : ∃ fd, FnD K "token_end" 26 (He.ga K "token_end") fd := cs.def_ 14 rfl
  obtain ⟨d15, F15⟩ : ∃ fd, FnD K "tokens_of" 27 (He.ga K "tokens_of") fd := cs.def_ 15 rfl
  obtain ⟨d16, F16⟩ : ∃ fd, FnD K "unquoted" 28 (He.ga K "unquoted") fd := cs.def_ 16 rfl
  obtain ⟨d17, F17⟩ : ∃ fd, FnD K "leaves_in" 29 (He.ga K "leaves_in") fd := cs.def_ 17 rfl
  obtain ⟨d18, F18⟩ : ∃ fd, FnD K "wholes_in" 30 (He.ga K "wholes_in") fd := cs.def_ 18 rfl
  obtain ⟨d19, F19⟩ : ∃ fd, FnD K "read_loosely" 31 (He.ga K "read_loosely") fd := cs.def_ 19 rfl
  obtain ⟨d20, F20⟩ : ∃ fd, FnD K "documents_in" 32 (He.ga K "documents_in") fd := cs.def_ 20 rfl
  obtain ⟨d21, F21⟩ : ∃ fd, FnD K "read_document" 33 (He.ga K "read_document") fd := cs.def_ 21 rfl
  obtain ⟨d22, F22⟩ : ∃ fd, FnD K "_law_pot" 35 (He.ga K "_law_pot") fd := cs.def_ 22 rfl
  obtain ⟨d23, F23⟩ : ∃ fd, FnD K "_law_take" 36 (He.ga K "_law_take") fd := cs.def_ 23 rfl
  obtain ⟨d24, F24⟩ : ∃ fd, FnD K "_law_of" 37 (He.ga K "_law_of") fd := cs.def_ 24 rfl
  obtain ⟨d25, F25⟩ : ∃ fd, FnD K "_law_unlike" 38 (He.ga K "_law_unlike") fd := cs.def_ 25 rfl
  obtain ⟨d26, F26⟩ : ∃ fd, FnD K "_law_flat" 39 (He.ga K "_law_flat") fd := cs.def_ 26 rfl
  obtain ⟨d27, F27⟩ : ∃ fd, FnD K "_law_writ" 40 (He.ga K "_law_writ") fd := cs.def_ 27 rfl
  obtain ⟨d28, F28⟩ : ∃ fd, FnD K "_law_strange" 41 (He.ga K "_law_strange") fd := cs.def_ 28 rfl
  obtain ⟨d29, F29⟩ : ∃ fd, FnD K "_law_thing" 42 (He.ga K "_law_thing") fd := cs.def_ 29 rfl
  obtain ⟨d30, F30⟩ : ∃ fd, FnD K "_law_turned" 43 (He.ga K "_law_turned") fd := cs.def_ 30 rfl
  obtain ⟨d31, F31⟩ : ∃ fd, FnD K "_law_right" 44 (He.ga K "_law_right") fd := cs.def_ 31 rfl
  obtain ⟨d32, F32⟩ : ∃ fd, FnD K "law" 45 (He.ga K "law") fd := cs.def_ 32 rfl
  have e := hfa.symm.trans (gl 32 "law" rfl)
  cases e
  have k0 : Binds K d0 ["value"] [] := F0.bindsN fun _ _ _ _ _ _ us hl => match us, hl with | [_], _ => rfl
  have k1 : Binds K d1 ["value"] [] := F1.bindsN fun _ _ _ _ _ _ us hl => match us, hl with | [_], _ => rfl
  have k2 : Binds K d2 ["value"] [] := F2.bindsN fun _ _ _ _ _ _ us hl => match us, hl with | [_], _ => rfl
  have k3 : Binds K d3 ["value"] [] := F3.bindsN fun _ _ _ _ _ _ us hl => match us, hl with | [_], _ => rfl
  have k4 : Binds K d4 ["value"] [] := F4.bindsN fun _ _ _ _ _ _ us hl => match us, hl with | [_], _ => rfl
  have k5 : Binds K d5 ["one", "other"] [] := F5.bindsN fun _ _ _ _ _ _ us hl => match us, hl with | [_, _], _ => rfl
  have k6 : Binds K d6 ["one", "other"] [] := F6.bindsN fun _ _ _ _ _ _ us hl => match us, hl with | [_, _], _ => rfl
  have k7 : Binds K d7 ["one", "other"] [] := F7.bindsN fun _ _ _ _ _ _ us hl => match us, hl with | [_, _], _ => rfl
  have k8 : Binds K d8 ["document"] [] := F8.bindsN fun _ _ _ _ _ _ us hl => match us, hl with | [_], _ => rfl
  have k9 : Binds K d9 ["leaf"] [] := F9.bindsN fun _ _ _ _ _ _ us hl => match us, hl with | [_], _ => rfl
  have k10 : Binds K d10 ["part", "inner"] [] := F10.bindsN fun _ _ _ _ _ _ us hl => match us, hl with | [_, _], _ => rfl
  have k11 : Binds K d11 ["document"] [] := F11.bindsN fun _ _ _ _ _ _ us hl => match us, hl with | [_], _ => rfl
  have k12 : Binds K d12 ["document"] [] := F12.bindsN fun _ _ _ _ _ _ us hl => match us, hl with | [_], _ => rfl
  have k13 : Binds K d13 ["text", "at"] [] := F13.bindsN fun _ _ _ _ _ _ us hl => match us, hl with | [_, _], _ => rfl
  have k14 : Binds K d14 ["text", "at"] [] := F14.bindsN fun _ _ _ _ _ _ us hl => match us, hl with | [_, _], _ => rfl
  have k15 : Binds K d15 ["text"] [] := F15.bindsN fun _ _ _ _ _ _ us hl => match us, hl with | [_], _ => rfl
  have k16 : Binds K d16 ["token"] [] := F16.bindsN fun _ _ _ _ _ _ us hl => match us, hl with | [_], _ => rfl
  have k17 : Binds K d17 ["token"] [] := F17.bindsN fun _ _ _ _ _ _ us hl => match us, hl with | [_], _ => rfl
  have k18 : Binds K d18 ["frame", "token"] [] := F18.bindsN fun _ _ _ _ _ _ us hl => match us, hl with | [_, _], _ => rfl
  have k19 : Binds K d19 ["text"] [] := F19.bindsN fun _ _ _ _ _ _ us hl => match us, hl with | [_], _ => rfl
  have k20 : Binds K d20 ["text"] [] := F20.bindsN fun _ _ _ _ _ _ us hl => match us, hl with | [_], _ => rfl
  have k21 : Binds K d21 ["text"] [] := F21.bindsN fun _ _ _ _ _ _ us hl => match us, hl with | [_], _ => rfl
  have k22 : Binds K d22 ["_law_script", "_law_k"] [] := F22.bindsN fun _ _ _ _ _ _ us hl => match us, hl with | [_, _], _ => rfl
  have k23 : Binds K d23 ["_law_pot_here", "_law_upto"] [] := F23.bindsN fun _ _ _ _ _ _ us hl => match us, hl with | [_, _], _ => rfl
  have k24 : Binds K d24 ["_law_pot_here", "_law_some"] [] := F24.bindsN fun _ _ _ _ _ _ us hl => match us, hl with | [_, _], _ => rfl
  have k25 : Binds K d25 ["_law_pot_here", "_law_some", "_law_many"] [] := F25.bindsN fun _ _ _ _ _ _ us hl => match us, hl with | [_, _, _], _ => rfl
  have k26 : Binds K d26 ["_law_pot_here"] [] := F26.bindsN fun _ _ _ _ _ _ us hl => match us, hl with | [_], _ => rfl
  have k27 : Binds K d27 ["_law_document"] [] := F27.bindsN fun _ _ _ _ _ _ us hl => match us, hl with | [_], _ => rfl
  have k28 : Binds K d28 ["_law_pot_here"] [] := F28.bindsN fun _ _ _ _ _ _ us hl => match us, hl with | [_], _ => rfl
  have k29 : Binds K d29 ["_law_pot_here", "_law_deep"] [] := F29.bindsN fun _ _ _ _ _ _ us hl => match us, hl with | [_, _], _ => rfl
  have k30 : Binds K d30 ["_law_document"] [] := F30.bindsN fun _ _ _ _ _ _ us hl => match us, hl with | [_], _ => rfl
  have k31 : Binds K d31 ["_law_pot_here"] [] := F31.bindsN fun _ _ _ _ _ _ us hl => match us, hl with | [_], _ => rfl
  have k32 := FunD.bindsA (ps := ["_law_script"]) F32 fun _ _ _ _ _ _ us hl => match us, hl with | [_], _ => rfl
  refine ⟨d32, fun s v => k32 s [v] rfl, fun base _ _ => ?_⟩
  have G0 : FnOk P w K mg base CX0 1 _ d0 ["value"] (spName P w) := ok_name F0 B gLet gLon
  have G1 : FnOk P w K mg base CX0 2 _ d1 ["value"] (spSort P w) := ok_sort F1 B G0 k0 F0.kp (gl 0 "is_name" rfl)
  have G2 : FnOk P w K mg base CX0 1 _ d2 ["value"] (spInner P w) := ok_inner F2 B
  have G3 : FnOk P w K mg base CX0 2 _ d3 ["value"] (spParts P w) := ok_parts F3 B G2 k2 F2.kp (gl 2 "inner_parts" rfl)
  have G3b : FnOk P w K mg base CX0 2 _ d3 ["value"] (spParts7 P w) := ok_parts7 F3 B G2 k2 F2.kp (gl 2 "inner_parts" rfl)
  have G4 : FnOk P w K mg base CX0 3 _ d4 ["value"] (spIsDoc P w) := ok_isdoc F4 B G3 k3 F3.kp (gl 3 "parts_of" rfl) G1 k1 F1.kp (gl 1 "sort_of" rfl)
  have G5 : FnOk P w K mg base CX0 3 _ d5 ["one", "other"] (spAlike P w) := ok_alike F5 B G1 k1 F1.kp (gl 1 "sort_of" rfl)
  have G6 : FnOk P w K mg base CX0 1 _ d6 ["one", "other"] (spPaired P w) := ok_paired F6 B
  have G7 : FnOk P w K mg base (L2.CX P w) 4 _ d7 ["one", "other"] (spSame P w (He.ga K "NoDocument")) := ok_same F7 B G4 k4 F4.kp (gl 4 "is_document" rfl) G5 k5 F5.kp (gl 5 "alike" rfl) G6 k6 F6.kp (gl 6 "paired_parts" rfl) TE II gE
  have G8 : FnOk P w K mg base CX0 4 _ d8 ["document"] (spCheck P w) := ok_check F8 G4 k4 F4.kp (gl 4 "is_document" rfl)
  have G9 : FnOk P w K mg base CX0 1 _ d9 ["leaf"] (spLeaf P w) := ok_leaf F9 B
  have G10 : FnOk P w K mg base CX0 2 _ d10 ["part", "inner"] (spOuter P w) := ok_outer F10 B G9 k9 F9.kp (gl 9 "leaf_text" rfl)
  have G11 : FnOk P w K mg base CX0 3 _ d11 ["document"] (spText P w) := ok_text F11 B hrev G3b k3 F3.kp (gl 3 "parts_of" rfl) G2 k2 F2.kp (gl 2 "inner_parts" rfl) G10 k10 F10.kp (gl 10 "outer_text" rfl)
  have G12 : FnOk P w K mg base CX0 5 _ d12 ["document"] (spShow P w) := ok_show F12 G8 k8 F8.kp (gl 8 "check_document" rfl) G11 k11 F11.kp (gl 11 "text_of" rfl)
  have G13 : FnOk P w K mg base CX0 1 _ d13 ["text", "at"] spStrEnd := ok_strEnd F13 B
  have G14 : FnOk P w K mg base CX0 2 _ d14 ["text", "at"] spTokEnd := ok_tokEnd F14 B gMk G13 k13 F13.kp (gl 13 "string_end" rfl)
  have G15 : FnOk P w K mg base CX0 3 _ d15 ["text"] spTokens := ok_tokens F15 B G14 k14 F14.kp (gl 14 "token_end" rfl)
  have G16 : FnOk P w K mg base CX0 1 _ d16 ["token"] spUnq := ok_unq F16 B
  have G17 : FnOk P w K mg base CX0 2 _ d17 ["token"] (spLeaves P w) := ok_leaves F17 B gDig WD G16 k16 F16.kp (gl 16 "unquoted" rfl)
  have G18 : FnOk P w K mg base CX0 2 _ d18 ["frame", "token"] (spWhole P w) := ok_whole F18 B G0 k0 F0.kp (gl 0 "is_name" rfl)
  have G19 : FnOk P w K mg base CX0 4 _ d19 ["text"] (spLoose P w) := ok_loose F19 B G15 k15 F15.kp (gl 15 "tokens_of" rfl) G18 k18 F18.kp (gl 18 "wholes_in" rfl) G17 k17 F17.kp (gl 17 "leaves_in" rfl)
  have G20 : FnOk P w K mg base CX0 5 _ d20 ["text"] (spDocs P w) := ok_docs F20 B G19 k19 F19.kp (gl 19 "read_loosely" rfl) G11 k11 F11.kp (gl 11 "text_of" rfl)
  have G21 : FnOk P w K mg base CX0 6 _ d21 ["text"] (spRead P w) := ok_read F21 B G20 k20 F20.kp (gl 20 "documents_in" rfl)
  have G22 : FnOk P w K mg base CX0 1 _ d22 ["_law_script", "_law_k"] (spPot K) := ok_pot F22 B
  have G23 : FnOk P w K mg base CX0 1 _ d23 ["_law_pot_here", "_law_upto"] spTake := ok_take F23 B
  have G24 : FnOk P w K mg base CX0 2 _ d24 ["_law_pot_here", "_law_some"] K00.spOf := ok_of F24 B G23 k23 F23.kp (gl 23 "_law_take" rfl)
  have G25 : FnOk P w K mg base CX0 2 _ d25 ["_law_pot_here", "_law_some", "_law_many"] K00.spUnlike := ok_unlike F25 B G23 k23 F23.kp (gl 23 "_law_take" rfl)
  have G26 : FnOk P w K mg base CX0 3 _ d26 ["_law_pot_here"] (K00.spFlat P w) := ok_flat F26 G24 k24 F24.kp (gl 24 "_law_of" rfl)
  have G28 : FnOk P w K mg base CX0 3 _ d28 ["_law_pot_here"] (spStrange P w) := ok_strange F28 B G23 k23 F23.kp (gl 23 "_law_take" rfl) G24 k24 F24.kp (gl 24 "_law_of" rfl)
  have W0 : FnOk P w K mg base CX0 1 _ d27 ["_law_document"] (spWrit P w 0) := ok_writ (n := 0) F27 B (fn_no fun vs H Q E ⟨m, e, _⟩ => absurd e (Nat.succ_ne_zero m)) k27 (gl 27 "_law_writ" rfl)
  have W1 : FnOk P w K mg base CX0 2 _ d27 ["_law_document"] (spWrit P w 1) := ok_writ (n := 1) F27 B (fn_imp (fun vs H Q E ⟨m, e, z⟩ => by cases e; exact z) W0) k27 (gl 27 "_law_writ" rfl)
  have W2 : FnOk P w K mg base CX0 3 _ d27 ["_law_document"] (spWrit P w 2) := ok_writ (n := 2) F27 B (fn_imp (fun vs H Q E ⟨m, e, z⟩ => by cases e; exact z) W1) k27 (gl 27 "_law_writ" rfl)
  have W3 : FnOk P w K mg base CX0 4 _ d27 ["_law_document"] (spWrit P w 3) := ok_writ (n := 3) F27 B (fn_imp (fun vs H Q E ⟨m, e, z⟩ => by cases e; exact z) W2) k27 (gl 27 "_law_writ" rfl)
  have U0 : FnOk P w K mg base CX0 1 _ d30 ["_law_document"] (spTurned P w 0) := ok_turned (n := 0) F30 B (fn_no fun vs H Q E ⟨m, e, _⟩ => absurd e (Nat.succ_ne_zero m)) k30 (gl 30 "_law_turned" rfl)
  have U1 : FnOk P w K mg base CX0 2 _ d30 ["_law_document"] (spTurned P w 1) := ok_turned (n := 1) F30 B (fn_imp (fun vs H Q E ⟨m, e, z⟩ => by cases e; exact z) U0) k30 (gl 30 "_law_turned" rfl)
  have U2 : FnOk P w K mg base CX0 3 _ d30 ["_law_document"] (spTurned P w 2) := ok_turned (n := 2) F30 B (fn_imp (fun vs H Q E ⟨m, e, z⟩ => by cases e; exact z) U1) k30 (gl 30 "_law_turned" rfl)
  have U3 : FnOk P w K mg base CX0 4 _ d30 ["_law_document"] (spTurned P w 3) := ok_turned (n := 3) F30 B (fn_imp (fun vs H Q E ⟨m, e, z⟩ => by cases e; exact z) U2) k30 (gl 30 "_law_turned" rfl)
  have T0 : FnOk P w K mg base CX0 4 _ d29 ["_law_pot_here", "_law_deep"] (spThing P w 0) := ok_thing0 F29 B G26 k26 F26.kp (gl 26 "_law_flat" rfl) G28 k28 F28.kp (gl 28 "_law_strange" rfl) G23 k23 F23.kp (gl 23 "_law_take" rfl)
  have T1 : FnOk P w K mg base CX0 5 _ d29 ["_law_pot_here", "_law_deep"] (spThing P w 1) := ok_thingS (n := 0) F29 B G26 k26 F26.kp (gl 26 "_law_flat" rfl) G28 k28 F28.kp (gl 28 "_law_strange" rfl) G23 k23 F23.kp (gl 23 "_law_take" rfl) G25 k25 F25.kp (gl 25 "_law_unlike" rfl) T0 k29 (gl 29 "_law_thing" rfl)
  have T2 : FnOk P w K mg base CX0 6 _ d29 ["_law_pot_here", "_law_deep"] (spThing P w 2) := ok_thingS (n := 1) F29 B G26 k26 F26.kp (gl 26 "_law_flat" rfl) G28 k28 F28.kp (gl 28 "_law_strange" rfl) G23 k23 F23.kp (gl 23 "_law_take" rfl) G25 k25 F25.kp (gl 25 "_law_unlike" rfl) T1 k29 (gl 29 "_law_thing" rfl)
  have T3 : FnOk P w K mg base CX0 7 _ d29 ["_law_pot_here", "_law_deep"] (spThing P w 3) := ok_thingS (n := 2) F29 B G26 k26 F26.kp (gl 26 "_law_flat" rfl) G28 k28 F28.kp (gl 28 "_law_strange" rfl) G23 k23 F23.kp (gl 23 "_law_take" rfl) G25 k25 F25.kp (gl 25 "_law_unlike" rfl) T2 k29 (gl 29 "_law_thing" rfl)
  have R : FnG P w K mg base 8 _ d31 ["_law_pot_here"] spRight := ok_right F31 B SY T3 k29 F29.kp (gl 29 "_law_thing" rfl) W3 k27 F27.kp (gl 27 "_law_writ" rfl) G12 k12 F12.kp (gl 12 "show_document" rfl) U3 k30 F30.kp (gl 30 "_law_turned" rfl) G21 k21 F21.kp (gl 21 "read_document" rfl) G7 k7 F7.kp (gl 7 "same" rfl)
  exact ok_law F32 B G22 k22 F22.kp (gl 22 "_law_pot" rfl) R k31 F31.kp (gl 31 "_law_right" rfl)
end
end K87
set_option Elab.async false
set_option linter.all false
set_option maxRecDepth 100000
set_option maxHeartbeats 0
open PySem PySem.W PySem.Calls PyProof.Rows
theorem PySem.Challenge.cw_tagless_k87_documents_as_texts_holds : PySem.Challenge.rw_tagless_k87_documents_as_texts.Holds := by
  w_on; o_law
  refine HandSHeadRun.head_any (r := K00.R) (q := view (K00.R).prog [45]) (H := K00.hk) (ob := K00.ob) (M := 20000) (loose := K00.looseN) (d := HandSHeadRun.topDef (K00.R).prog 45) (kwd := []) K00.ob_eq
    (by kernel_rfl) (fun s => by kernel_rfl) K00.run (by kernel_rfl) (by kernel_rfl) (by kernel_rfl) (by rfl) (by first | assumption | decide +kernel) (by decide +kernel) ⟨rfl, rfl, rfl, rfl, rfl, by decide +kernel⟩ ?hw ?hc
  case hw => w_witness2
  case hc =>
    refine K87.walkG (l := PySem.Challenge.rw_tagless_k87_documents_as_texts) (n := 63) (k := 9) (x := "_law_script") rfl (by decide) (by kernel_rfl) ⟨rfl, by decide, by decide⟩ ?F
    intro w mg fa h Y G hmg0
    obtain ⟨K, KX, c⟩ := Y
    have hmg : mg ("law" : PySem.Str) = some (.ref fa) := by
      have e : (HandSHeadRun.topDef (K00.R).prog 45).name = ("law" : PySem.Str) := by kernel_rfl
      rw [← e]
      exact hmg0
    obtain ⟨fd, hb, hF⟩ := K87.facts (P := (PySem.Challenge.rw_tagless_k87_documents_as_texts).prog) (w := w) KX G hmg c
    exact ⟨K, fd, K87.spLaw K, KX, hb, fun H a ns hl hS => ⟨a, ns, rfl, hS, hl, fun _ => rfl⟩, hF⟩
