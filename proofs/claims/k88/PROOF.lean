import PyProof.Rows.All
import Wide.All
import OpenK.AllK
import Wide.FinOn
import KE.KStateDown
import Lean
import HandS.ForExc
import HandS.More
import HandS.Defaults
import HandS.Head0
import HandS.Head1
import HandS.Head2
import HandS.HeadEnd
import HandS.HeadHook1
import HandS.HeadHook2
import HandS.HeadHook3
import HandS.HeadHook4
import HandS.ForMost
import HandS.ExcInit
import HandS.ExcValue
import HandS.IsInst
import KE.KExcIs
import HandS.Walk
import HandS.NoneIn
import KE.KDictZip
import HandS.ListItems
import HandS.DictEq
import HandS.ListEq
import HandS.DeepEq
import HandS.Text
import HandS.SetFor
import HandS.Wide
import PyProof.StrLawsRepr
import PyProof.FitsInt
import HandS.Style
import HandS.FStr
import PyProof.StrOps2
import HandS.ReplaceLit
import HandS.ReplaceDef
import HandS.ReplaceList
import HandS.SortOrd
import HandS.DictTup
import PyProof.Rows.SortWalk
import HandS.RevRange
import KE.IntTextText
import KE.KDictPairs
import KE.KRevSl
import HandS.Codes
import HandS.Lambda
import HandS.EndTab
import HandS.EndBits
import PySem.Challenge.RW_tagless_k88_texts_of_any_value
set_option Elab.async false
set_option linter.all false
set_option maxRecDepth 100000
set_option maxHeartbeats 0
namespace K00
open PySem PySem.Spec PyProof.Rows L2
def top (i : Nat) : Stmt := PySem.Challenge.pw_tagless_k88_texts_of_any_value.main.body.getD i (.Pass ⟨0, 0, 0, 0⟩)
def errs : List Str := ["NoDocument", "BadText"]
def looseN : List Str := (["TaglessError", "NoDocument", "BadText", "LETTERS", "LONGEST_NAME", "is_name", "sort_of", "inner_parts", "parts_of", "is_document", "DIGITS", "check_document", "MARKS", "WORDS", "leaf_text", "outer_text", "text_of", "show_document", "string_end", "token_end"] : List Str) ++ (["tokens_of", "unquoted", "leaves_in", "wholes_in", "read_loosely", "documents_in", "read_document", "_law_pot", "_law_take", "_law_of", "_law_unlike", "_law_flat", "_law_any", "_law_writ", "_law_items", "_law_string", "_law_part", "_law_bent_text", "_law_text_drawn", "_law_caught", "_law_right"] : List Str)
abbrev sInit : Stmt := match top 1 with
  | .ClassDef (body := b) .. => b.getD 0 (.Pass ⟨0, 0, 0, 0⟩)
  | _ => .Pass ⟨0, 0, 0, 0⟩
def dF (i : Nat) (x : Str) : He.DefD := ⟨(x, none), x, x, defArgs (top i), defBody (top i), defScope (top i), [], []⟩
def fn : List He.DefD := [dF 7 "is_name", dF 8 "sort_of", dF 9 "inner_parts", dF 10 "parts_of", dF 11 "is_document", dF 14 "check_document", dF 18 "leaf_text", dF 19 "outer_text", dF 20 "text_of", dF 21 "show_document", dF 22 "string_end", dF 23 "token_end", dF 24 "tokens_of", dF 25 "unquoted", dF 26 "leaves_in", dF 27 "wholes_in", dF 28 "read_loosely", dF 29 "documents_in", dF 30 "read_document", dF 32 "_law_pot", dF 33 "_law_take", dF 34 "_law_of", dF 35 "_law_unlike", dF 36 "_law_flat", dF 37 "_law_any", dF 38 "_law_writ", dF 39 "_law_items", dF 40 "_law_string", dF 41 "_law_part", dF 42 "_law_bent_text", dF 43 "_law_text_drawn", dF 44 "_law_caught", dF 45 "_law_right", dF 46 "law",
  ⟨("TaglessError", some "__init__"), "__init__", "TaglessError.__init__", defArgs sInit, defBody sInit, defScope sInit, [], []⟩]
def freeN : List Str := ["len", "isinstance", "all", "list", "max", "min", "range", "abs", "int", "repr", "zip", "bool", "str", "dict", "ValueError", "sorted", "tuple", "sum", "reversed"]
def fa : List He.Fa := (fn.take 34).map (fun d => He.Fa.glo d.name) ++ (freeN.map He.Fa.free ++ [.str "LETTERS" "abcdefghijklmnopqrstuvwxyz", .int "LONGEST_NAME" 8, .str "DIGITS" "0123456789", .str "MARKS" "[]{},: ", .glo "WORDS"])
/-- what is asked of an error's class at C -/
def eqB {α : Type} [DecidableEq α] (a b : α) : Bool := decide (a = b)
def clsB (K : PySem.W.Frag) (C : Addr) : Bool := match K.lookup C with
  | some ⟨.type t, _, .cls cd, sl⟩ => (match cd.mro, sl.toList with
    | .ref C' :: bm, [_, _, _, _, some (.builtin n), _] => eqB t "type" && (C' == C && (n == "ValueError.__new__" && (!cd.hasDel && (cd.hasDict && PySem.HandSPX.refsVE bm))))
    | _, _ => false)
  | _ => false
def fI (K : PySem.W.Frag) : Addr := He.ma K (He.ga K "TaglessError") "__init__"
def errB (K : PySem.W.Frag) (x : Str) : Bool :=
  let C := He.ga K x
  He.eqO (PySem.W.nsIn K mainGlobals x) (some (some (.ref C))) && (clsB K C &&
  (He.eqO (PySem.W.findIn K (.ref C) "__setattr__") (some (some (.builtin "object.__setattr__"))) &&
  (He.eqO (PySem.W.findIn K (.ref C) "__getattribute__") (some (some (.builtin "BaseException.__getattribute__"))) &&
  (He.eqO (PySem.W.findIn K (.ref C) "__getattr__") (some none) &&
  (He.eqO (PySem.W.findIn K (.ref C) "value") (some none) &&
  (He.eqO (PySem.W.findIn K (.ref C) "__init__") (some (some (.ref (fI K)))) &&
  (He.eqO (PySem.W.findIn K (.ref C) "__class__") (some (some (.builtin "object.__class__"))) &&
  (PySem.W.keepIn K (.ref C) &&
  (eqB (PySem.W.subIn K (.ref C) (.type "BaseException")) (some true) &&
  (eqB (PySem.W.typeIn K (.ref C)) (some (.type "type")) &&
  (PySem.W.hasDictIn K C && eqB (PySem.W.mroIn K C (.type "object")) (some true))))))))))))
def kinB (K : PySem.W.Frag) : Bool :=
  errs.all (fun x => errs.all fun y => eqB (PySem.W.kitOne K (.ref (He.ga K x)) (.ref (He.ga K y))) (some (x == y))) &&
  (errs.all (fun x => eqB (PySem.W.kitOne K (.ref (He.ga K x)) (.ref (He.ga K "TaglessError"))) (some true)) &&
   errs.all (fun x => eqB (PySem.W.kitOne K (.ref (He.ga K x)) (.type "ValueError")) (some true)))
/-- WORDS: its keys, its values -/
def wdT : List Str := ["-", "yes", "no"]
def wdB (K : PySem.W.Frag) : Bool :=
  eqB (PySem.W.nsIn K (He.ga K "WORDS") "-") (some (some .none)) && (eqB (PySem.W.nsIn K (He.ga K "WORDS") "yes") (some (some (.bool true))) && eqB (PySem.W.nsIn K (He.ga K "WORDS") "no") (some (some (.bool false))))
def ckB (K : PySem.W.Frag) : Bool :=
  wdB K && (errs.all (errB K) && (kinB K && (He.eqO (PySem.W.nsIn K mainGlobals "TaglessError") (some (some (.ref (He.ga K "TaglessError")))) &&
  (eqB (PySem.W.typeIn K (.ref (fI K))) (some (.type "function")) &&
  (errs.all (fun x => eqB (PySem.W.exmOne K (.ref (He.ga K x)) (.ref (He.ga K "TaglessError"))) (some true)) &&
  (eqB (PySem.W.specialIn K (.builtin "object.__class__") "__get__") (some (some (.builtin "getset_descriptor.__get__"))) &&
  (eqB (PySem.W.takesIn K (.builtin "object.__class__")) (some true) &&
  (match K.lookup 1 with
    | some ⟨.type t, _, _, _⟩ => eqB t "dict"
    | _ => false))))))))
def obK (K : PySem.W.Frag) : He.AlD := (ckB K && (He.obsD fa fn K).1, (He.obsD fa fn K).2)
/-- the def whose lambdas have their table -/
def pRi : He.Defn := ("_law_right", none)
def tf : List He.Defn := [pRi]
abbrev Al : Type := He.AlD × Bool × Option (List (Option (Str × Int)))
def chW (K : PySem.W.Frag) : Option (List (Option (Str × Int))) := He.dicW K (He.ga K "WORDS")
def chV (w : World) : Option (List (Option (Str × Int))) := some (He.keysIn w.params wdT)
structure Says (h : Heap) (w : World) (K : PySem.W.Frag) : Prop where
  ck : ckB K = true
  d : He.SaysD fa fn K
  ch : He.dicW K (He.ga K "WORDS") = some (He.keysIn w.params wdT)
  hd : ∀ p ∈ tf, PySem.W.codeHdIn K (He.cT K p).1 (He.cT K p).2 = true
  out : ∀ p ∈ tf, K.lookup (He.cT K p).2 = none
  empty : ∀ p ∈ tf, h.get? (He.cT K p).2 = some { cls := .none, data := .fields #[] }
/-- the part of the heap that the facts speak of -/
def asK (g : Addr → Option Obj) : List Addr :=
  let K0 := He.frG g [mainGlobals]
  let fs := (fn.take 34).map fun d => He.ga K0 d.name
  let cs := (["TaglessError", "NoDocument", "BadText", "WORDS"] : List Str).map (He.ga K0)
  1 :: mainGlobals :: (He.growD g (He.growD g fs) ++ He.growD g (He.growD g (He.growD g (He.growD g cs))))
def obG (g : Addr → Option Obj) : Al :=
  let K := He.frT g (asK g)
  (obK K, He.tabsB g tf K, chW K)
theorem says_of {g : Addr → Option Obj} {h : Heap} {w : World} (eg : g = h.get?) (e : obG g = (He.valD fn, true, chV w)) : Says h w (He.frT g (asK g)) := by
  have e0 : obK (He.frT g (asK g)) = He.valD fn := congrArg (fun z : Al => z.1) e
  have e1 : (ckB (He.frT g (asK g)) && (He.obsD fa fn (He.frT g (asK g))).1) = true := congrArg (fun z : He.AlD => z.1) e0
  have e2 : (He.obsD fa fn (He.frT g (asK g))).2 = fn.map He.DefD.val := congrArg (fun z : He.AlD => z.2) e0
  obtain ⟨h1, h2⟩ := He.ba e1
  have e3 : He.tabsB g tf (He.frT g (asK g)) = true := congrArg (fun z : Al => z.2.1) e
  have key : ∀ p ∈ tf, PySem.W.codeHdIn (He.frT g (asK g)) (He.cT (He.frT g (asK g)) p).1 (He.cT (He.frT g (asK g)) p).2 = true ∧ ∃ o, g (He.cT (He.frT g (asK g)) p).2 = some o ∧ He.emptyTab o = true := fun p hp => by
    obtain ⟨h3, h4⟩ := He.ba (List.all_eq_true.mp e3 p hp)
    refine ⟨h3, ?_⟩
    cases q : g (He.cT (He.frT g (asK g)) p).2 with
    | none =>
      rw [q] at h4
      cases h4
    | some o =>
      rw [q] at h4
      exact ⟨o, rfl, h4⟩
  refine ⟨h1, Prod.ext h2 e2, congrArg (fun z : Al => z.2.2) e, fun p hp => (key p hp).1, fun p hp => ?_, fun p hp => ?_⟩
  · obtain ⟨_, o, q, z⟩ := key p hp
    exact He.frT_none q z
  · obtain ⟨_, o, q, z⟩ := key p hp
    rw [← eg, q, He.emptyTab_eq z]
abbrev R : PySem.W.OpenRow := PySem.W.OpenLaw.row PySem.Challenge.rw_tagless_k88_texts_of_any_value
def hk : PySem.W.Hook where
  α := Al
  obs := fun s => obG s.heap.get?
  val := fun w => (He.valD fn, true, chV w)
  says := fun w h => ∃ K : PySem.W.Frag, K.In h ∧ Says h w K
  of := fun _ _ e => ⟨_, He.frT_in, says_of rfl e⟩
  keeps := fun _ _ _ ⟨K, hK, c⟩ k => ⟨K, PySem.W.Frag.In.keeps hK k, ⟨c.ck, c.d, c.ch, c.hd, c.out, fun p hp => k _ _ (c.empty p hp)⟩⟩
def ob (s : PySem.W.SharedT) : Al := obG (HandSHeadRun.getT s)
theorem ob_eq (s : PySem.W.SharedT) : ob s = hk.obs s.abs := by
  have e : HandSHeadRun.getT s = s.abs.heap.get? := funext (HandSHeadRun.getT_eq s)
  show obG (HandSHeadRun.getT s) = obG s.abs.heap.get?
  rw [e]
end K00
set_option Elab.async false
set_option linter.all false
set_option maxRecDepth 100000
set_option maxHeartbeats 0
namespace K00
open PySem PySem.Spec PyProof.Rows L2
theorem run_false (w : World) : HandSHeadRun.RunEq R (PySem.W.view R.prog [46]) hk ob 20000 looseN (w.withFollow "special-get-raises" false) := by
  intro os
  kernel_rfl
end K00
set_option Elab.async false
set_option linter.all false
set_option maxRecDepth 100000
set_option maxHeartbeats 0
namespace K00
open PySem PySem.Spec PyProof.Rows L2
theorem run_true (w : World) : HandSHeadRun.RunEq R (PySem.W.view R.prog [46]) hk ob 20000 looseN (w.withFollow "special-get-raises" true) := by
  intro os
  kernel_rfl
end K00
set_option Elab.async false
set_option linter.all false
set_option maxRecDepth 100000
set_option maxHeartbeats 0
namespace K00
open PySem PySem.Spec PyProof.Rows L2
theorem run (w : World) : HandSHeadRun.RunEq R (PySem.W.view R.prog [46]) hk ob 20000 looseN w := by
  have key : ∀ (b : Bool) (w : World), HandSHeadRun.RunEq R (PySem.W.view R.prog [46]) hk ob 20000 looseN (w.withFollow "special-get-raises" b) := by
    intro b w
    cases b
    · exact run_false w
    · exact run_true w
  have := key (w.params.followText "special-get-raises") w
  rwa [World.withFollow_self] at this
end K00
set_option Elab.async false
set_option linter.all false
set_option maxRecDepth 100000
/-! K00Math: what k00 says of data, in plain Lean: what is a document, how many parts, going through parts in breadth. -/
namespace K00
open PySem
def LET : Str := "abcdefghijklmnopqrstuvwxyz"
def nameB (s : Str) : Bool := decide (1 ≤ s.length) && (decide (s.length ≤ 8) && s.cps.toList.all fun c => LET.cps.toList.contains c)
def keyB : PyData → Bool
  | .str s => nameB s
  | _ => false
mutual
def isOne : PyData → Bool
  | .none => true
  | .bool _ => true
  | .int _ => true
  | .str _ => true
  | .tuple _ => false
  | .list xs => isOneL xs
  | .dict kvs => isOneK kvs
def isOneL : List PyData → Bool
  | [] => true
  | x :: r => isOne x && isOneL r
def isOneK : List (PyData × PyData) → Bool
  | [] => true
  | (k, v) :: r => (keyB k && isOne v) && isOneK r
end
mutual
def cnt : PyData → Nat
  | .none => 1
  | .bool _ => 1
  | .int _ => 1
  | .str _ => 1
  | .tuple _ => 1
  | .list xs => 1 + cntL xs
  | .dict kvs => 1 + cntK kvs
def cntL : List PyData → Nat
  | [] => 0
  | x :: r => cnt x + cntL r
def cntK : List (PyData × PyData) → Nat
  | [] => 0
  | (_, v) :: r => cnt v + cntK r
end
def kids : PyData → List PyData
  | .list xs => xs
  | .dict kvs => kvs.map (·.2)
  | _ => []
def sortB : PyData → Bool
  | .tuple _ => false
  | .dict kvs => kvs.all fun p => keyB p.1
  | _ => true
theorem cntL_eq : ∀ xs : List PyData, cntL xs = (xs.map cnt).sum
  | [] => by simp [cntL]
  | x :: r => by simp [cntL, cntL_eq r]
theorem cntK_eq : ∀ xs : List (PyData × PyData), cntK xs = ((xs.map (·.2)).map cnt).sum
  | [] => by simp [cntK]
  | (k, v) :: r => by simp [cntK, cntK_eq r]
theorem cnt_kids (d : PyData) : cnt d = 1 + ((kids d).map cnt).sum := by
  cases d with
  | list xs => simp only [cnt, kids, cntL_eq]
  | dict kvs => simp only [cnt, kids, cntK_eq]
  | _ => simp [cnt, kids]
theorem isOneL_eq : ∀ xs : List PyData, isOneL xs = xs.all isOne
  | [] => by simp [isOneL]
  | x :: r => by simp [isOneL, isOneL_eq r]
theorem isOneK_eq : ∀ xs : List (PyData × PyData), isOneK xs = ((xs.all fun p => keyB p.1) && (xs.map (·.2)).all isOne)
  | [] => by simp [isOneK]
  | (k, v) :: r => by
    simp only [isOneK, isOneK_eq r, List.all_cons, List.map_cons]
    cases keyB k <;> cases isOne v <;> simp
theorem isOne_kids (d : PyData) : isOne d = (sortB d && (kids d).all isOne) := by
  cases d with
  | list xs => simp [isOne, sortB, kids, isOneL_eq]
  | dict kvs => simp only [isOne, sortB, kids, isOneK_eq]
  | _ => simp [isOne, sortB, kids]
/-- the parts that a walk in breadth has seen, and those that it still has to see -/
structure Wide (root : PyData) (i : Nat) (ps : List PyData) : Prop where
  le : i ≤ ps.length
  many : i + ((ps.drop i).map cnt).sum = cnt root
  one : ((ps.take i).all sortB && (ps.drop i).all isOne) = isOne root
theorem Wide.start (d : PyData) : Wide d 0 [d] := ⟨Nat.zero_le _, by simp, by simp⟩
theorem Wide.step {root d : PyData} {i : Nat} {ps : List PyData} (w : Wide root i ps) (h : ps[i]? = some d) : Wide root (i + 1) (ps ++ kids d) := by
  obtain ⟨hi, hd⟩ := List.getElem?_eq_some_iff.mp h
  have e1 : ps.drop i = d :: ps.drop (i + 1) := by rw [List.drop_eq_getElem_cons hi, hd]
  have e2 : ps.take (i + 1) = ps.take i ++ [d] := by rw [← List.take_append_getElem hi, hd]
  have e3 : (ps ++ kids d).drop (i + 1) = ps.drop (i + 1) ++ kids d := List.drop_append_of_le_length (by omega)
  have e4 : (ps ++ kids d).take (i + 1) = ps.take (i + 1) := List.take_append_of_le_length (by omega)
  obtain ⟨_, h2, h3⟩ := w
  refine ⟨by rw [List.length_append]; omega, ?_, ?_⟩
  · rw [e3, List.map_append, List.sum_append]
    rw [e1, List.map_cons, List.sum_cons, cnt_kids d] at h2
    omega
  · rw [e3, e4, e2, ← h3, e1]
    simp only [List.all_append, List.all_cons, List.all_nil, Bool.and_true]
    rw [isOne_kids d]
    generalize (ps.take i).all sortB = a
    generalize (ps.drop (i + 1)).all isOne = b
    generalize sortB d = c
    generalize (kids d).all isOne = e
    cases a <;> cases b <;> cases c <;> cases e <;> rfl
theorem Wide.done {root : PyData} {i : Nat} {ps : List PyData} (w : Wide root i ps) (h : ps.length ≤ i) : ps.length = cnt root ∧ ps.all sortB = isOne root := by
  obtain ⟨h1, h2, h3⟩ := w
  have e : i = ps.length := Nat.le_antisymm h1 h
  subst e
  rw [List.drop_length] at h2 h3
  rw [List.take_length] at h3
  exact ⟨by simpa using h2, by simpa using h3⟩
theorem cnt_pos (d : PyData) : 1 ≤ cnt d := by rw [cnt_kids]; omega
theorem Wide.left {root : PyData} {i : Nat} {ps : List PyData} (w : Wide root i ps) : i ≤ cnt root := by have := w.many; omega
theorem Wide.lt {root : PyData} {i : Nat} {ps : List PyData} (w : Wide root i ps) (h : i < ps.length) : i < cnt root := by
  have e1 : ps.drop i = ps[i] :: ps.drop (i + 1) := List.drop_eq_getElem_cons h
  have q := w.many
  rw [e1, List.map_cons, List.sum_cons] at q
  have := cnt_pos ps[i]
  omega
theorem Wide.len {root : PyData} {i : Nat} {ps : List PyData} (w : Wide root i ps) : ps.length ≤ cnt root := by
  have q := w.many
  have l : ∀ xs : List PyData, xs.length ≤ (xs.map cnt).sum := by
    intro xs
    induction xs with
    | nil => simp
    | cons x r ih =>
      rw [List.map_cons, List.sum_cons, List.length_cons]
      have := cnt_pos x
      omega
  have z := l (ps.drop i)
  rw [List.length_drop] at z
  have := w.le
  omega
end K00
set_option Elab.async false
set_option linter.all false
set_option maxRecDepth 100000
set_option maxHeartbeats 4000000
/-! K00B: the errors of the program as values: made by a call, read, asked by isinstance, raised. -/
namespace K00
open PySem PySem.W PySem.Calls PyProof.Rows PySem.HandSPX
/-! ### the text of __init__ -/
def iA (p1 p2 : Pos) : Arguments :=
  { posonlyargs := [], args := [{ arg := "self", annotation := none, pos := p1 }, { arg := "value", annotation := none, pos := p2 }], vararg := none, kwonlyargs := [], kw_defaults := [], kwarg := none, defaults := [] }
def iB (q1 q2 q3 q4 : Pos) : List Stmt := [.Assign [.Attribute (.Name "self" q1) "value" q2] (.Name "value" q3) q4]
def iS : Scope := { kind := .function, names := [(PySem.Str.ofString "self", .local), (PySem.Str.ofString "value", .local)], isGenerator := false, isCoroutine := false, more := [] }
/-- what the written part says of an error's class at C and of the __init__ that it has from above -/
structure ErrT (K : Frag) (C fI : Addr) : Prop where
  cls : ∃ nm q N bs bm sn sub ab col dd k0 k1 k2 k3 k5, K.lookup C = some (excClassObj nm q C N bs bm true sn sub ab col dd k0 k1 k2 k3 k5 "ValueError.__new__") ∧ refsVE bm = true
  sa : findIn K (.ref C) "__setattr__" = some (some (.builtin "object.__setattr__"))
  ga : findIn K (.ref C) "__getattribute__" = some (some (.builtin "BaseException.__getattribute__"))
  gg : findIn K (.ref C) "__getattr__" = some none
  noN : findIn K (.ref C) "value" = some none
  iC : findIn K (.ref C) "__init__" = some (some (.ref fI))
  cl : findIn K (.ref C) "__class__" = some (some (.builtin "object.__class__"))
  kC : keepIn K (.ref C) = true
  exC : subIn K (.ref C) (.type "BaseException") = some true
  tyC : typeIn K (.ref C) = some (.type "type")
  hdC : hasDictIn K C = true
  ob : mroIn K C (.type "object") = some true
structure InitT (K : Frag) (fI : Addr) : Prop where
  tI : typeIn K (.ref fI) = some (.type "function")
  gt : specialIn K (.builtin "object.__class__") "__get__" = some (some (.builtin "getset_descriptor.__get__"))
  tk : takesIn K (.builtin "object.__class__") = some true
  fn : ∃ (oc : Value) (od : Option Addr) (doc pm : Value) (an : Option Addr) (cdv ct : Value) (osl : Array (Option Value)) (p1 p2 q1 q2 q3 q4 : Pos) (kV : Value),
    K.lookup fI = some ⟨oc, od, .func (fnOf "__init__" "TaglessError.__init__" (iA p1 p2) (iB q1 q2 q3 q4) iS .none kV doc pm an cdv ct), osl⟩ ∧ codeIn K cdv "TaglessError.__init__" = true
theorem one_size (v : Value) : [v].length ≤ sizeLine := by
  rw [sizeLine_eq]
  exact (by decide : 1 ≤ 16777216)
theorem ldC {M : Model} {s : Shared} {name : Str} {scope : Scope} {L a : Addr} {cd : Value} {m : Str → Option Value} {x : Str} {pos : Pos} {v : Value} {Q : Value → Shared → Prop} {A : Around} {E : Value → Shared → Prop} (hn : s.heap.Ns L m) (hv : m x = some v) (h : Q v s)
    (hk : scope.kind = .function := by rfl) (hl : (envOfC name scope L a cd).kindOf x = some .local := by rfl) (hd : (x == ("__debug__" : Str)) = false := by decide) :
    wpAny M A (eval (.Name x pos) (envOfC name scope L a cd)) Q E s := wpAny_Name (wpAny_loadName_local hk hl hn hv h) hd
/-- the object of an error with its own dict -/
def errO (C t0 dx : Addr) : Obj := { cls := .ref C, dict := some dx, data := .fields #[.ref t0, .none, .none, .none, .bool false, .none] }
structure InitEnd (h h' : Heap) (x C dx t1 : Addr) (v : Value) : Prop where
  keep : ∀ b o, b ≠ x → h.get? b = some o → h'.get? b = some o
  obj : h'.get? x = some (errO C t1 dx)
  dbig : h.objs.size ≤ dx
  dne : dx ≠ x
  ns : h'.Ns1 dx (fun y => if y = "value" then some v else none)
structure OwnMade (h h' : Heap) (e C d : Addr) (v : Value) : Prop where
  keep : ∀ b o, h.get? b = some o → h'.get? b = some o
  new : h.objs.size ≤ e
  obj : ∃ t0, h'.get? e = some (errO C t0 d)
  dbig : h.objs.size ≤ d
  dne : d ≠ e
  ns : h'.Ns1 d (fun y => if y = "value" then some v else none)
section
variable {prog : Program} {w : World} {A : Around} {E : Value → Shared → Prop} {R : Result → Shared → Prop} {s : Shared} {K : Frag} {C fI : Addr}
theorem err_init (T : ErrT K C fI) (T0 : InitT K fI) {x t0 : Addr} {v : Value} (X : K.In s.heap) (hlim : s.heap.NoLimit) (hx : s.heap.get? x = some (excO C t0)) (hroom : A.depth < recursionLimit)
    (hq : ∀ h' tk dx, InitEnd s.heap h' x C dx t0 v → R (.ok (.ret .none)) { s with heap := h', toks := tk }) :
    codeAny (model prog w) A (.call (.ref fI) ⟨[.ref x, v], []⟩) R s := by
  obtain ⟨oc, od, doc, pm, an, cdv, ct, osl, p1, p2, q1, q2, q3, q4, kV, ho, hcd⟩ := T0.fn
  obtain ⟨nm, q, N, bs, bm, sn, sub, ab, col, dd, k0, k1, k2, k3, k5, hC, hbm⟩ := T.cls
  have hcl : clsIn K C = some { name := nm, bases := bs, mro := .ref C :: bm, ns := N, qualname := q, hasDict := true, slotNames := sn, subclasses := sub, abstract := ab, collection := col, hasDel := false } := by unfold clsIn; rw [hC] <;> rfl
  refine Att.call_fn (binds := [("self", .ref x), ("value", v)]) X hlim ho hcd hroom (BindsTo.of_eq (by first | rfl | with_unfolding_all rfl)) (by first | rfl | decide | with_unfolding_all rfl) (fun s₁ IC => ?_) rfl rfl rfl
  obtain ⟨h₁, tk₁, rfl⟩ := IC.toInCall.same
  have k : ∀ b o, s.heap.get? b = some o → h₁.get? b = some o := IC.toInCall.keep
  have hn := IC.toInCall.ns
  have hxL : s.heap.objs.size ≠ x := Nat.ne_of_gt (Heap.lt_size hx)
  have X₁ : K.In h₁ := X.keeps k
  have hx₁ := k _ _ hx
  show wpAny _ _ (execs _ _) _ _ _
  refine wpAny_execs_cons (plainObj_wpAny_Assign_Attribute ?_)
  refine ldC (v := v) hn (by first | rfl | with_unfolding_all rfl | kernel_rfl) (ldC (v := .ref x) hn (by first | rfl | with_unfolding_all rfl | kernel_rfl) ?_)
  refine set_plain X₁ (ox := excO C t0) (od := none) ⟨hx₁, rfl, rfl, trivial⟩ T.sa ?_
  refine exc_osa X₁ hx₁ hcl (show refsVE (.ref C :: bm) = true from hbm) rfl T.noN (fun h₃ tk₃ dx k₃ dn dne hx₃ hn₃ => ?_)
  show wpAny _ _ (execs _ _) _ _ _
  have z : s.heap.objs.size < h₁.objs.size := hn.lt
  exact wpAny_execs_nil (hq h₃ tk₃ dx ⟨fun b o hb e => k₃ b o hb (k b o e), hx₃, Nat.le_of_lt (Nat.lt_of_lt_of_le z dn), dne, hn₃⟩)
theorem err_made (T : ErrT K C fI) (T0 : InitT K fI) {v : Value} (X : K.In s.heap) (hlim : s.heap.NoLimit) (hroom : A.depth + 1 < recursionLimit)
    (hq : ∀ h' tk e d, OwnMade s.heap h' e C d v → R (.ok (.ret (.ref e))) { s with heap := h', toks := tk }) :
    codeAny (model prog w) A (.call (.ref C) ⟨[v], []⟩) R s := by
  obtain ⟨nm, q, N, bs, bm, sn, sub, ab, col, dd, k0, k1, k2, k3, k5, hC, hbm⟩ := T.cls
  obtain ⟨hp, g, dr, tk, os⟩ := s
  have k : ∀ b o, hp.get? b = some o → ((hp.push (kdv_tup [v])).push (excO C hp.objs.size)).get? b = some o := fun b o e => Heap.get?_push_of_some _ (Heap.get?_push_of_some _ e)
  have hget : ((hp.push (kdv_tup [v])).push (excO C hp.objs.size)).get? (hp.objs.size + 1) = some (excO C hp.objs.size) := by heap_get
  refine call_own F.excBase_ValueError (fun X => refsVE_contains X bm hbm) (X _ _ hC) (looks_findIn X T.iC) (fun self => bind_fn X self T0.tI) (one_size v) ?_
  refine err_init (s := ⟨(hp.push (kdv_tup [v])).push (excO C hp.objs.size), g, dr, tk, os⟩) T T0 (X.keeps k) (hlim.keeps k) hget ?_ fun h' tk' dx ⟨k', hx, dn, dne, hns⟩ => ?_
  · show A.depth + 1 < recursionLimit
    exact hroom
  · have old : ∀ b o, hp.get? b = some o → h'.get? b = some o := fun b o e => k' b o (Nat.ne_of_lt (Nat.lt_succ_of_lt (Heap.lt_size e))) (k b o e)
    have z : hp.objs.size + 1 + 1 ≤ dx := by
      first
        | (simpa only [Heap.size_push] using dn)
        | exact dn
        | (have q := dn; rw [Heap.size_push, Heap.size_push] at q; exact q)
    exact ⟨rfl, hq h' tk' (hp.objs.size + 1) dx ⟨old, Nat.le_succ _, ⟨_, hx⟩, Nat.le_trans (Nat.le_trans (Nat.le_succ _) (Nat.le_succ _)) z, dne, hns⟩⟩
end
end K00
namespace K00
open PySem PySem.Spec PyProof.Rows L2
theorem relO_val {v : V} {v' : Value} (r : RelV v v') (f : Str) : RelO (List.lookup f [(("value" : Str), v)]) (if f = "value" then some v' else none) := by
  by_cases hw : f = "value"
  · subst hw
    rw [if_pos rfl]
    have q : List.lookup ("value" : Str) [(("value" : Str), v)] = some v := by simp [List.lookup]
    rw [q]
    exact r
  · rw [if_neg hw]
    have qw : (f == ("value" : Str)) = false := by simpa using hw
    have q2 : List.lookup f [(("value" : Str), v)] = none := by simp [List.lookup, qw]
    rw [q2]
    trivial
/-- u is an error of the class at C that holds v -/
def IsErr (H : Hp) (C : Addr) (v u : V) : Prop := ∃ e d : Addr, u = .ref e ∧ H e = some (exo e C (some d)) ∧ H d = some (.xd [(("value" : Str), v)])
theorem IsErr.same {H H' : Hp} {C : Addr} {v u : V} (h : IsErr H C v u) (k : Same H H') : IsErr H' C v u := by
  obtain ⟨e, d, h1, h2, h3⟩ := h
  exact ⟨e, d, h1, k _ _ h2, k _ _ h3⟩
section
variable {X : Cx} {C fI : Addr}
/-- C(e) as a value -/
def tErr (C : Addr) (ta : TA) : TE := fun σ H Q => ta σ H fun vs H1 => ∃ v, vs = [v] ∧ ∀ (u : V) (H2 : Hp), Same H1 H2 → IsErr H2 C v u → Q u H2
theorem pe_err {x : Str} {e : Expr} {ta : TA} {p pos : Pos} {k : Nat} (T : ErrT X.K C fI) (T0 : InitT X.K fI) (gC : X.mg x = some (.ref C)) (hr : Room k X.A) (ha : PA X [e] ta) (hg : Gl X x := by rfl)
    (hdb : (x == ("__debug__" : Str)) = false := by decide)
    (hs : starEach (e :: []) X.env = (false, eval e X.env) :: starEach [] X.env := by rfl) (hpl : (backTo pos (starEach [] X.env)).any (·.1) = false := by rfl) :
    PE X (.Call (.Name x p) [e] [] pos) (tErr C ta) := by
  refine ⟨fun pins s σ H Q I h => ?_⟩
  refine wpAny_Call_Name_kw (ld_glob I hg gC ?_ hdb)
  refine PySem.W.callWith_K (h₀ := X.base) I.ok.mod.kin T.kC (thn (ha.run pos pins s σ H _ I h) fun us s1 hh => ?_) hs hpl
  obtain ⟨vs, H1, I1, r1, v, ev, q1⟩ := hh
  subst ev
  refine ⟨I1.kIn, ?_⟩
  cases r1 with
  | cons rv rn =>
    rename_i v' us'
    cases rn
    show wpAny _ _ (call (.ref C) [v']) _ _ _
    have hlim := I1.nolimit
    obtain ⟨hp, g, dr, tk, os⟩ := s1
    refine wpAny_call (err_made T T0 I1.kIn hlim (by have := hr.dp; omega) fun h' tk' e d M => ?_)
    obtain ⟨t0, hoe⟩ := M.obj
    have hns := M.ns
    obtain ⟨G', g1, g2⟩ := restrict h' fun b => decide (b ≠ e)
    have gk : ∀ b, b ≠ e → G'.get? b = h'.get? b := fun b hb => g1 b (decide_eq_true hb)
    have ge : G'.get? e = none := g2 e (by simp)
    have old : ∀ b o, hp.get? b = some o → G'.get? b = some o := fun b o q => (gk b (Nat.ne_of_lt (Nat.lt_of_lt_of_le (Heap.lt_size q) M.new))).trans (M.keep b o q)
    have ob : ObjOk X.prog X.w (upd H1 d (.xd [(("value" : Str), v)])) G' d (.xd [(("value" : Str), v)]) :=
      ⟨_, hns.at (fun o q => (gk d M.dne).trans q), fun f => relO_val rv f⟩
    have J : Inv X pins σ (upd H1 d (.xd [(("value" : Str), v)])) ⟨G', g, dr, tk', os⟩ := I1.laid (t' := tk') old M.dbig ob
    have he1 : H1 e = none := I1.hok.fresh M.new
    have hd1 : H1 d = none := I1.hok.fresh M.dbig
    have hen : (upd H1 d (.xd [(("value" : Str), v)])) e = none := by rw [upd_ne (Ne.symm M.dne)]; exact he1
    have kk : ∀ b u, G'.get? b = some u → h'.get? b = some u := fun b u q => by
      by_cases hb : b = e
      · rw [hb, ge] at q; cases q
      · exact (gk b hb).symm.trans q
    have J2 : Inv X pins σ (upd (upd H1 d (.xd [(("value" : Str), v)])) e (exo e C (some d))) ⟨h', g, dr, tk', os⟩ :=
      Inv.laidN (t' := tk') J kk ge hen (exo_ok hoe)
    refine ⟨.ref e, _, J2, rfl, q1 _ _ (fun b o q => ?_) ⟨e, d, rfl, upd_same, ?_⟩⟩
    · rw [upd_ne (ne_of_none q he1), upd_ne (ne_of_none q hd1)]
      exact q
    · rw [upd_ne M.dne]
      exact upd_same
end
end K00
set_option Elab.async false
set_option linter.all false
set_option maxRecDepth 100000
set_option maxHeartbeats 4000000
/-! K00C: an error that is raised, caught, and kept under another name. -/
namespace K00
open PySem PySem.Spec L2
section
variable {X : Cx} {C fI : Addr}
/-- C(e), to be raised: its own dict d, new, holds the value -/
def tMkErr (C : Addr) (ta : TA) : L2.St → Hp → XK → Prop := fun σ H Q => ta σ H fun vs H1 => ∃ v, vs = [v] ∧ ∀ d, H1 d = none → Q (.ref C) (some d) (upd H1 d (.xd [(("value" : Str), v)]))
theorem pmk_err {x : Str} {e : Expr} {ta : TA} {p pos : Pos} {k : Nat} (T : ErrT X.K C fI) (T0 : InitT X.K fI) (gC : X.mg x = some (.ref C)) (hr : Room k X.A) (ha : PA X [e] ta) (hg : Gl X x := by rfl)
    (hdb : (x == ("__debug__" : Str)) = false := by decide)
    (hs : starEach (e :: []) X.env = (false, eval e X.env) :: starEach [] X.env := by rfl) (hpl : (backTo pos (starEach [] X.env)).any (·.1) = false := by rfl) :
    PMk X (.Call (.Name x p) [e] [] pos) (tMkErr C ta) := by
  intro pins s σ H Q I h
  refine wpAny_Call_Name_kw (ld_glob I hg gC ?_ hdb)
  refine PySem.W.callWith_K (h₀ := X.base) I.ok.mod.kin T.kC (thn (ha.run pos pins s σ H _ I h) fun us s1 hh => ?_) hs hpl
  obtain ⟨vs, H1, I1, r1, v, ev, q1⟩ := hh
  subst ev
  refine ⟨I1.kIn, ?_⟩
  cases r1 with
  | cons rv rn =>
    rename_i v' us'
    cases rn
    show wpAny _ _ (call (.ref C) [v']) _ _ _
    have hlim := I1.nolimit
    obtain ⟨hp, g, dr, tk, os⟩ := s1
    refine wpAny_call (err_made T T0 I1.kIn hlim (by have := hr.dp; omega) fun h' tk' e d M => ?_)
    show MkP X pins σ Q (.ref e) ⟨h', g, dr, tk', os⟩
    obtain ⟨t0, hoe⟩ := M.obj
    have hns := M.ns
    obtain ⟨G', g1, g2⟩ := restrict h' fun b => decide (b ≠ e)
    have gk : ∀ b, b ≠ e → G'.get? b = h'.get? b := fun b hb => g1 b (decide_eq_true hb)
    have ge : G'.get? e = none := g2 e (by simp)
    have old : ∀ b o, hp.get? b = some o → G'.get? b = some o := fun b o q => (gk b (Nat.ne_of_lt (Nat.lt_of_lt_of_le (Heap.lt_size q) M.new))).trans (M.keep b o q)
    have ob : ObjOk X.prog X.w (upd H1 d (.xd [(("value" : Str), v)])) G' d (.xd [(("value" : Str), v)]) :=
      ⟨_, hns.at (fun o q => (gk d M.dne).trans q), fun f => relO_val rv f⟩
    have J : Inv X pins σ (upd H1 d (.xd [(("value" : Str), v)])) ⟨G', g, dr, tk', os⟩ := I1.laid (t' := tk') old M.dbig ob
    refine ⟨e, _, _, ⟨G', g, dr, tk', os⟩, _, .ref C, some d, rfl, J, fun b o q => ?_, ge, hoe, ⟨rfl, rfl⟩, rfl, rfl, ?_, rfl, I1.bare, raises_own T.exC T.tyC, q1 d (I1.hok.fresh M.dbig)⟩
    · by_cases hb : b = e
      · have q' : G'.get? b = some o := q
        rw [hb, ge] at q'; cases q'
      · exact (gk b hb).symm.trans q
    · rw [upd_ne (Ne.symm M.dne)]
      exact I1.hok.fresh M.new
end
/-- at a: an exception of this class with this dict, whatever happened to it in the air -/
def erk (a : Addr) (cls : Value) (d : Option Addr) : HO := .ext fun h => ∃ (oe : Obj) (vs : Array Value), h.get? a = some oe ∧ Zc cls d oe ∧ oe.data = .fields vs
theorem erk_ok {P : Program} {w : World} {H : Hp} {h : Heap} {a : Addr} {cls : Value} {d : Option Addr} {oe : Obj} {vs : Array Value} (e : h.get? a = some oe) (z : Zc cls d oe) (f : oe.data = .fields vs) : ObjOk P w H h a (erk a cls d) :=
  ⟨⟨oe, vs, e, z, f⟩, ⟨oe, e⟩, fun _ _ ⟨o, v, q, r⟩ k => ⟨o, v, k o q, r⟩⟩
theorem erk_at {P : Program} {w : World} {H : Hp} {h : Heap} {a : Addr} {cls : Value} {d : Option Addr} (hok : HOk P w H h) (e : H a = some (erk a cls d)) : ∃ (oe : Obj) (vs : Array Value), h.get? a = some oe ∧ Zc cls d oe ∧ oe.data = .fields vs := by
  have x : ObjOk P w H h a (.ext fun h => ∃ (oe : Obj) (vs : Array Value), h.get? a = some oe ∧ Zc cls d oe ∧ oe.data = .fields vs) := hok a _ e
  exact x.1
section
variable {X : Cx} {pins : List (Addr × Obj)} {σ : L2.St} {H : Hp} {s : Shared}
/-- an object that came since the entry, and was not tracked, is tracked from here on -/
theorem track {a : Addr} {o : HO} (I : L2.Inv X pins σ H s) (hn : H a = none) (h0 : X.s_0.heap.get? a = none) (hL : a ≠ X.env.locals) (hC : ∀ y c, X.env.cells.lookup y = some c → c ≠ a)
    (hp : ∀ p ∈ X.pn ++ pins, p.1 ≠ a) (new : ObjOk X.prog X.w (upd H a o) s.heap a o) : L2.Inv X pins σ (upd H a o) s := by
  have other : ∀ {b : Addr} {u : HO}, H b = some u → b ≠ a := fun e => ne_of_none e hn
  have old : ∀ {b : Addr} {u : Obj}, X.s_0.heap.get? b = some u → b ≠ a := fun e z => by rw [z, h0] at e; cases e
  exact {
    ok := I.ok, os := I.os, bare := I.bare, loc := I.loc, cell := I.cell, len := I.len
    base := { keep := I.base.keep, slot := I.base.slot, there := I.base.there
              free := fun b u e n x => (upd_ne (old e)).trans (I.base.free b u e n x)
              tups := fun b xs e => (upd_ne (other (I.base.tups b xs e))).trans (I.base.tups b xs e)
              frzs := fun b u v e => (upd_ne (other (I.base.frzs b u v e))).trans (I.base.frzs b u v e)
              tbls := fun b ps e => by
                obtain ⟨m, q⟩ := I.base.tbls b ps e
                exact ⟨m, (upd_ne (other q)).trans q⟩ }
    free := (upd_ne (Ne.symm hL)).trans I.free
    freeC := fun y c e => (upd_ne (hC y c e)).trans (I.freeC y c e)
    pin := fun p q => by
      obtain ⟨e1, e2, e3⟩ := I.pin p q
      exact ⟨e1, (upd_ne (hp p q)).trans e2, e3⟩
    hok := fun b u e => by
      by_cases hb : b = a
      · subst hb
        rw [upd_same] at e
        cases e
        exact new
      · rw [upd_ne hb] at e
        exact (I.hok b u e).stay (fun _ _ _ z => z) (fun _ z => (upd_ne (other z)).trans z) (fun _ _ z => (upd_ne (other z)).trans z) }
theorem into_suite (a : Addr) (I : L2.Inv X pins σ H s) : L2.Inv (X.suite a (X.pn ++ pins)) [] σ H s :=
  { ok := I.ok.suite a _, os := I.os, bare := I.bare, base := I.base, loc := I.loc, cell := I.cell, free := I.free, freeC := I.freeC, pin := fun p q => I.pin p (by simpa using q), hok := I.hok, len := I.len }
theorem out_of_suite {a : Addr} (ok : X.Ok) (I : L2.Inv (X.suite a (X.pn ++ pins)) [] σ H s) : L2.Inv X pins σ H s :=
  { ok := ok, os := I.os, bare := I.bare, base := I.base, loc := I.loc, cell := I.cell, free := I.free, freeC := I.freeC, pin := fun p q => I.pin p (by simpa using q), hok := I.hok, len := I.len }
/-- the wish of such a clause: the error is tracked at a, its name in slot i while the suite runs -/
def wKept (K : PySem.W.Frag) (c : Value) (i : Nat) (ts : TS) (D : Ends) : WX := fun cls d σ H =>
  PySem.W.exmOne K cls c = some true ∧ ∀ a, H a = none →
    ts { nx := fun σ' H' => D.nx (σ'.set i none) H', rt := D.rt, bk := fun σ' H' => D.bk (σ'.set i none) H', ct := fun σ' H' => D.ct (σ'.set i none) H' } (σ.set i (some (.ref a))) (upd H a (erk a cls d))
end
section
variable {X : Cx} {x n : Str} {c : Value} {i : Nat} {body suite : List Stmt} {b₀ : Stmt} {np pos pos' : Pos} {tb : WX → TS} {ts : TS}
theorem ps_try_keep (hs : X.stack = X.env :: X.outer) (hf : X.env.frame = some X.env.locals) (hex : X.ex = []) (hN : X.N.Nodup) (hi : X.N[i]? = some n) (hln : X.env.kindOf n = some .local) (hc : Names X x c)
    (hb : ∀ (W : WX) (pn : List (Addr × Obj)) (xe : Value → Shared → Prop), Takes (X.tr pn xe) W → PassesOwn (model X.prog X.w) X.A X.env xe → PSs (X.tr pn xe) body (tb W))
    (hsu : ∀ (a : Addr) (pn : List (Addr × Obj)), PSs (X.suite a pn) (b₀ :: suite) ts) :
    PS X (.Try body [.ExceptHandler (some (.Name x np)) (some n) (b₀ :: suite) pos'] [] [] pos) (fun D σ H => tb (wKept X.K c i ts D) D σ H) := by
  constructor
  intro pins s σ H D I reads
  have ok := I.ok
  have frames : X.A.frames = some (X.env :: X.outer) := ok.frames.trans (congrArg some hs)
  refine wpAny_Try_except (wpAny_mono ((hb (wKept X.K c i ts D) (X.pn ++ pins) _ ?caught PassesOwn.looking).run [] s σ H D (I.toTry _) reads) ?through fun _ _ z => z)
  case through =>
    intro f s1 done
    match f, done with
    | .next, ⟨σ1, H1, J, q⟩ => exact wpAny_execs_nil ⟨σ1, H1, J.ofTry ok, q⟩
    | .brk, ⟨σ1, H1, J, q⟩ => exact ⟨σ1, H1, J.ofTry ok, q⟩
    | .cont, ⟨σ1, H1, J, q⟩ => exact ⟨σ1, H1, J.ofTry ok, q⟩
    | .ret u, ⟨v, σ1, H1, J, r, q⟩ => exact ⟨v, σ1, H1, J.ofTry ok, r, q⟩
  case caught =>
    rintro u s1 ⟨a, B, sI, pins', σ1, H1, cls, d, rfl, Jt, nb, up, sky, na, os, bare, hmatch, hsuite⟩
    have J : L2.Inv X pins σ1 H1 sI := Jt.ofTry ok
    have sky' : Sky B (X.env :: X.outer) a (Zc cls d) X.env.locals s1.heap := hs ▸ sky
    show wpAny (model X.prog X.w) X.A (noteFrame (.ref a) X.env) _ _ _
    refine Sky.land Zc.steady frames hf sky' ?_
    intro h3 fl3 up3
    have J3 := J.landed (s' := { s1 with heap := h3 }) nb fl3.1 (up.trans up3) os bare
    obtain ⟨oe3, vs3, he3, hz3, hd3⟩ := fl3.there
    have notFrame : a ∉ frs (X.env :: X.outer) := fun hm => by
      obtain ⟨_, o', e', noFields⟩ := fl3.2.2.1.mem hm
      rw [he3] at e'
      cases e'
      exact noFields _ hd3
    have notLocals : a ≠ X.env.locals := fun z => notFrame (List.mem_filterMap.mpr ⟨X.env, List.mem_cons_self, hf.trans (congrArg some z.symm)⟩)
    have newB : B.get? a = none := fl3.2.1
    have newI : ∀ o, sI.heap.get? a ≠ some o := fun o e => by
      have z := nb a o e (by rw [hs]; exact notFrame)
      rw [newB] at z
      cases z
    refine wpAny_handleBy_cons (codeAny_handlers_test ?_) (by intro q; cases q)
    have typed : PySem.W.Looks (model X.prog X.w) h3 (typeOf (.ref a)) cls := fun A Q E s k q => wpAny_typeOf_ref (k _ _ he3) (by rw [hz3.1]; exact q)
    have matches_ := PySem.W.exm_one (M := model X.prog X.w) J3.kIn typed hmatch
    have named : ∀ {Q : Value → Shared → Prop} {E : Value → Shared → Prop}, Q c { s1 with heap := h3 } →
        wpAny (model X.prog X.w) (X.A.mark (some (.ref a))) (eval (.Name x np) X.env) Q E { s1 with heap := h3 } := by
      intro Q E q
      obtain ⟨g, dbg, m | ⟨m, bv, nn⟩⟩ := hc
      · exact ld_glob (X := X.suite a (X.pn ++ pins)) (into_suite a J3) g m q dbg
      · exact ld_blt (X := X.suite a (X.pn ++ pins)) (into_suite a J3) g m bv q nn dbg
    refine named (matches_.here (codeAny_handlers_suite_as (HandSPX.lands_againZ fl3 ?_)))
    intro h4 fl4 up4
    have J4 := J.landed (s' := { s1 with heap := h4 }) nb fl4.1 ((up.trans up3).trans up4) os bare
    obtain ⟨oe4, vs4, he4, hz4, hd4⟩ := fl4.there
    have T4 : L2.Inv X pins σ1 (upd H1 a (erk a cls d)) { s1 with heap := h4 } := by
      refine track J4 na ?_ notLocals (fun y cc e z => ?_) (fun p q z => ?_) (erk_ok he4 hz4 hd4)
      · cases e : X.s_0.heap.get? a with
        | none => rfl
        | some o =>
          obtain ⟨o', e'⟩ := J.base.there a o e (by rw [hex]; exact fun z => nomatch z)
          exact absurd e' (newI o')
      · obtain ⟨v, o, e1, _⟩ := J.cell y cc e
        rw [z] at e1
        exact newI o e1
      · have e1 := (J.pin p q).1
        rw [z] at e1
        exact newI _ e1
    refine store_ok (X := X.suite a (X.pn ++ pins)) (v := .ref a) (into_suite a T4) hN hi (.inl hln) rfl ?_ (.inr hln)
    intro s5 S5
    refine wpAny_mono ((hsu a (X.pn ++ pins)).run [] s5 _ _ _ S5 (hsuite a na)) ?_ fun _ _ z => z.elim
    intro f s6 done
    have leave : ∀ {σ6 : L2.St} {H6 : Hp} {Q : Shared → Prop}, L2.Inv (X.suite a (X.pn ++ pins)) [] σ6 H6 s6 → (∀ s7, L2.Inv X pins (σ6.set i none) H6 s7 → Q s7) →
        wpAny (model X.prog X.w) X.A (do bindName X.env n .none; unbindBehindTheSuite X.env n pos') (fun _ s7 => Q s7) X.xe s6 := fun S6 q => gone_ok (out_of_suite ok S6) hN hi hln q
    match f, done with
    | .next, ⟨_, _, S6, q⟩ => exact leave S6 fun s7 J7 => ⟨_, _, J7, q⟩
    | .brk, ⟨_, _, S6, q⟩ => exact leave S6 fun s7 J7 => ⟨_, _, J7, q⟩
    | .cont, ⟨_, _, S6, q⟩ => exact leave S6 fun s7 J7 => ⟨_, _, J7, q⟩
    | .ret u, ⟨v, _, _, S6, r, q⟩ => exact leave S6 fun s7 J7 => ⟨v, _, _, J7, r, q⟩
end
end K00
set_option Elab.async false
set_option linter.all false
set_option maxRecDepth 100000
set_option maxHeartbeats 4000000
namespace K00
open PySem PySem.Spec L2
def kD : Key → PyData
  | .inl i => .int i
  | .inr y => .str y
/-- the dict {None: 1} at a -/
def ndO (P : Program) (w : World) (a : Addr) : HO := .ext fun h => (a == sysModules) = false ∧ ∃ t, h.DictOf (noneKind P w) a [((none : Option Key), Value.int 1 t)]
theorem ndO_ok {P : Program} {w : World} {H : Hp} {h : Heap} {a : Addr} {t : Tok} (hs : (a == sysModules) = false) (d : h.DictOf (noneKind P w) a [((none : Option Key), Value.int 1 t)]) : ObjOk P w H h a (ndO P w a) := by
  refine ⟨⟨hs, t, d⟩, ?_, ?_⟩
  · obtain ⟨o, _, _, e, _⟩ := d
    exact ⟨o, e⟩
  · rintro h1 h2 ⟨z, t', o, es, ep, e, r⟩ k
    exact ⟨z, t', o, es, ep, k o e, r⟩
theorem ndO_at {P : Program} {w : World} {H : Hp} {h : Heap} {a : Addr} (hok : HOk P w H h) (e : H a = some (ndO P w a)) : (a == sysModules) = false ∧ ∃ t, h.DictOf (noneKind P w) a [((none : Option Key), Value.int 1 t)] := by
  have x : ObjOk P w H h a (.ext fun h => (a == sysModules) = false ∧ ∃ t, h.DictOf (noneKind P w) a [((none : Option Key), Value.int 1 t)]) := hok a _ e
  exact x.1
section
variable (P : Program) (w : World)
mutual
inductive Dat (H : Hp) : V → PyData → List Addr → Prop
  | non : Dat H .non .none []
  | bl (b : Bool) : Dat H (.bl b) (.bool b) []
  | int (i : Int) : Dat H (.int i) (.int i) []
  | str (x : Str) : Dat H (.str x) (.str x) []
  | lst {a : Addr} {xs : List V} {ds : List PyData} {as : List Addr} (h : H a = some (.lst xs)) (r : DatL H xs ds as) : Dat H (.ref a) (.list ds) (a :: as)
  | tup {a : Addr} {xs : List V} {ds : List PyData} {as : List Addr} (h : H a = some (.tup xs)) (r : DatL H xs ds as) : Dat H (.ref a) (.tuple ds) as
  | dic {a : Addr} {kvs : List (Key × V)} {es : List (PyData × PyData)} {as : List Addr} (h : H a = some (.dK kvs)) (r : DatK H kvs es as) : Dat H (.ref a) (.dict es) (a :: as)
  | nd {a : Addr} (h : H a = some (ndO P w a)) : Dat H (.ref a) (.dict [(.none, .int 1)]) [a]
inductive DatL (H : Hp) : List V → List PyData → List Addr → Prop
  | nil : DatL H [] [] []
  | cons {x : V} {xs : List V} {d : PyData} {ds : List PyData} {as bs : List Addr} (h : Dat H x d as) (r : DatL H xs ds bs) : DatL H (x :: xs) (d :: ds) (as ++ bs)
inductive DatK (H : Hp) : List (Key × V) → List (PyData × PyData) → List Addr → Prop
  | nil : DatK H [] [] []
  | cons {k : Key} {x : V} {kvs : List (Key × V)} {d : PyData} {es : List (PyData × PyData)} {as bs : List Addr} (h : Dat H x d as) (r : DatK H kvs es bs) : DatK H ((k, x) :: kvs) ((kD k, d) :: es) (as ++ bs)
end
end
section
variable {P : Program} {w : World}
mutual
theorem Dat.same {H H' : Hp} (k : ∀ b o, H b = some o → (∀ ps, o ≠ .tbl ps) → H' b = some o) : ∀ {x : V} {d : PyData} {as : List Addr}, Dat P w H x d as → Dat P w H' x d as
  | _, _, _, .non => .non
  | _, _, _, .bl b => .bl b
  | _, _, _, .int i => .int i
  | _, _, _, .str y => .str y
  | _, _, _, .lst h q => .lst (k _ _ h (fun _ z => nomatch z)) (DatL.same k q)
  | _, _, _, .tup h q => .tup (k _ _ h (fun _ z => nomatch z)) (DatL.same k q)
  | _, _, _, .dic h q => .dic (k _ _ h (fun _ z => nomatch z)) (DatK.same k q)
  | _, _, _, .nd h => .nd (k _ _ h (fun _ z => nomatch z))
theorem DatL.same {H H' : Hp} (k : ∀ b o, H b = some o → (∀ ps, o ≠ .tbl ps) → H' b = some o) : ∀ {xs : List V} {ds : List PyData} {as : List Addr}, DatL P w H xs ds as → DatL P w H' xs ds as
  | _, _, _, .nil => .nil
  | _, _, _, .cons h q => .cons (Dat.same k h) (DatL.same k q)
theorem DatK.same {H H' : Hp} (k : ∀ b o, H b = some o → (∀ ps, o ≠ .tbl ps) → H' b = some o) : ∀ {xs : List (Key × V)} {ds : List (PyData × PyData)} {as : List Addr}, DatK P w H xs ds as → DatK P w H' xs ds as
  | _, _, _, .nil => .nil
  | _, _, _, .cons h q => .cons (Dat.same k h) (DatK.same k q)
end
mutual
theorem Dat.ch {p : Addr} {H H' : Hp} (k : ∀ b o, b ≠ p → H b = some o → H' b = some o) (nt : ∀ xs, H p ≠ some (.tup xs)) : ∀ {x : V} {d : PyData} {as : List Addr}, Dat P w H x d as → p ∉ as → Dat P w H' x d as
  | _, _, _, .non, _ => .non
  | _, _, _, .bl b, _ => .bl b
  | _, _, _, .int i, _ => .int i
  | _, _, _, .str y, _ => .str y
  | _, _, _, .lst h q, n => .lst (k _ _ (fun e => n (e ▸ List.mem_cons_self)) h) (DatL.ch k nt q fun hm => n (List.mem_cons_of_mem _ hm))
  | _, _, _, .tup (a := a) h q, n => .tup (k _ _ (fun e => nt _ (e ▸ h)) h) (DatL.ch k nt q n)
  | _, _, _, .dic h q, n => .dic (k _ _ (fun e => n (e ▸ List.mem_cons_self)) h) (DatK.ch k nt q fun hm => n (List.mem_cons_of_mem _ hm))
  | _, _, _, .nd h, n => .nd (k _ _ (fun e => n (e ▸ List.mem_cons_self)) h)
theorem DatL.ch {p : Addr} {H H' : Hp} (k : ∀ b o, b ≠ p → H b = some o → H' b = some o) (nt : ∀ xs, H p ≠ some (.tup xs)) : ∀ {xs : List V} {ds : List PyData} {as : List Addr}, DatL P w H xs ds as → p ∉ as → DatL P w H' xs ds as
  | _, _, _, .nil, _ => .nil
  | _, _, _, .cons h q, n => .cons (Dat.ch k nt h fun hm => n (List.mem_append_left _ hm)) (DatL.ch k nt q fun hm => n (List.mem_append_right _ hm))
theorem DatK.ch {p : Addr} {H H' : Hp} (k : ∀ b o, b ≠ p → H b = some o → H' b = some o) (nt : ∀ xs, H p ≠ some (.tup xs)) : ∀ {xs : List (Key × V)} {ds : List (PyData × PyData)} {as : List Addr}, DatK P w H xs ds as → p ∉ as → DatK P w H' xs ds as
  | _, _, _, .nil, _ => .nil
  | _, _, _, .cons h q, n => .cons (Dat.ch k nt h fun hm => n (List.mem_append_left _ hm)) (DatK.ch k nt q fun hm => n (List.mem_append_right _ hm))
end
mutual
theorem Dat.old {H : Hp} : ∀ {x : V} {d : PyData} {as : List Addr} {b : Addr}, Dat P w H x d as → b ∈ as → ∃ D cs, Dat P w H (.ref b) D cs ∧ sizeOf D ≤ sizeOf d
  | _, _, _, _, .non, h => nomatch h
  | _, _, _, _, .bl _, h => nomatch h
  | _, _, _, _, .int _, h => nomatch h
  | _, _, _, _, .str _, h => nomatch h
  | _, _, _, _, .lst h q, hm => by
    rcases List.mem_cons.mp hm with e | hm
    · subst e
      exact ⟨_, _, .lst h q, Nat.le_refl _⟩
    · obtain ⟨D, cs, h1, h2⟩ := DatL.old q hm
      exact ⟨D, cs, h1, by simp only [PyData.list.sizeOf_spec]; omega⟩
  | _, _, _, _, .tup h q, hm => by
    obtain ⟨D, cs, h1, h2⟩ := DatL.old q hm
    exact ⟨D, cs, h1, by simp only [PyData.tuple.sizeOf_spec]; omega⟩
  | _, _, _, _, .dic h q, hm => by
    rcases List.mem_cons.mp hm with e | hm
    · subst e
      exact ⟨_, _, .dic h q, Nat.le_refl _⟩
    · obtain ⟨D, cs, h1, h2⟩ := DatK.old q hm
      exact ⟨D, cs, h1, by simp only [PyData.dict.sizeOf_spec]; omega⟩
  | _, _, _, b, .nd (a := a) h, hm => by
    have e : b = a := by simpa using hm
    subst e
    exact ⟨_, _, .nd h, Nat.le_refl _⟩
theorem DatL.old {H : Hp} : ∀ {xs : List V} {ds : List PyData} {as : List Addr} {b : Addr}, DatL P w H xs ds as → b ∈ as → ∃ D cs, Dat P w H (.ref b) D cs ∧ sizeOf D ≤ sizeOf ds
  | _, _, _, _, .nil, h => nomatch h
  | _, _, _, _, .cons h q, hm => by
    rcases List.mem_append.mp hm with hm | hm
    · obtain ⟨D, cs, h1, h2⟩ := Dat.old h hm
      exact ⟨D, cs, h1, by simp only [List.cons.sizeOf_spec]; omega⟩
    · obtain ⟨D, cs, h1, h2⟩ := DatL.old q hm
      exact ⟨D, cs, h1, by simp only [List.cons.sizeOf_spec]; omega⟩
theorem DatK.old {H : Hp} : ∀ {xs : List (Key × V)} {ds : List (PyData × PyData)} {as : List Addr} {b : Addr}, DatK P w H xs ds as → b ∈ as → ∃ D cs, Dat P w H (.ref b) D cs ∧ sizeOf D ≤ sizeOf ds
  | _, _, _, _, .nil, h => nomatch h
  | _, _, _, _, .cons h q, hm => by
    rcases List.mem_append.mp hm with hm | hm
    · obtain ⟨D, cs, h1, h2⟩ := Dat.old h hm
      exact ⟨D, cs, h1, by simp only [List.cons.sizeOf_spec, Prod.mk.sizeOf_spec]; omega⟩
    · obtain ⟨D, cs, h1, h2⟩ := DatK.old q hm
      exact ⟨D, cs, h1, by simp only [List.cons.sizeOf_spec]; omega⟩
end
theorem nd_ne {a : Addr} {kvs : List (Key × V)} : HO.dK kvs ≠ ndO P w a := fun z => by
  have z' : HO.dK kvs = HO.ext _ := z
  cases z'
mutual
theorem Dat.one {H : Hp} : ∀ {x : V} {d e : PyData} {as bs : List Addr}, Dat P w H x d as → Dat P w H x e bs → d = e
  | _, _, _, _, _, .non, h => by cases h; rfl
  | _, _, _, _, _, .bl b, h => by cases h; rfl
  | _, _, _, _, _, .int i, h => by cases h; rfl
  | _, _, _, _, _, .str y, h => by cases h; rfl
  | _, _, _, _, _, .lst h q, h' => by
    cases h' with
    | lst h2 q2 =>
      rw [h] at h2
      cases h2
      rw [DatL.one q q2]
    | tup h2 q2 => rw [h] at h2; cases h2
    | dic h2 q2 => rw [h] at h2; cases h2
    | nd h2 => rw [h] at h2; exact nomatch (Option.some.inj h2 : HO.lst _ = HO.ext _)
  | _, _, _, _, _, .tup h q, h' => by
    cases h' with
    | lst h2 q2 => rw [h] at h2; cases h2
    | tup h2 q2 =>
      rw [h] at h2
      cases h2
      rw [DatL.one q q2]
    | dic h2 q2 => rw [h] at h2; cases h2
    | nd h2 => rw [h] at h2; exact nomatch (Option.some.inj h2 : HO.tup _ = HO.ext _)
  | _, _, _, _, _, .dic h q, h' => by
    cases h' with
    | lst h2 q2 => rw [h] at h2; cases h2
    | tup h2 q2 => rw [h] at h2; cases h2
    | dic h2 q2 =>
      rw [h] at h2
      cases h2
      rw [DatK.one q q2]
    | nd h2 => rw [h] at h2; exact absurd (Option.some.inj h2) nd_ne
  | _, _, _, _, _, .nd h, h' => by
    cases h' with
    | lst h2 q2 => rw [h] at h2; exact nomatch (Option.some.inj h2 : HO.ext _ = HO.lst _)
    | tup h2 q2 => rw [h] at h2; exact nomatch (Option.some.inj h2 : HO.ext _ = HO.tup _)
    | dic h2 q2 => rw [h] at h2; exact absurd (Option.some.inj h2).symm nd_ne
    | nd h2 => rfl
theorem DatL.one {H : Hp} : ∀ {xs : List V} {ds es : List PyData} {as bs : List Addr}, DatL P w H xs ds as → DatL P w H xs es bs → ds = es
  | _, _, _, _, _, .nil, h => by cases h; rfl
  | _, _, _, _, _, .cons h q, h' => by
    cases h' with
    | cons h2 q2 => rw [Dat.one h h2, DatL.one q q2]
theorem DatK.one {H : Hp} : ∀ {xs : List (Key × V)} {ds es : List (PyData × PyData)} {as bs : List Addr}, DatK P w H xs ds as → DatK P w H xs es bs → ds = es
  | _, _, _, _, _, .nil, h => by cases h; rfl
  | _, _, _, _, _, .cons h q, h' => by
    cases h' with
    | cons h2 q2 => rw [Dat.one h h2, DatK.one q q2]
end
/-- no dict stands within its own values -/
theorem Dat.apart {H : Hp} {a : Addr} {kvs : List (Key × V)} {es : List (PyData × PyData)} {as : List Addr} (h : H a = some (.dK kvs)) (q : DatK P w H kvs es as) : a ∉ as := fun hm => by
  obtain ⟨D, cs, h1, h2⟩ := DatK.old q hm
  have e := Dat.one h1 (.dic h q)
  rw [e] at h2
  simp only [PyData.dict.sizeOf_spec] at h2
  omega
end
end K00
set_option Elab.async false
set_option linter.all false
set_option maxRecDepth 100000
set_option maxHeartbeats 4000000
namespace K00
open PySem PySem.Spec L2
/-- at 1 stands a dict of the module's start -/
def Sys (K : PySem.W.Frag) : Prop := ∃ o, K.lookup sysModules = some o ∧ o.cls = .type "dict"
theorem nk_none' {v : Value} (h : nkIs none v = true) : v = .none := nk_none h
section
variable {X : Cx} {pins : List (Addr × Obj)} {σ : L2.St} {H : Hp} {s : Shared}
mutual
theorem Dat.reads (I : L2.Inv X pins σ H s) (S : Sys X.K) : ∀ {x : V} {d : PyData} {as : List Addr} {u : Value}, Dat X.prog X.w H x d as → RelV x u → Reads s.heap u d as ∧ sysModules ∉ as
  | _, _, _, u, .non, r => by cases (show u = Value.none from r); exact ⟨.none, by simp⟩
  | _, _, _, u, .bl b, r => by cases (show u = Value.bool b from r); exact ⟨.bool b, by simp⟩
  | _, _, _, u, .int i, r => by obtain ⟨t, e⟩ := (show ∃ t, u = Value.int i t from r); cases e; exact ⟨.int i t, by simp⟩
  | _, _, _, u, .str y, r => by obtain ⟨t, e⟩ := (show ∃ t, u = Value.str y t from r); cases e; exact ⟨.str y t, by simp⟩
  | _, _, _, u, .lst (a := a) (xs := xs) h q, r => by
    cases (show u = Value.ref a from r)
    obtain ⟨_, its, n, rv, e⟩ := (show ObjOk X.prog X.w H s.heap a (.lst xs) from I.hok a _ h)
    obtain ⟨z, ns⟩ := DatL.reads I S q rv
    refine ⟨.list e rfl rfl (by simpa using z), fun hm => ?_⟩
    rcases List.mem_cons.mp hm with hm | hm
    · obtain ⟨o, ho, hc⟩ := S
      have e2 := I.kIn _ _ ho
      rw [hm, e] at e2
      rw [← Option.some.inj e2] at hc
      exact absurd hc (by intro z; injection z with z; exact absurd z (by decide))
    · exact ns hm
  | _, _, _, u, .tup (a := a) (xs := xs) h q, r => by
    cases (show u = Value.ref a from r)
    obtain ⟨_, its, rv, o, h1, h2, n, h3⟩ := (show ObjOk X.prog X.w H s.heap a (.tup xs) from I.hok a _ h)
    obtain ⟨z, ns⟩ := DatL.reads I S q rv
    exact ⟨.tuple h1 h2 h3 (by simpa using z), ns⟩
  | _, _, _, u, .dic (a := a) (kvs := kvs) h q, r => by
    cases (show u = Value.ref a from r)
    obtain ⟨_, hs, vs, kv, o, es, ep, h1, h2, h3, _, h5, _⟩ := (show ObjOk X.prog X.w H s.heap a (.dK kvs) from I.hok a _ h)
    obtain ⟨z1, z2, ns⟩ := DatK.reads I S q kv h5
    refine ⟨.dict (as := []) h1 h2.1 h3 z1 z2, fun hm => ?_⟩
    rcases List.mem_cons.mp hm with hm | hm
    · exact absurd hm.symm (beq_eq_false_iff_ne.mp hs)
    · exact ns hm
  | _, _, _, u, .nd (a := a) h, r => by
    cases (show u = Value.ref a from r)
    obtain ⟨hs, t, o, es, ep, h1, h2, h3, _, h5, _⟩ := ndO_at I.hok h
    obtain ⟨esl⟩ := es
    cases h5 with
    | @cons en kv' es' kvs' p1 p2 p3 =>
      cases p3
      have e1 : en.key = .none := nk_none' p1
      have e2 : en.val = Value.int 1 t := p2
      refine ⟨.dict (as := []) (bs := []) h1 h2.1 h3 ?_ ?_, fun hm => ?_⟩
      · show ReadsAll s.heap [en.key] [PyData.none] ([] ++ [])
        rw [e1]
        exact .cons .none .nil
      · show ReadsAll s.heap [en.val] [PyData.int 1] ([] ++ [])
        rw [e2]
        exact .cons (.int 1 t) .nil
      · have e : sysModules = a := by simpa using hm
        exact absurd e.symm (beq_eq_false_iff_ne.mp hs)
theorem DatL.reads (I : L2.Inv X pins σ H s) (S : Sys X.K) : ∀ {xs : List V} {ds : List PyData} {as : List Addr} {us : List Value}, DatL X.prog X.w H xs ds as → Vals xs us → ReadsAll s.heap us ds as ∧ sysModules ∉ as
  | _, _, _, _, .nil, r => by cases r; exact ⟨.nil, by simp⟩
  | _, _, _, _, .cons h q, r => by
    cases r with
    | cons r1 r2 =>
      obtain ⟨z1, n1⟩ := Dat.reads I S h r1
      obtain ⟨z2, n2⟩ := DatL.reads I S q r2
      exact ⟨.cons z1 z2, fun hm => by
        rcases List.mem_append.mp hm with hm | hm
        · exact n1 hm
        · exact n2 hm⟩
theorem DatK.reads (I : L2.Inv X pins σ H s) (S : Sys X.K) : ∀ {kvs : List (Key × V)} {ds : List (PyData × PyData)} {as : List Addr} {vs : List (Key × Value)} {es : List DictEntry}, DatK X.prog X.w H kvs ds as → KV kvs vs → Pairs (mixKind X.prog X.w) es vs →
    ReadsAll s.heap (es.map (·.key)) (ds.map (·.1)) [] ∧ ReadsAll s.heap (es.map (·.val)) (ds.map (·.2)) as ∧ sysModules ∉ as
  | _, _, _, _, _, .nil, r, p => by
    cases r
    cases p
    exact ⟨.nil, .nil, by simp⟩
  | _, _, _, _, _, .cons (k := k) (x := x) h q, r, p => by
    cases r with
    | @cons aa bb l1 l2 c t =>
      obtain ⟨k', u⟩ := bb
      obtain ⟨c1, c2⟩ := c
      have c1' : k = k' := c1
      subst c1'
      cases p with
      | @cons en kv' es' kvs' p1 p2 p3 =>
        obtain ⟨z1, n1⟩ := Dat.reads I S h (show RelV x u from c2)
        obtain ⟨y1, y2, n2⟩ := DatK.reads I S q t p3
        have p1' : keyIs k en.key = true := p1
        have p2' : en.val = u := p2
        refine ⟨?_, ?_, fun hm => ?_⟩
        · rcases keyIs_shape p1' with ⟨i, tt, rfl, ek⟩ | ⟨y, tt, rfl, ek⟩
          · show ReadsAll s.heap (en.key :: es'.map (·.key)) (PyData.int i :: _) ([] ++ [])
            rw [ek]
            exact .cons (.int i tt) y1
          · show ReadsAll s.heap (en.key :: es'.map (·.key)) (PyData.str y :: _) ([] ++ [])
            rw [ek]
            exact .cons (.str y tt) y1
        · show ReadsAll s.heap (en.val :: es'.map (·.val)) (_ :: _) _
          rw [p2']
          exact .cons z1 y2
        · rcases List.mem_append.mp hm with hm | hm
          · exact n1 hm
          · exact n2 hm
end
/-- data that repr shows within small bounds -/
def goodB (d : PyData) : Bool := d.showable && (Nat.ble d.shown.length 1000000 && Nat.ble d.depth 40)
def Data (P : Program) (w : World) (H : Hp) (x : V) (d : PyData) : Prop := ∃ as, Dat P w H x d as
def rRepr (P : Program) (w : World) : List V → Hp → VK → Prop := fun xs H Q => ∃ (x : V) (d : PyData), xs = [x] ∧ Data P w H x d ∧ goodB d = true ∧ Q (.str d.shown) H
theorem big1 {n : Nat} (h : n ≤ 1000000) : n ≤ sizeLine := Nat.le_trans h (by decide)
theorem call_repr (S : Sys X.K) (hg : X.A.guards = some []) (hu : X.A.units + 50 < cLine) : CallR X (.builtin "repr") (rRepr X.prog X.w) := by
  intro pins s σ H xs us Q I r h
  obtain ⟨x, d, rfl, ⟨as, hd⟩, hgd, q⟩ := h
  cases r with
  | cons r1 r2 =>
    cases r2
    obtain ⟨z, ns⟩ := hd.reads I S r1
    obtain ⟨g1, g2⟩ := He.ba hgd
    obtain ⟨g2, g3⟩ := He.ba g2
    have hsz : d.shown.length ≤ sizeLine := big1 (Nat.le_of_ble_eq_true g2)
    have g3' : d.depth ≤ 40 := Nat.le_of_ble_eq_true g3
    cases z with
    | none => exact PySem.P.repr_of_none ⟨.str _, H, I.tok _, ⟨_, by simp only [PyData.shown]; rfl⟩, q⟩
    | bool b => exact PySem.P.repr_of_bool ⟨.str _, H, I.tok _, ⟨_, by simp only [PyData.shown]; rfl⟩, q⟩
    | int i t => exact PySem.P.repr_of_int (by simpa [PyData.showable] using g1) ⟨.str _, H, I.tok _, ⟨_, by simp only [PyData.shown]; rfl⟩, q⟩
    | str y t => exact PySem.P.repr_of_str ⟨.str _, H, I.tok _, ⟨_, by simp only [PyData.shown]; rfl⟩, q⟩ (by simpa only [PyData.shown] using hsz)
    | list h1 h2 h3 h4 => exact repr_of_reads' (.list h1 h2 h3 h4) g1 (fun _ => ns) hg (by omega) (fun _ _ e => e) (fun h' u tk hk => ⟨.str _, H, I.kept (t' := tk) hk, ⟨_, rfl⟩, q⟩) hsz
    | tuple h1 h2 h3 h4 => exact repr_of_reads' (.tuple h1 h2 h3 h4) g1 (fun _ => ns) hg (by omega) (fun _ _ e => e) (fun h' u tk hk => ⟨.str _, H, I.kept (t' := tk) hk, ⟨_, rfl⟩, q⟩) hsz
    | dict h1 h2 h3 h4 h5 => exact repr_of_reads' (.dict h1 h2 h3 h4 h5) g1 (fun _ => ns) hg (by omega) (fun _ _ e => e) (fun h' u tk hk => ⟨.str _, H, I.kept (t' := tk) hk, ⟨_, rfl⟩, q⟩) hsz
/-- the class of data -/
def tyD : PyData → String
  | .none => "NoneType"
  | .bool _ => "bool"
  | .int _ => "int"
  | .str _ => "str"
  | .list _ => "list"
  | .tuple _ => "tuple"
  | .dict _ => "dict"
theorem kit_data (I : L2.Inv X pins σ H s) {x : V} {d : PyData} {as : List Addr} {u : Value} (h : Dat X.prog X.w H x d as) (r : RelV x u) :
    ∃ Q : Heap → Prop, PySem.W.KitX X.K u (.type (tyD d)) Q ∧ Q s.heap ∧ u ≠ .builtin "__main__.__loader__#opaque" := by
  cases h with
  | non => cases (show u = Value.none from r); exact ⟨_, PySem.W.kitx_none, True.intro, fun z => nomatch z⟩
  | bl b => cases (show u = Value.bool b from r); exact ⟨_, PySem.W.kitx_bool, True.intro, fun z => nomatch z⟩
  | int i => obtain ⟨t, e⟩ := (show ∃ t, u = Value.int i t from r); cases e; exact ⟨_, PySem.W.kitx_int, True.intro, fun z => nomatch z⟩
  | str y => obtain ⟨t, e⟩ := (show ∃ t, u = Value.str y t from r); cases e; exact ⟨_, PySem.W.kitx_str, True.intro, fun z => nomatch z⟩
  | @lst a xs ds as h q =>
    cases (show u = Value.ref a from r)
    obtain ⟨_, its, n, rv, e⟩ := (show ObjOk X.prog X.w H s.heap a (.lst xs) from I.hok a _ h)
    exact ⟨_, PySem.W.kitx_list, ⟨_, e, rfl⟩, fun z => nomatch z⟩
  | @tup a xs ds as h q =>
    cases (show u = Value.ref a from r)
    obtain ⟨_, its, rv, o, h1, h2, n, h3⟩ := (show ObjOk X.prog X.w H s.heap a (.tup xs) from I.hok a _ h)
    exact ⟨_, PySem.W.kitx_tuple, ⟨o, h1, h2⟩, fun z => nomatch z⟩
  | @dic a kvs es as h q =>
    cases (show u = Value.ref a from r)
    obtain ⟨_, hs, vs, kv, o, es, ep, h1, h2, _⟩ := (show ObjOk X.prog X.w H s.heap a (.dK kvs) from I.hok a _ h)
    exact ⟨_, PySem.W.kitx_dict, ⟨o, h1, h2.1⟩, fun z => nomatch z⟩
  | @nd a h =>
    cases (show u = Value.ref a from r)
    obtain ⟨hs, t, o, es, ep, h1, h2, _⟩ := ndO_at I.hok h
    exact ⟨_, PySem.W.kitx_dict, ⟨o, h1, h2.1⟩, fun z => nomatch z⟩
/-- isinstance(x, T), x data, T a built-in class -/
def rIsD (P : Program) (w : World) : List V → Hp → VK → Prop := fun xs H Q => ∃ (x : V) (T : String) (d : PyData) (b : Bool), xs = [x, .ty T] ∧ Data P w H x d ∧ kitB (tyD d) T = some b ∧ Q (.bl b) H
theorem call_isD : CallR X (.builtin "isinstance") (rIsD X.prog X.w) := by
  intro pins s σ H xs us Q I r h
  obtain ⟨x, T, d, b, rfl, ⟨as, hd⟩, e, q⟩ := h
  obtain ⟨u1, u2, rfl, r1, r2⟩ := vals2 r
  have e2 : u2 = .type T := r2
  subst e2
  obtain ⟨Q', Z, p, hx⟩ := kit_data I hd r1
  exact PySem.W.kia_one Z I.kIn p (kit_ty e) hx fun tk => ⟨.bl b, H, I.tok tk, rfl, q⟩
end
end K00
set_option Elab.async false
set_option linter.all false
set_option maxRecDepth 100000
set_option maxHeartbeats 4000000
/-! K00F: promises of defs that are called where no repr is under way. -/
namespace K00
open PySem PySem.Spec L2
open PyProof.Rows (envOfC)
/-- as a def's promise, for calls outside of every repr -/
structure FnG (P : Program) (w : World) (K : PySem.W.Frag) (mg : Str → Option Value) (base : Heap) (k : Nat) (f : Addr) (fd : FuncData) (ps : List Str) (sp : Sp) : Prop where
  len : ∀ vs H Q E, sp vs H Q E → vs.length = ps.length
  run : ∀ (A : Around) (outer : List Env) (s : Shared) (H : Hp) (args : Args) (us : List Value) (vs : List V) (Q : VK) (E : XK), A.guards = some [] → Room k A →
    Env0 P w K mg base A outer s H → BindsTo s fd args (ps.zip us) → Vals vs us → sp vs H Q E → codeAny (model P w) A (.call (.ref f) args) (CR CX0 outer P w H s Q E) s
section
variable {P : Program} {w : World} {K : PySem.W.Frag} {mg : Str → Option Value} {base : Heap}
theorem fnG_of {k : Nat} {f : Addr} {x : Str} {st : Stmt} {fd : FuncData} {N ps : List Str} {sp : Sp} (F : FunD K x x (defArgs st) (defBody st) (defScope st) [] [] f fd) (S : FnScope N ps (defScope st))
    (len : ∀ vs H Q E, sp vs H Q E → vs.length = ps.length)
    (body : ∀ (cdv : Value) (A : Around) (outer : List Env) (s : Shared) (H : Hp) (vs : List V) (Q : VK) (E : XK), A.guards = some [] → Room k (A.deeper (envOfC x (defScope st) s.heap.objs.size f cdv)) → sp vs H Q E →
      ∃ t, PSs (cxOf CX0 P w K mg base N x (defScope st) f cdv A outer s H E) (defBody st) t ∧ t { nx := fun _ H' => Q .non H', rt := Q } (start N vs) H) :
    FnG P w K mg base (k + 1) f fd ps sp := by
  refine ⟨len, ?_⟩
  intro A outer s H args us vs Q E hgd hr e0 hb r hsp
  obtain ⟨oc, od, dV, kV, doc, pm, an, cdv, ct, osl, rfl, lk, hcd, _, _⟩ := F.ex
  have stands := fun b o (e : base.get? b = some o) => (e0.bs b o e).1
  have inK : K.In s.heap := e0.mod.kin.keeps stands
  have size_ := len _ _ _ _ hsp
  have params : ∀ y ∈ ps.zip us, (defScope st).names.lookup y.1 = some .local ∨
      ((defScope st).names.lookup y.1 = some .cell ∧ ((cellsFrom (s.heap.objs.size + 1) (defScope st).names []).lookup y.1).isSome = true) := by
    rintro ⟨n, v⟩ hy
    exact (S.par n (List.of_mem_zip hy).1).imp id fun q => ⟨q, PySem.W.cellsFrom_some _ _ _ (Or.inl q)⟩
  refine codeAny_call_function hr.depth (inK _ _ lk) rfl S.co S.gen rfl
    (PySem.W.codeRec_of inK hcd) (hb _ _ _ _ (wpAny_newFunctionEnv_cells S.kind params ?_))
  intro env he s1 x
  subst he
  obtain ⟨t, ht, hq⟩ := body cdv A outer s H vs Q E hgd (hr.deeper _) hsp
  have I := inv_start (CX := CX0) (E := E) (qual := _) S hr.hd e0 size_ r x
  refine ⟨(e0.mod.nolimit.keeps stands).keeps x.toInCall.keep, codeAny_func (wpAny_mono (ht.run [] s1 _ H _ I hq) ?_ fun _ _ z => z)⟩
  intro fl s' hs
  match fl, hs with
  | .ret u, ⟨v, σ', H', J, rv, q⟩ => exact ⟨v, H', J.os, J.bare, J.base, J.hok, rv, q⟩
  | .next, ⟨σ', H', J, q⟩ => exact ⟨V.non, H', J.os, J.bare, J.base, J.hok, rfl, q⟩
  | .brk, ⟨_, _, _, q⟩ => exact q.elim
  | .cont, ⟨_, _, _, q⟩ => exact q.elim
end
section
variable {X : Cx}
theorem pe_callG {k : Nat} {f : Addr} {fd : FuncData} {ps : List Str} {sp : Sp} {e : Expr} {es : List Expr} {t : TA} {x : Str} {p pos : Pos} (F : FnG X.prog X.w X.K X.mg X.base k f fd ps sp) (hgd : X.A.guards = some []) (hr : Room k X.A) (hm : X.mg x = some (.ref f))
    (hk : PySem.W.keepIn X.K (.ref f) = true) (hb : Binds X.K fd ps []) (ha : PA X (e :: es) t) (hg : Gl X x := by rfl) (hdb : (x == ("__debug__" : Str)) = false := by decide)
    (he : starEach (e :: es) X.env = (false, eval e X.env) :: starEach es X.env := by rfl) (hpl : (backTo pos (starEach es X.env)).any (·.1) = false := by rfl) :
    PE X (.Call (.Name x p) (e :: es) [] pos) (tCall sp [] E0 t) := by
  refine ⟨fun pins s σ H Q I h => wpAny_Call_Name_kw (ld_glob I hg hm ?_ hdb)⟩
  refine PySem.W.callWith_K (h₀ := X.base) I.ok.mod.kin hk (thn (ha.run pos pins s σ H _ I h) fun us s1 hu => ?_) he hpl
  obtain ⟨vs, H1, J, r, q⟩ := hu
  refine ⟨J.kIn, ?_⟩
  have rr : Vals (vs ++ []) (us ++ []) := r.append .nil
  have hl : (us ++ []).length = ps.length := rr.length.symm.trans (F.len _ _ _ _ q)
  refine wpAny_call (codeAny_mono (F.run X.A X.stack s1 H1 ⟨us, []⟩ _ _ Q E0 hgd hr J.env0 (hb s1 us J.kIn hl) rr q) ?_)
  intro res s2 h2
  match res, h2 with
  | .ok (.ret u), h2 => exact J.after h2
  | .ok .next, h2 => exact h2.elim
  | .ok .brk, h2 => exact h2.elim
  | .ok .cont, h2 => exact h2.elim
  | .error e', h2 => exact h2.elim
end
end K00
set_option Elab.async false
set_option linter.all false
set_option maxRecDepth 100000
set_option maxHeartbeats 4000000
/-! K00G: list(zip(a, b)) of two lists, as a value. -/
namespace K00Z
open PySem PySem.Calls PyProof.Rows
theorem zip_no_len : typeLookup (.type "zip") "__len__" = pure none := am_miss_of_fast (by decide +kernel)
theorem zip_no_hint : typeLookup (.type "zip") "__length_hint__" = pure none := am_miss_of_fast (by decide +kernel)
section
variable {prog : Program} {w : World} {A : Around} {E : Value → Shared → Prop} {s : Shared} {R : Result → Shared → Prop} {z TI TO i1 i2 l1 l2 S : Addr} {xs ys : Array Value}
/-- the zip at z has given out i pairs -/
structure ZSt (h : Heap) (z TI TO i1 i2 l1 l2 S : Addr) (i : Nat) (xs ys : Array Value) : Prop where
  ti : IsPair h TI (.ref i1) (.ref i2)
  h1 : h.IsListIter i1 l1 i
  h2 : h.IsListIter i2 l2 i
  l1 : h.IsList l1 xs
  l2 : h.IsList l2 ys
  zz : (IsZip h z TI TO .none ∧ ∃ a b, IsPair h TO a b) ∨ ∃ T f oT, IsZipHeld h z TI TO T f ∧ h.get? T = some oT ∧ T ≠ z ∧ T ≠ i1 ∧ T ≠ i2 ∧ T ≠ S
/-- S stands apart from all of the zip's -/
structure Off (z TI TO i1 i2 l1 l2 S : Addr) : Prop where
  z : z ≠ S
  ti : TI ≠ S
  to : TO ≠ S
  i1 : i1 ≠ S
  i2 : i2 ≠ S
  l1 : l1 ≠ S
  l2 : l2 ≠ S
theorem ZSt.keep {h h' : Heap} {i : Nat} (x : ZSt h z TI TO i1 i2 l1 l2 S i xs ys) (O : Off z TI TO i1 i2 l1 l2 S) (hk : ∀ b o, b ≠ S → h.get? b = some o → h'.get? b = some o) : ZSt h' z TI TO i1 i2 l1 l2 S i xs ys where
  ti := hk _ _ O.ti x.ti
  h1 := x.h1.at fun o e => hk _ o O.i1 e
  h2 := x.h2.at fun o e => hk _ o O.i2 e
  l1 := x.l1.at fun o e => hk _ o O.l1 e
  l2 := x.l2.at fun o e => hk _ o O.l2 e
  zz := by
    rcases x.zz with ⟨hz, a, b, hTO⟩ | ⟨T, f, oT, hz, hT, r1, r2, r3, r4⟩
    · exact .inl ⟨hk _ _ O.z hz, a, b, hk _ _ O.to hTO⟩
    · exact .inr ⟨T, f, oT, hk _ _ O.z hz, hk _ _ r4 hT, r1, r2, r3, r4⟩
theorem zl_item {i : Nat} {x y : Value} {Q : Option Value → Shared → Prop} (D : ZipApart z TI TO i1 i2 l1 l2) (O : Off z TI TO i1 i2 l1 l2 S) (st : ZSt s.heap z TI TO i1 i2 l1 l2 S i xs ys) (hS : S < s.heap.objs.size) (ex : xs[i]? = some x) (ey : ys[i]? = some y)
    (hQ : ∀ h', ZSt h' z TI TO i1 i2 l1 l2 S (i + 1) xs ys → IsPair h' s.heap.objs.size x y → (∀ c o, c ≠ z → c ≠ TO → c ≠ i1 → c ≠ i2 → s.heap.get? c = some o → h'.get? c = some o) → Q (some (.ref s.heap.objs.size)) { s with heap := h' }) :
    wpAny (model prog w) A (pyNext (.ref z)) Q E s := by
  obtain ⟨hTI, h1, h2, hl1, hl2, hz⟩ := st
  have lt : ∀ {c o}, s.heap.get? c = some o → s.heap.objs.size ≠ c := fun e => Nat.ne_of_gt (Heap.lt_size e)
  have n1 : s.heap.objs.size ≠ i1 := let ⟨_, e, _⟩ := h1; lt e
  have n2 : s.heap.objs.size ≠ i2 := let ⟨_, e, _⟩ := h2; lt e
  rcases hz with ⟨hz, a, b, hTO⟩ | ⟨T, f, oT, hz, hT, r1, r2, r3, r4⟩
  · refine wpAny_pyNext_zip_item D hz hTI hTO h1 h2 hl1 hl2 ex ey fun h' a1 a2 a3 a4 a5 a6 hk => ?_
    exact hQ h' ⟨hk _ _ D.TIz D.TITO D.TIi1 D.TIi2 hTI, a3, a4, hl1.at fun o e => hk _ o D.l1z D.l1TO D.l1i1 D.l1i2 e, hl2.at fun o e => hk _ o D.l2z D.l2TO D.l2i1 D.l2i2 e,
      .inr ⟨s.heap.objs.size, false, _, a1, a5, lt hz, n1, n2, Nat.ne_of_gt hS⟩⟩ a5 hk
  · refine wpAny_pyNext_zip_item_held D hz hT hTI h1 h2 hl1 hl2 ex ey fun h' a1 a3 a4 a5 a6 hk => ?_
    exact hQ h' ⟨hk _ _ D.TIz D.TIi1 D.TIi2 hTI, a3, a4, hl1.at fun o e => hk _ o D.l1z D.l1i1 D.l1i2 e, hl2.at fun o e => hk _ o D.l2z D.l2i1 D.l2i2 e,
      .inr ⟨T, true, oT, a1, hk _ _ r1 r2 r3 hT, r1, r2, r3, r4⟩⟩ a5 fun c o c1 _ c3 c4 e => hk c o c1 c3 c4 e
theorem zl_done {i : Nat} {Q : Option Value → Shared → Prop} (hh : A.handled = none) (D : ZipApart z TI TO i1 i2 l1 l2) (st : ZSt s.heap z TI TO i1 i2 l1 l2 S i xs ys) (ex : xs[i]? = none ∨ ys[i]? = none)
    (hQ : ∀ h', (∀ c o, c ≠ z → c ≠ TO → c ≠ i1 → c ≠ i2 → s.heap.get? c = some o → h'.get? c = some o) → Q none { s with heap := h' }) :
    wpAny (model prog w) A (pyNext (.ref z)) Q E s := by
  obtain ⟨hTI, h1, h2, hl1, hl2, hz⟩ := st
  rcases hz with ⟨hz, a, b, hTO⟩ | ⟨T, f, oT, hz, hT, r1, r2, r3, r4⟩
  · exact wpAny_pyNext_zip_end hh D hz hTI hTO h1 h2 hl1 hl2 ex fun h' hk => hQ h' hk
  · exact wpAny_pyNext_zip_end_held hh D hz hT hTI h1 h2 hl1 hl2 ex fun h' hk => hQ h' fun c o c1 _ c3 c4 e => hk c o c1 c3 c4 e
/-- the tuples made so far -/
structure ZG (xs ys : Array Value) (lo : Addr) (h : Heap) (as : List Addr) : Prop where
  rise : as.Pairwise (· < ·)
  above : ∀ a ∈ as, lo < a
  pairs : ∀ (j : Nat) (a : Addr), as[j]? = some a → ∃ x y, xs[j]? = some x ∧ ys[j]? = some y ∧ IsPair h a x y
theorem ZG.there {lo : Addr} {h : Heap} {as : List Addr} (g : ZG xs ys lo h as) {a : Addr} (ha : a ∈ as) : a < h.objs.size := by
  obtain ⟨j, hj⟩ := List.mem_iff_getElem?.mp ha
  obtain ⟨_, _, _, _, e⟩ := g.pairs j a hj
  exact Heap.lt_size e
structure Below (z TI TO i1 i2 l1 l2 S : Addr) : Prop where
  z : z < S
  ti : TI < S
  to : TO < S
  i1 : i1 < S
  i2 : i2 < S
  l1 : l1 < S
  l2 : l2 < S
theorem Below.off (B : Below z TI TO i1 i2 l1 l2 S) : Off z TI TO i1 i2 l1 l2 S := ⟨Nat.ne_of_lt B.z, Nat.ne_of_lt B.ti, Nat.ne_of_lt B.to, Nat.ne_of_lt B.i1, Nat.ne_of_lt B.i2, Nat.ne_of_lt B.l1, Nat.ne_of_lt B.l2⟩
theorem zl_loop (hh : A.handled = none) (D : ZipApart z TI TO i1 i2 l1 l2) (B : Below z TI TO i1 i2 l1 l2 S) (hxy : xs.size = ys.size) (hn : xs.size ≤ sizeLine) (res : Value) {h₁ : Heap}
    (hR : ∀ h' tk acc c as, (∀ b o, b ≠ S → b ≠ z → b ≠ TO → b ≠ i1 → b ≠ i2 → h₁.get? b = some o → h'.get? b = some o) → h'.get? S = some { cls := .type "list", dict := none, data := .seq acc c, slots := #[] } → as.length = xs.size → ZG xs ys S h' as →
      acc.toList = as.map Value.ref → R (.ok (.ret res)) { s with heap := h', toks := tk }) :
    ∀ (k i : Nat) (h : Heap) (tk c : Nat) (acc : Array Value) (as : List Addr), xs.size - i = k → i ≤ xs.size → ZSt h z TI TO i1 i2 l1 l2 S i xs ys → (∀ b o, b ≠ S → b ≠ z → b ≠ TO → b ≠ i1 → b ≠ i2 → h₁.get? b = some o → h.get? b = some o) →
      h.get? S = some { cls := .type "list", dict := none, data := .seq acc c, slots := #[] } → acc.toList = as.map Value.ref → as.length = i → ZG xs ys S h as →
      codeAny (model prog w) A (.builtin "list.extend.loop" ⟨[.ref S, .ref z, res], []⟩) R { s with heap := h, toks := tk } := by
  have O := B.off
  intro k
  induction k with
  | zero =>
    intro i h tk c acc as hk hi hst hkeep hS hacc hal hG
    have hin : i = xs.size := by omega
    refine codeAny_builtin PySem.F.entry_extend_loop ?_
    rw [Around.under_plainId PySem.F.plain_extend_loop _]
    show wpAny _ A.in1 (pyNext (.ref z) >>= _) _ _ _
    refine wpAny_bind (zl_done (s := { s with heap := h, toks := tk }) (A := A.in1) hh D hst (.inl (Array.getElem?_eq_none (by omega))) fun h' he => ?_)
    refine wpAny_pure (hR h' tk acc c as (fun b o h1 h2 h3 h4 h5 e => he b o h2 h3 h4 h5 (hkeep b o h1 h2 h3 h4 h5 e)) (he S _ (Ne.symm O.z) (Ne.symm O.to) (Ne.symm O.i1) (Ne.symm O.i2) hS) (by omega) ⟨hG.rise, hG.above, fun j a hj => ?_⟩ hacc)
    obtain ⟨x, y, e1, e2, e3⟩ := hG.pairs j a hj
    have ha := hG.above a (List.mem_of_getElem? hj)
    exact ⟨x, y, e1, e2, he a _ (Nat.ne_of_gt (Nat.lt_trans B.z ha)) (Nat.ne_of_gt (Nat.lt_trans B.to ha)) (Nat.ne_of_gt (Nat.lt_trans B.i1 ha)) (Nat.ne_of_gt (Nat.lt_trans B.i2 ha)) e3⟩
  | succ k ih =>
    intro i h tk c acc as hk hi hst hkeep hS hacc hal hG
    have hlt : i < xs.size := by omega
    have hlt2 : i < ys.size := by omega
    have ex := Array.getElem?_eq_getElem hlt
    have ey := Array.getElem?_eq_getElem hlt2
    have hsz : acc.size = i := by rw [← Array.length_toList, hacc, List.length_map, hal]
    have hSl : S < h.objs.size := Heap.lt_size hS
    refine codeAny_builtin PySem.F.entry_extend_loop ?_
    rw [Around.under_plainId PySem.F.plain_extend_loop _]
    show wpAny _ A.in1 (pyNext (.ref z) >>= _) _ _ _
    refine wpAny_bind (zl_item (s := { s with heap := h, toks := tk }) D O hst hSl ex ey fun h' hst' ht hkp => ?_)
    dsimp only at ht hkp ⊢
    have hS' := hkp S _ (Ne.symm O.z) (Ne.symm O.to) (Ne.symm O.i1) (Ne.symm O.i2) hS
    have up : ∀ b o, b ≠ S → h'.get? b = some o → (h'.update S (Obj.mapSeq (·.push (Value.ref h.objs.size)))).get? b = some o := fun b o hb e => (Heap.get?_update_other _ _ (Ne.symm hb)).trans e
    have kp2 : ∀ b o, S < b → h.get? b = some o → h'.get? b = some o := fun b o hb e => hkp b o (Nat.ne_of_gt (Nat.lt_trans B.z hb)) (Nat.ne_of_gt (Nat.lt_trans B.to hb)) (Nat.ne_of_gt (Nat.lt_trans B.i1 hb)) (Nat.ne_of_gt (Nat.lt_trans B.i2 hb)) e
    show wpAny _ A.in1 (updateSeq S (·.push (Value.ref h.objs.size)) >>= _) _ _ _
    refine wpAny_bind ?_
    refine wpAny_updateSeq hS' rfl (wpAny_pure ⟨plainId_quiet PySem.F.plain_extend_loop _, ih (i + 1) _ tk _ (acc.push (Value.ref h.objs.size)) (as ++ [h.objs.size]) (by omega) hlt (hst'.keep O up)
      (fun b o h1 h2 h3 h4 h5 e => up b o h1 (hkp b o h2 h3 h4 h5 (hkeep b o h1 h2 h3 h4 h5 e))) (Heap.get?_update_self _ hS' rfl) (by rw [Array.toList_push, hacc, List.map_append]; rfl) (by rw [List.length_append, hal]; rfl) ⟨?_, ?_, ?_⟩⟩) (by rw [hsz]; omega) (by show (acc.push (Value.ref h.objs.size)).size ≤ sizeLine + 1; rw [Array.size_push, hsz]; omega)
    · refine List.pairwise_append.mpr ⟨hG.rise, List.pairwise_singleton _ _, fun a ha b hb => ?_⟩
      rw [List.mem_singleton.mp hb]
      exact hG.there ha
    · intro a ha
      rcases List.mem_append.mp ha with ha | ha
      · exact hG.above a ha
      · rw [List.mem_singleton.mp ha]; exact hSl
    · intro j b hj
      rcases Nat.lt_trichotomy j as.length with h1 | h1 | h1
      · rw [List.getElem?_append_left h1] at hj
        obtain ⟨x', y', e1, e2, e3⟩ := hG.pairs j b hj
        have hb := hG.above b (List.mem_of_getElem? hj)
        exact ⟨x', y', e1, e2, up b _ (Nat.ne_of_gt hb) (kp2 b _ hb e3)⟩
      · subst h1
        have hb : h.objs.size = b := by simpa using hj
        subst hb
        exact ⟨_, _, by rw [hal]; exact ex, by rw [hal]; exact ey, up _ _ (Nat.ne_of_gt hSl) ht⟩
      · have hnone : (as ++ [h.objs.size])[j]? = none := List.getElem?_eq_none (by rw [List.length_append, List.length_singleton]; omega)
        rw [hnone] at hj; cases hj
theorem zl_call {Q : Value → Shared → Prop} (hh : A.handled = none) (D : ZipApart z TI TO i1 i2 l1 l2) (hst : ∀ S, s.heap.objs.size ≤ S → ZSt s.heap z TI TO i1 i2 l1 l2 S 0 xs ys) (B : Below z TI TO i1 i2 l1 l2 s.heap.objs.size) (hxy : xs.size = ys.size) (hn : xs.size ≤ sizeLine)
    (hQ : ∀ h' tk acc c as, (∀ b o, b ≠ z → b ≠ TO → b ≠ i1 → b ≠ i2 → s.heap.get? b = some o → h'.get? b = some o) → h'.get? s.heap.objs.size = some { cls := .type "list", dict := none, data := .seq acc c, slots := #[] } → as.length = xs.size → ZG xs ys s.heap.objs.size h' as →
      acc.toList = as.map Value.ref → Q (.ref s.heap.objs.size) { s with heap := h', toks := tk }) :
    wpAny (model prog w) A (call (.type "list") [.ref z]) Q E s := by
  refine callType_codes (Q₁ := fun obj s₁ => obj = .ref s.heap.objs.size ∧ s₁ = { s with heap := s.heap.push { cls := .type "list", data := .seq #[] } }) PySem.F.called_list (PySem.F.typeCall_list_1 _) PySem.F.entry_list_init
    (code_list_new _ ⟨rfl, rfl⟩) fun obj s₁ h₁ => ?_
  obtain ⟨rfl, rfl⟩ := h₁
  have O := B.off
  have hS : (s.heap.push { cls := .type "list", data := .seq #[] }).get? s.heap.objs.size = some { cls := .type "list", data := .seq #[] } := Heap.get?_push_size _ rfl
  have st1 : ZSt (s.heap.push { cls := .type "list", data := .seq #[] }) z TI TO i1 i2 l1 l2 s.heap.objs.size 0 xs ys := (hst _ (Nat.le_refl _)).keep O fun b o _ e => Heap.get?_push_of_some _ e
  have tyz : ∀ {h : Heap} {S i}, ZSt h z TI TO i1 i2 l1 l2 S i xs ys → ∃ o, h.get? z = some o ∧ o.cls = .type "zip" := fun st => by
    rcases st.zz with ⟨hz, _⟩ | ⟨T, f, oT, hz, _⟩
    · exact ⟨_, hz, rfl⟩
    · exact ⟨_, hz, rfl⟩
  refine ⟨⟨_, hS, rfl⟩, PySem.F.args_list_init_2 _ _, ?_⟩
  show wpAny _ _ (do let old ← Builtin.List.listItems (.ref s.heap.objs.size); Builtin.List.listUpdate (.ref s.heap.objs.size) (fun _ => #[]); letGo old.toList.reverse; Builtin.List.listExtendWith (.ref s.heap.objs.size) (.ref z) .none) _ _ _
  refine wpAny_bind ?_
  unfold Builtin.List.listItems
  refine wpAny_bind (wpAny_seqItems hS rfl (wpAny_pure ?_))
  show wpAny _ _ (updateSeq s.heap.objs.size (fun _ => #[]) >>= fun _ => letGo (#[] : Array Value).toList.reverse >>= fun _ => Builtin.List.listExtendWith (.ref s.heap.objs.size) (.ref z) .none) _ _ _
  refine wpAny_bind (wpAny_updateSeq hS rfl ?_)
  have hS₂ := Heap.get?_update_self (Obj.mapSeq (fun _ => (#[] : Array Value))) hS rfl
  have oth : ∀ b o, b ≠ s.heap.objs.size → (s.heap.push { cls := .type "list", data := .seq #[] }).get? b = some o → ((s.heap.push { cls := .type "list", data := .seq #[] }).update s.heap.objs.size (Obj.mapSeq (fun _ => (#[] : Array Value)))).get? b = some o :=
    fun b o hb e => (Heap.get?_update_other _ _ (Ne.symm hb)).trans e
  have st2 := st1.keep O oth
  refine wpAny_bind (wpAny_letGo ?_)
  unfold Builtin.List.listExtendWith
  refine wpAny_bind (wpAny_typeOf (T := "zip") (tyz st2) ?_)
  have h1 : Builtin.List.listSameRef (.ref s.heap.objs.size) (.ref z) = false := by simp [Builtin.List.listSameRef, Ne.symm O.z]
  have h2 : (Value.type "zip" == Value.type "list") = false := by decide
  have h3 : (Value.type "zip" == Value.type "tuple") = false := by decide
  simp only [h1, h2, h3, Bool.or_false, Bool.false_eq_true, if_false]
  have hT := tyz st2
  refine wpAny_bind (wpAny_pyIter_slot hT PySem.F.slot_zip_iter (wpAny_call_entry PySem.F.slot_zip_iter hT PySem.F.entry_zip_iter ?_ (PySem.F.args_zip_iter_1 _)))
  show wpAny _ _ (ret (.ref z)) _ _ _
  refine wpAny_pure ⟨_, rfl, "zip", _, hT, PySem.F.slot_zip_next.lookup, ?_⟩
  refine wpAny_bind (wpAny_holding ?_)
  unfold Builtin.List.listLengthHint
  refine wpAny_bind (wpAny_specialOf hT zip_no_len ?_)
  show wpAny _ _ (specialOf (Value.ref z) (Str.ofString "__length_hint__") >>= _) _ _ _
  refine wpAny_bind (wpAny_specialOf hT zip_no_hint ?_)
  refine wpAny_pure ?_
  show wpAny _ _ (rule "list.extend.makes-room" >>= fun _ => Builtin.List.listTouch (.ref s.heap.objs.size) >>= fun _ =>
    again (.builtin "list.extend.loop" ⟨[.ref s.heap.objs.size, .ref z, .none], []⟩)) _ _ _
  refine wpAny_bind (wpAny_rule ?_)
  refine wpAny_bind ?_
  show wpAny _ _ (updateSeq s.heap.objs.size (·.push .none) >>= fun _ => updateSeq s.heap.objs.size (·.pop)) _ _ _
  refine wpAny_bind (wpAny_updateSeq hS₂ rfl ?_)
  have hS₃ := Heap.get?_update_self (Obj.mapSeq (·.push Value.none)) hS₂ rfl
  refine wpAny_updateSeq (hz := by seq_fits) hS₃ rfl ?_
  have hS₄ := Heap.get?_update_self (Obj.mapSeq (·.pop)) hS₃ rfl
  refine wpAny_pure ⟨plainId_quiet PySem.F.plain_extend_loop _, ?_⟩
  refine zl_loop (A := A.in1) (s := s) (h₁ := s.heap) hh D B hxy hn .none (fun h' tk acc c as hk hS' hl hG hacc => ⟨rfl, hQ h' tk acc c as (fun b o b2 b3 b4 b5 e => hk b o (Nat.ne_of_lt (Heap.lt_size e)) b2 b3 b4 b5 e) hS' hl hG hacc⟩) xs.size 0 _ _ _ _ [] (Nat.sub_zero _) (Nat.zero_le _)
    (st2.keep O fun b o hb e => (Heap.get?_update_other _ _ (Ne.symm hb)).trans ((Heap.get?_update_other _ _ (Ne.symm hb)).trans e))
    (fun b o hb _ _ _ _ e => (Heap.get?_update_other _ _ (Ne.symm hb)).trans ((Heap.get?_update_other _ _ (Ne.symm hb)).trans (oth b o hb (Heap.get?_push_of_some _ e)))) hS₄ rfl rfl
    ⟨List.Pairwise.nil, (fun _ ha => nomatch ha), (fun j a hj => by simp at hj)⟩
end
end K00Z
set_option Elab.async false
set_option linter.all false
set_option maxRecDepth 100000
set_option maxHeartbeats 4000000
/-! K00I: the rule for list(zip(a, b)). -/
namespace K00
open PySem PySem.Spec PyProof.Rows L2 K00Z
def putP : Hp → List Addr → List (V × V) → Hp
  | H, a :: as, p :: ps => putP (upd H a (.tup [p.1, p.2])) as ps
  | H, _, _ => H
theorem putP_off {b : Addr} : ∀ (as : List Addr) (ps : List (V × V)) (H : Hp), b ∉ as → putP H as ps b = H b
  | [], _, _, _ => rfl
  | _ :: _, [], _, _ => rfl
  | a :: as, p :: ps, H, h => by
    show putP (upd H a (.tup [p.1, p.2])) as ps b = H b
    rw [putP_off as ps _ (fun z => h (List.mem_cons_of_mem _ z)), upd_ne (fun z => h (by rw [z]; exact List.mem_cons_self))]
theorem putP_at : ∀ (as : List Addr) (ps : List (V × V)) (H : Hp), as.length = ps.length → as.Nodup → Paired (fun (t : Addr) (p : V × V) => putP H as ps t = some (.tup [p.1, p.2])) as ps
  | [], [], _, _, _ => .nil
  | [], _ :: _, _, h, _ => by cases h
  | _ :: _, [], _, h, _ => by cases h
  | a :: as, p :: ps, H, h, hn => by
    have hn' := List.nodup_cons.mp hn
    have ih := putP_at as ps (upd H a (.tup [p.1, p.2])) (Nat.succ.inj h) hn'.2
    refine .cons ?_ ih
    show putP (upd H a (.tup [p.1, p.2])) as ps a = some (.tup [p.1, p.2])
    rw [putP_off as ps _ hn'.1, upd_same]
def rZipL (K : PySem.W.Frag) : List V → Hp → VK → Prop := fun vs H Q => ∃ a b xs ys, vs = [.ref a, .ref b] ∧ SqL K H a xs ∧ SqL K H b ys ∧ xs.length = ys.length ∧
  ∀ (H' : Hp) (p : Addr) (ts : List Addr), Same H H' → H p = none → (∀ t ∈ ts, H t = none) → p ∉ ts → H' p = some (.lst (ts.map V.ref)) → Paired (fun (t : Addr) (q : V × V) => H' t = some (.tup [q.1, q.2])) ts (xs.zip ys) → Q (.ref p) H'
def tListZip (K : PySem.W.Frag) (ta : TA) : TE := fun σ H Q => ta σ H fun vs H1 => rZipL K vs H1 Q
theorem zip_laid {X : Cx} {pins : List (Addr × Obj)} {σ : L2.St} {H : Hp} {s : Shared} {h' : Heap} {tk : Nat} {xs ys : List V} {us vs : List Value} {acc : Array Value} {c : Nat} {as : List Addr} {S : Addr} (I : Inv X pins σ H s) (hz : xs.length ≤ sizeLine) (hxy : xs.length = ys.length) (rx : Vals xs us) (ry : Vals ys vs)
    (hk : ∀ b o, s.heap.get? b = some o → h'.get? b = some o) (hSs : s.heap.objs.size ≤ S) (hS : h'.get? S = some { cls := .type "list", dict := none, data := .seq acc c, slots := #[] }) (hl : as.length = us.length) (hG : ZG us.toArray vs.toArray S h' as) (hacc : acc.toList = as.map Value.ref) :
    ∃ H' : Hp, Same H H' ∧ H S = none ∧ (∀ t ∈ as, H t = none) ∧ S ∉ as ∧ H' S = some (.lst (as.map V.ref)) ∧ Paired (fun (t : Addr) (q : V × V) => H' t = some (.tup [q.1, q.2])) as (xs.zip ys) ∧ Inv X pins σ H' { s with heap := h', toks := tk } := by
  have lx : xs.length = us.length := rx.length
  have ly : ys.length = vs.length := ry.length
  have lz : (xs.zip ys).length = xs.length := by rw [List.length_zip, ← hxy, Nat.min_self]
  have hSn : S ∉ as := fun z => Nat.lt_irrefl _ (hG.above _ z)
  have nd : as.Nodup := List.Pairwise.imp (fun {a b} (h : a < b) => Nat.ne_of_lt h) hG.rise
  have new : ∀ t ∈ as, H t = none := fun t ht => I.hok.fresh (Nat.le_trans hSs (Nat.le_of_lt (hG.above t ht)))
  have newS : H S = none := I.hok.fresh hSs
  have atP := putP_at as (xs.zip ys) (upd H S (.lst (as.map V.ref))) (by omega) nd
  have off : ∀ b, b ∉ as → b ≠ S → putP (upd H S (.lst (as.map V.ref))) as (xs.zip ys) b = H b := fun b h1 h2 => by rw [putP_off as _ _ h1, upd_ne h2]
  have low : ∀ b o, s.heap.get? b = some o → b ∉ as ∧ b ≠ S := fun b o e => ⟨fun z => absurd (Heap.lt_size e) (Nat.not_lt.mpr (Nat.le_trans hSs (Nat.le_of_lt (hG.above b z)))), Nat.ne_of_lt (Nat.lt_of_lt_of_le (Heap.lt_size e) hSs)⟩
  have kp : ∀ b u, H b = some u → (putP (upd H S (.lst (as.map V.ref))) as (xs.zip ys)) b = some u := fun b u e => by
    rw [off b (fun z => by rw [new b z] at e; cases e) (fun z => by rw [z, newS] at e; cases e)]
    exact e
  have eS : putP (upd H S (.lst (as.map V.ref))) as (xs.zip ys) S = some (.lst (as.map V.ref)) := by rw [putP_off as _ _ hSn, upd_same]
  refine ⟨putP (upd H S (.lst (as.map V.ref))) as (xs.zip ys), kp, newS, new, hSn, eS, atP, ?_⟩
  refine I.call' (ch := []) rfl ⟨fun b o q _ _ _ => hk b o q, fun b o q _ _ _ => ⟨o.slots, hk b o q⟩, fun b o q n _ => ?_, fun b o q _ => ⟨o, hk b o q⟩, fun b xs q => kp b _ q, fun b o u q => kp b _ q, fun b ps q => ⟨#[], by rw [kp b _ q]; simp⟩⟩ (fun b u q => ?_) I.bare fun b z => by simp at z
  · obtain ⟨z1, z2⟩ := low b o q
    rw [off b z1 z2]
    exact n
  · by_cases hb : b ∈ as
    · obtain ⟨j, pk, e1, e2, e3⟩ := LiI.paired_ix atP hb
      rw [e3] at q
      cases q
      obtain ⟨x, y, f1, f2, f3⟩ := hG.pairs j b e1
      have hzip := List.getElem?_zip_eq_some.mp (show (xs.zip ys)[j]? = some (pk.1, pk.2) from e2)
      obtain ⟨u1, hu1, r1⟩ := rx.get hzip.1
      obtain ⟨u2, hu2, r2⟩ := ry.get hzip.2
      have g1 : us[j]? = some x := by simpa using f1
      have g2 : vs[j]? = some y := by simpa using f2
      rw [g1] at hu1
      rw [g2] at hu2
      cases hu1
      cases hu2
      exact ⟨by show 2 ≤ sizeLine; decide, [x, y], .cons r1 (.cons r2 .nil), ⟨_, f3, rfl, _, rfl⟩⟩
    · by_cases hb2 : b = S
      · rw [hb2] at q ⊢
        rw [eS] at q
        cases q
        refine ⟨by rw [List.length_map]; omega, acc.toList, c, by rw [hacc]; exact LiI.vals_refs as, ?_⟩
        rw [Array.toArray_toList]
        exact hS
      · rw [off b hb hb2] at q
        exact (I.hok b u q).stay (fun d v _ y => hk d v y) (fun d y => kp d _ y) fun d xs y => kp d _ y
theorem apartN {n a b : Nat} (ha : a < n) (hb : b < n) : ZipApart (n + 4) (n + 2) (n + 3) n (n + 1) a b := by
  have key : ∀ {x y : Nat}, x < y ∨ y < x → x ≠ y := by omega
  constructor <;> exact key (by omega)
theorem belowN {n a b : Nat} (ha : a < n) (hb : b < n) : Below (n + 4) (n + 2) (n + 3) n (n + 1) a b (n + 5) := by
  have key : ∀ {x y : Nat}, x + 1 ≤ y → x < y := fun h => h
  exact ⟨key (by omega), key (by omega), key (by omega), key (by omega), key (by omega), key (by omega), key (by omega)⟩
theorem neN {x y : Nat} (h : x < y) : x ≠ y := Nat.ne_of_lt h
section
variable {X : Cx} {e e2 : Expr} {ta : TA} {p p2 cpos pos : Pos}
/-- list(zip(e, e2)) -/
theorem pe_listzip (hc : X.calm = true) (hg : Gl X "list") (hm : X.mg "list" = none) (hv : bootBuiltins "list" = some (.type "list")) (hg2 : Gl X "zip") (hm2 : X.mg "zip" = none) (ha : PA X [e, e2] ta)
    (hs2 : starEach [e, e2] X.env = (false, eval e X.env) :: starEach [e2] X.env := by rfl) (hpl2 : (backTo cpos (starEach [e2] X.env)).any (·.1) = false := by rfl)
    (hs : starEach [.Call (.Name "zip" p2) [e, e2] [] cpos] X.env = (false, eval (.Call (.Name "zip" p2) [e, e2] [] cpos) X.env) :: starEach [] X.env := by rfl) :
    PE X (.Call (.Name "list" p) [.Call (.Name "zip" p2) [e, e2] [] cpos] [] pos) (tListZip X.K ta) := by
  refine ⟨fun pins s σ H Q I hq => ?_⟩
  refine wpAny_Call_Name_kw (ld_blt I hg hm hv ?_)
  refine PyProof.Rows.callWith_type1 ?_ hs rfl
  rw [hs]
  show wpAny _ _ (spliced ((false, eval (.Call (.Name "zip" p2) [e, e2] [] cpos) X.env) :: backTo pos (starEach [] X.env))) _ _ s
  refine Calls.spliced_cons ?_
  refine wpAny_Call_Name_kw (ld_blt I hg2 hm2 PyProof.Rows.boot_zip (PyProof.Rows.callWith_type1 (thn (ha.run cpos pins s σ H _ I hq) fun us s1 ⟨vs, H1, I1, r1, q1⟩ => ?_) hs2 hpl2))
  obtain ⟨a, b, xs, ys, ex, hqx, hqy, hxy, q⟩ := q1
  subst ex
  cases r1 with
  | cons r rr =>
    cases rr with
    | cons r' rr =>
      cases rr
      cases r
      cases r'
      obtain ⟨its, rv, p1, hz1⟩ := I1.list hqx
      obtain ⟨its2, rv2, p2', hz2⟩ := I1.list hqy
      have la : a < s1.heap.objs.size := let ⟨_, ho, _⟩ := p1.isList; Heap.lt_size ho
      have lb : b < s1.heap.objs.size := let ⟨_, ho, _⟩ := p2'.isList; Heap.lt_size ho
      have lx : xs.length = its.length := rv.length
      have ly : ys.length = its2.length := rv2.length
      refine call_zip_2 p1.isList p2'.isList fun h' hz hTI hTO h1 h2 hsz hk => ?_
      refine Calls.spliced_nil ?_
      have D : ZipApart (s1.heap.objs.size + 4) (s1.heap.objs.size + 2) (s1.heap.objs.size + 3) s1.heap.objs.size (s1.heap.objs.size + 1) a b := apartN la lb
      refine zl_call (s := { s1 with heap := h' }) (xs := its.toArray) (ys := its2.toArray) (I1.ok.hd hc) D (fun S _ => ⟨hTI, h1, h2, p1.isList.at fun o e => hk _ o e, p2'.isList.at fun o e => hk _ o e, .inl ⟨hz, _, _, hTO⟩⟩) ?_ (by simp only [List.size_toArray]; omega) (by simp only [List.size_toArray]; omega) fun h'' tk acc c as hk2 hS hl hG hacc => ?_
      · show Below _ _ _ _ _ _ _ h'.objs.size
        rw [hsz]
        exact belowN la lb
      have hlow : ∀ b' o, s1.heap.get? b' = some o → h''.get? b' = some o := fun b' o e => by
        have lt := Heap.lt_size e
        exact hk2 b' o (neN (Nat.lt_add_right 4 lt)) (neN (Nat.lt_add_right 3 lt)) (neN lt) (neN (Nat.lt_add_right 1 lt)) (hk b' o e)
      have hSs : s1.heap.objs.size ≤ h'.objs.size := by rw [hsz]; omega
      obtain ⟨H', k1, k2, k3, k4, k5, k6, J⟩ := zip_laid (tk := tk) I1 hz1 hxy rv rv2 hlow hSs hS (by simpa using hl) hG hacc
      exact ⟨.ref _, H', J, rfl, q H' _ as k1 k2 k3 k4 k5 k6⟩
end
end K00
set_option Elab.async false
set_option linter.all false
set_option maxRecDepth 100000
set_option maxHeartbeats 4000000
/-! K00J: data over the heap, all lists and dicts of it locked for good. -/
namespace K00
open PySem PySem.Spec L2
section
variable (P : Program) (w : World)
/-- at d stands a locked dict with these entries -/
def Dd (H : Hp) (d : Addr) (o : Obj) (es : List (V × V)) : Prop :=
  (∃ kvs : List (Key × V), H d = some (.frz o (.dK kvs)) ∧ es = kvs.map fun p => (kV p.1, p.2)) ∨ (H d = some (.frz o (ndO P w d)) ∧ es = [(.non, .int 1)])
mutual
inductive Da (H : Hp) : V → PyData → Prop
  | non : Da H .non .none
  | bl (b : Bool) : Da H (.bl b) (.bool b)
  | int (i : Int) : Da H (.int i) (.int i)
  | str (x : Str) : Da H (.str x) (.str x)
  | lst {a : Addr} {o : Obj} {xs : List V} {ds : List PyData} (h : H a = some (.frz o (.lst xs))) (r : DaL H xs ds) : Da H (.ref a) (.list ds)
  | tup {a : Addr} {xs : List V} {ds : List PyData} (h : H a = some (.tup xs)) (r : DaL H xs ds) : Da H (.ref a) (.tuple ds)
  | dic {a : Addr} {o : Obj} {es : List (V × V)} {ds : List (PyData × PyData)} (h : Dd P w H a o es) (r : DaE H es ds) : Da H (.ref a) (.dict ds)
inductive DaL (H : Hp) : List V → List PyData → Prop
  | nil : DaL H [] []
  | cons {x : V} {xs : List V} {d : PyData} {ds : List PyData} (h : Da H x d) (r : DaL H xs ds) : DaL H (x :: xs) (d :: ds)
inductive DaE (H : Hp) : List (V × V) → List (PyData × PyData) → Prop
  | nil : DaE H [] []
  | cons {x y : V} {es : List (V × V)} {d e : PyData} {ds : List (PyData × PyData)} (k : Da H x d) (h : Da H y e) (r : DaE H es ds) : DaE H ((x, y) :: es) ((d, e) :: ds)
end
end
/-- tuples and what is locked stay -/
def Kp (H H' : Hp) : Prop := (∀ b xs, H b = some (.tup xs) → H' b = some (.tup xs)) ∧ ∀ b o u, H b = some (.frz o u) → H' b = some (.frz o u)
theorem Kp.refl (H : Hp) : Kp H H := ⟨fun _ _ e => e, fun _ _ _ e => e⟩
theorem Kp.trans {H H1 H2 : Hp} (a : Kp H H1) (b : Kp H1 H2) : Kp H H2 := ⟨fun c xs e => b.1 c xs (a.1 c xs e), fun c o u e => b.2 c o u (a.2 c o u e)⟩
theorem Kp.same {H H' : Hp} (k : Same H H') : Kp H H' := ⟨fun b xs e => k b _ e, fun b o u e => k b _ e⟩
/-- all but what stands at p is as it was -/
def Ch (p : Addr) (H H' : Hp) : Prop := ∀ b o, b ≠ p → H b = some o → H' b = some o
theorem Ch.refl (p : Addr) (H : Hp) : Ch p H H := fun _ _ _ e => e
theorem Ch.trans {p : Addr} {H H1 H2 : Hp} (a : Ch p H H1) (b : Ch p H1 H2) : Ch p H H2 := fun c o n e => b c o n (a c o n e)
theorem Ch.same {p : Addr} {H H' : Hp} (k : Same H H') : Ch p H H' := fun b o _ e => k b o e
theorem ch_upd {p : Addr} {H : Hp} {o : HO} : Ch p H (upd H p o) := fun b u n e => by rw [upd_ne n]; exact e
theorem Kp.ch {p : Addr} {H H' : Hp} {xs : List V} (k : Ch p H H') (h : H p = some (.lst xs)) : Kp H H' :=
  ⟨fun b ys e => k b _ (fun z => by rw [z, h] at e; cases e) e, fun b o u e => k b _ (fun z => by rw [z, h] at e; cases e) e⟩
theorem same_refl (H : Hp) : Same H H := fun _ _ e => e
theorem same_new {H : Hp} {p : Addr} (h : H p = none) (o : HO) : Same H (upd H p o) := fun b u q => by rw [upd_ne (ne_of_none q h)]; exact q
theorem Kp.new {H : Hp} {p : Addr} (h : H p = none) (o : HO) : Kp H (upd H p o) := .same (same_new h o)
theorem Kp.lst {H : Hp} {p : Addr} {xs : List V} (h : H p = some (.lst xs)) (o : HO) : Kp H (upd H p o) := .ch ch_upd h
section
variable {P : Program} {w : World} {H H' : Hp}
theorem Dd.kp {d : Addr} {o : Obj} {es : List (V × V)} (h : Dd P w H d o es) (k : Kp H H') : Dd P w H' d o es := by
  rcases h with ⟨kvs, h, e⟩ | ⟨h, e⟩
  · exact .inl ⟨kvs, k.2 _ _ _ h, e⟩
  · exact .inr ⟨k.2 _ _ _ h, e⟩
mutual
theorem Da.kp (k : Kp H H') : ∀ {x : V} {d : PyData}, Da P w H x d → Da P w H' x d
  | _, _, .non => .non
  | _, _, .bl b => .bl b
  | _, _, .int i => .int i
  | _, _, .str y => .str y
  | _, _, .lst h q => .lst (k.2 _ _ _ h) (DaL.kp k q)
  | _, _, .tup h q => .tup (k.1 _ _ h) (DaL.kp k q)
  | _, _, .dic h q => .dic (h.kp k) (DaE.kp k q)
theorem DaL.kp (k : Kp H H') : ∀ {xs : List V} {ds : List PyData}, DaL P w H xs ds → DaL P w H' xs ds
  | _, _, .nil => .nil
  | _, _, .cons h q => .cons (Da.kp k h) (DaL.kp k q)
theorem DaE.kp (k : Kp H H') : ∀ {xs : List (V × V)} {ds : List (PyData × PyData)}, DaE P w H xs ds → DaE P w H' xs ds
  | _, _, .nil => .nil
  | _, _, .cons i h q => .cons (Da.kp k i) (Da.kp k h) (DaE.kp k q)
end
theorem DaL.length : ∀ {xs : List V} {ds : List PyData}, DaL P w H xs ds → xs.length = ds.length
  | _, _, .nil => rfl
  | _, _, .cons _ q => congrArg (· + 1) (DaL.length q)
theorem DaL.append : ∀ {xs ys : List V} {ds es : List PyData}, DaL P w H xs ds → DaL P w H ys es → DaL P w H (xs ++ ys) (ds ++ es)
  | _, _, _, _, .nil, q => q
  | _, _, _, _, .cons h r, q => .cons h (DaL.append r q)
theorem DaL.get : ∀ {xs : List V} {ds : List PyData} {i : Nat} {x : V}, DaL P w H xs ds → xs[i]? = some x → ∃ d, ds[i]? = some d ∧ Da P w H x d
  | _, _, _, _, .nil, h => nomatch h
  | _, _, 0, x, .cons h r, e => by
    cases (Option.some.inj e)
    exact ⟨_, rfl, h⟩
  | _, _, i + 1, x, .cons h r, e => DaL.get r (i := i) e
theorem DaL.mem {xs : List V} {ds : List PyData} {x : V} (q : DaL P w H xs ds) (h : x ∈ xs) : ∃ d, d ∈ ds ∧ Da P w H x d := by
  obtain ⟨i, e⟩ := List.mem_iff_getElem?.mp h
  obtain ⟨d, e2, h2⟩ := q.get e
  exact ⟨d, List.mem_of_getElem? e2, h2⟩
theorem DaL.snoc {xs : List V} {ds : List PyData} {x : V} {d : PyData} (q : DaL P w H xs ds) (h : Da P w H x d) : DaL P w H (xs ++ [x]) (ds ++ [d]) := q.append (.cons h .nil)
theorem DaL.take : ∀ {xs : List V} {ds : List PyData} (n : Nat), DaL P w H xs ds → DaL P w H (xs.take n) (ds.take n)
  | _, _, 0, _ => .nil
  | _, _, _ + 1, .nil => .nil
  | _, _, n + 1, .cons h q => .cons h (DaL.take n q)
theorem DaL.drop : ∀ {xs : List V} {ds : List PyData} (n : Nat), DaL P w H xs ds → DaL P w H (xs.drop n) (ds.drop n)
  | _, _, 0, h => h
  | _, _, _ + 1, .nil => .nil
  | _, _, n + 1, .cons h q => DaL.drop n q
theorem DaE.length : ∀ {xs : List (V × V)} {ds : List (PyData × PyData)}, DaE P w H xs ds → xs.length = ds.length
  | _, _, .nil => rfl
  | _, _, .cons _ _ q => congrArg (· + 1) (DaE.length q)
theorem DaE.get : ∀ {xs : List (V × V)} {ds : List (PyData × PyData)} {i : Nat} {x : V × V}, DaE P w H xs ds → xs[i]? = some x → ∃ d, ds[i]? = some d ∧ Da P w H x.1 d.1 ∧ Da P w H x.2 d.2
  | _, _, _, _, .nil, h => nomatch h
  | _, _, 0, x, .cons k h r, e => by
    cases (Option.some.inj e)
    exact ⟨_, rfl, k, h⟩
  | _, _, i + 1, x, .cons k h r, e => DaE.get r (i := i) e
theorem DaE.values : ∀ {xs : List (V × V)} {ds : List (PyData × PyData)}, DaE P w H xs ds → DaL P w H (xs.map (·.2)) (ds.map (·.2))
  | _, _, .nil => .nil
  | _, _, .cons k h q => .cons h (DaE.values q)
theorem DaE.keys : ∀ {xs : List (V × V)} {ds : List (PyData × PyData)}, DaE P w H xs ds → DaL P w H (xs.map (·.1)) (ds.map (·.1))
  | _, _, .nil => .nil
  | _, _, .cons k h q => .cons k (DaE.keys q)
end
/-- at 1 stands a dict of the module's start -/
def SysD (K : PySem.W.Frag) : Prop := ∃ o, K.lookup sysModules = some o ∧ o.cls = .type "dict"
section
variable {X : Cx} {pins : List (Addr × Obj)} {σ : L2.St} {H : Hp} {s : Shared} {d : Addr} {o : Obj}
/-- what the model says of a locked dict of data -/
theorem frzD {es : List (V × V)} (I : L2.Inv X pins σ H s) (h : Dd X.prog X.w H d o es) :
    (d == sysModules) = false ∧ s.heap.get? d = some o ∧ o.ExactDict ∧ ∃ (κ : Type) (_ : DecidableEq κ) (knd : KeyKind X.prog X.w κ) (e' : Array DictEntry) (ep : Nat) (vs : List (κ × Value)), o.data = .dict e' ep ∧ e'.size = es.length ∧ es.length ≤ sizeLine ∧
      Paired (fun (p : V × V) (q : κ × Value) => (∀ u, knd.is q.1 u = true → RelV p.1 u) ∧ RelV p.2 q.2) es vs ∧ s.heap.DictAt knd d vs ep := by
  rcases h with ⟨kvs, h, rfl⟩ | ⟨h, rfl⟩
  · obtain ⟨hs, hgd, hx, e', ep, vs, hdt, hsz, kv, hm⟩ := I.frzK h
    have zz : kvs.length ≤ sizeLine := (I.hok d _ h).2.1
    refine ⟨hs, hgd, hx, Key, inferInstance, mixKind X.prog X.w, e', ep, vs, hdt, by rw [List.length_map]; exact hsz, by rw [List.length_map]; exact zz, ?_, hm⟩
    clear hsz hm h zz
    induction kv with
    | nil => exact .nil
    | cons r t ih =>
      refine .cons ⟨fun u hu => ?_, r.2⟩ ih
      have e1 := r.1
      show RelV (kV _) u
      rw [e1]
      exact relV_key hu
  · obtain ⟨hgd, ⟨hs, t, o', es, ep, ho, hx, hdt, r⟩, _⟩ := I.hok d _ h
    rw [hgd] at ho
    cases ho
    refine ⟨hs, hgd, hx, Option Key, inferInstance, noneKind X.prog X.w, es, ep, _, hdt, ?_, by show 1 ≤ sizeLine; decide, .cons ⟨fun u hu => ?_, ⟨t, rfl⟩⟩ .nil, o, es, hgd, hx, hdt, r⟩
    · have l1 := r.2.1.length
      rw [Array.length_toList] at l1
      exact l1
    · have e : u = .none := nk_none hu
      exact e
theorem Dd.size {es : List (V × V)} (I : L2.Inv X pins σ H s) (h : Dd X.prog X.w H d o es) : es.length ≤ sizeLine := by
  obtain ⟨_, _, _, _, _, _, _, _, _, _, _, z, _⟩ := frzD I h
  exact z
end
end K00
set_option Elab.async false
set_option linter.all false
set_option maxRecDepth 100000
set_option maxHeartbeats 4000000
/-! K00K: repr and isinstance of data. -/
namespace K00
open PySem PySem.Spec L2
section
variable {X : Cx} {pins : List (Addr × Obj)} {σ : L2.St} {H : Hp} {s : Shared}
theorem ents_of {κ : Type} [DecidableEq κ] {knd : PySem.KeyKind X.prog X.w κ} : ∀ {es : List (V × V)} {vs : List (κ × Value)} {ens : List DictEntry}, Paired (fun (p : V × V) (q : κ × Value) => (∀ u, knd.is q.1 u = true → RelV p.1 u) ∧ RelV p.2 q.2) es vs → Pairs knd ens vs →
    Vals (es.map (·.1)) (ens.map (·.key)) ∧ Vals (es.map (·.2)) (ens.map (·.val))
  | _, _, _, .nil, p => by
    cases p
    exact ⟨.nil, .nil⟩
  | _, _, _, .cons r t, p => by
    cases p with
    | @cons en kv' es' kvs' p1 p2 p3 =>
      obtain ⟨z1, z2⟩ := ents_of t p3
      exact ⟨.cons (r.1 _ p1) z1, .cons (by show RelV _ en.val; rw [show en.val = _ from p2]; exact r.2) z2⟩
mutual
theorem Da.reads (I : L2.Inv X pins σ H s) (S : SysD X.K) : ∀ {x : V} {d : PyData} {u : Value}, Da X.prog X.w H x d → RelV x u → ∃ as, Reads s.heap u d as ∧ sysModules ∉ as
  | _, _, u, .non, r => by cases (show u = Value.none from r); exact ⟨[], .none, by simp⟩
  | _, _, u, .bl b, r => by cases (show u = Value.bool b from r); exact ⟨[], .bool b, by simp⟩
  | _, _, u, .int i, r => by obtain ⟨t, e⟩ := (show ∃ t, u = Value.int i t from r); cases e; exact ⟨[], .int i t, by simp⟩
  | _, _, u, .str y, r => by obtain ⟨t, e⟩ := (show ∃ t, u = Value.str y t from r); cases e; exact ⟨[], .str y t, by simp⟩
  | _, _, u, .lst (a := a) (xs := xs) h q, r => by
    cases (show u = Value.ref a from r)
    obtain ⟨_, _, its, n, rv, e⟩ := I.hok a _ h
    obtain ⟨as, z, ns⟩ := DaL.reads I S q rv
    refine ⟨a :: as, .list e rfl rfl (by simpa using z), fun hm => ?_⟩
    rcases List.mem_cons.mp hm with hm | hm
    · obtain ⟨o, ho, hc⟩ := S
      have e2 := I.kIn _ _ ho
      rw [hm, e] at e2
      rw [← Option.some.inj e2] at hc
      exact absurd hc (by intro z; injection z with z; exact absurd z (by decide))
    · exact ns hm
  | _, _, u, .tup (a := a) (xs := xs) h q, r => by
    cases (show u = Value.ref a from r)
    obtain ⟨_, its, rv, o, h1, h2, n, h3⟩ := (show ObjOk X.prog X.w H s.heap a (.tup xs) from I.hok a _ h)
    obtain ⟨as, z, ns⟩ := DaL.reads I S q rv
    exact ⟨as, .tuple h1 h2 h3 (by simpa using z), ns⟩
  | _, _, u, .dic (a := a) (es := es) h q, r => by
    cases (show u = Value.ref a from r)
    obtain ⟨hs, hgd, hx, κ, _, knd, e', ep, vs, hdt, hsz, _, pr, o2, es2, h1, h2, h3, _, h5, _⟩ := frzD I h
    obtain ⟨rk, rv⟩ := ents_of pr h5
    obtain ⟨as, bs, z1, z2, n1, n2⟩ := DaE.reads I S q rk rv
    refine ⟨_, .dict h1 h2.1 h3 z1 z2, fun hm => ?_⟩
    rcases List.mem_cons.mp hm with hm | hm
    · exact absurd hm.symm (beq_eq_false_iff_ne.mp hs)
    · rcases List.mem_append.mp hm with hm | hm
      · exact n1 hm
      · exact n2 hm
theorem DaL.reads (I : L2.Inv X pins σ H s) (S : SysD X.K) : ∀ {xs : List V} {ds : List PyData} {us : List Value}, DaL X.prog X.w H xs ds → Vals xs us → ∃ as, ReadsAll s.heap us ds as ∧ sysModules ∉ as
  | _, _, _, .nil, r => by cases r; exact ⟨[], .nil, by simp⟩
  | _, _, _, .cons h q, r => by
    cases r with
    | cons r1 r2 =>
      obtain ⟨as, z1, n1⟩ := Da.reads I S h r1
      obtain ⟨bs, z2, n2⟩ := DaL.reads I S q r2
      exact ⟨as ++ bs, .cons z1 z2, fun hm => by
        rcases List.mem_append.mp hm with hm | hm
        · exact n1 hm
        · exact n2 hm⟩
theorem DaE.reads (I : L2.Inv X pins σ H s) (S : SysD X.K) : ∀ {es : List (V × V)} {ds : List (PyData × PyData)} {ks us : List Value}, DaE X.prog X.w H es ds → Vals (es.map (·.1)) ks → Vals (es.map (·.2)) us →
    ∃ as bs, ReadsAll s.heap ks (ds.map (·.1)) as ∧ ReadsAll s.heap us (ds.map (·.2)) bs ∧ sysModules ∉ as ∧ sysModules ∉ bs
  | _, _, _, _, .nil, r, r' => by
    cases r
    cases r'
    exact ⟨[], [], .nil, .nil, by simp, by simp⟩
  | _, _, _, _, .cons k h q, r, r' => by
    cases r with
    | cons r1 r2 =>
      cases r' with
      | cons s1 s2 =>
        obtain ⟨a1, z1, n1⟩ := Da.reads I S k r1
        obtain ⟨b1, y1, m1⟩ := Da.reads I S h s1
        obtain ⟨a2, b2, z2, y2, n2, m2⟩ := DaE.reads I S q r2 s2
        exact ⟨a1 ++ a2, b1 ++ b2, .cons z1 z2, .cons y1 y2, fun hm => by
          rcases List.mem_append.mp hm with hm | hm
          · exact n1 hm
          · exact n2 hm, fun hm => by
          rcases List.mem_append.mp hm with hm | hm
          · exact m1 hm
          · exact m2 hm⟩
end
def rReprD (P : Program) (w : World) : List V → Hp → VK → Prop := fun xs H Q => ∃ (x : V) (d : PyData), xs = [x] ∧ Da P w H x d ∧ goodB d = true ∧ Q (.str d.shown) H
theorem call_reprD (S : SysD X.K) (hg : X.A.guards = some []) (hu : X.A.units + 50 < cLine) : CallR X (.builtin "repr") (rReprD X.prog X.w) := by
  intro pins s σ H xs us Q I r h
  obtain ⟨x, d, rfl, hd, hgd, q⟩ := h
  cases r with
  | cons r1 r2 =>
    cases r2
    obtain ⟨as, z, ns⟩ := hd.reads I S r1
    obtain ⟨g1, g2⟩ := He.ba hgd
    obtain ⟨g2, g3⟩ := He.ba g2
    have hsz : d.shown.length ≤ sizeLine := big1 (Nat.le_of_ble_eq_true g2)
    have g3' : d.depth ≤ 40 := Nat.le_of_ble_eq_true g3
    cases z with
    | none => exact PySem.P.repr_of_none ⟨.str _, H, I.tok _, ⟨_, by simp only [PyData.shown]; rfl⟩, q⟩
    | bool b => exact PySem.P.repr_of_bool ⟨.str _, H, I.tok _, ⟨_, by simp only [PyData.shown]; rfl⟩, q⟩
    | int i t => exact PySem.P.repr_of_int (by simpa [PyData.showable] using g1) ⟨.str _, H, I.tok _, ⟨_, by simp only [PyData.shown]; rfl⟩, q⟩
    | str y t => exact PySem.P.repr_of_str ⟨.str _, H, I.tok _, ⟨_, by simp only [PyData.shown]; rfl⟩, q⟩ (by simpa only [PyData.shown] using hsz)
    | list h1 h2 h3 h4 => exact repr_of_reads' (.list h1 h2 h3 h4) g1 (fun _ => ns) hg (by omega) (fun _ _ e => e) (fun h' u tk hk => ⟨.str _, H, I.kept (t' := tk) hk, ⟨_, rfl⟩, q⟩) hsz
    | tuple h1 h2 h3 h4 => exact repr_of_reads' (.tuple h1 h2 h3 h4) g1 (fun _ => ns) hg (by omega) (fun _ _ e => e) (fun h' u tk hk => ⟨.str _, H, I.kept (t' := tk) hk, ⟨_, rfl⟩, q⟩) hsz
    | dict h1 h2 h3 h4 h5 => exact repr_of_reads' (.dict h1 h2 h3 h4 h5) g1 (fun _ => ns) hg (by omega) (fun _ _ e => e) (fun h' u tk hk => ⟨.str _, H, I.kept (t' := tk) hk, ⟨_, rfl⟩, q⟩) hsz
theorem kit_da (I : L2.Inv X pins σ H s) {x : V} {d : PyData} {u : Value} (h : Da X.prog X.w H x d) (r : RelV x u) :
    ∃ Q : Heap → Prop, PySem.W.KitX X.K u (.type (tyD d)) Q ∧ Q s.heap ∧ u ≠ .builtin "__main__.__loader__#opaque" := by
  cases h with
  | non => cases (show u = Value.none from r); exact ⟨_, PySem.W.kitx_none, True.intro, fun z => nomatch z⟩
  | bl b => cases (show u = Value.bool b from r); exact ⟨_, PySem.W.kitx_bool, True.intro, fun z => nomatch z⟩
  | int i => obtain ⟨t, e⟩ := (show ∃ t, u = Value.int i t from r); cases e; exact ⟨_, PySem.W.kitx_int, True.intro, fun z => nomatch z⟩
  | str y => obtain ⟨t, e⟩ := (show ∃ t, u = Value.str y t from r); cases e; exact ⟨_, PySem.W.kitx_str, True.intro, fun z => nomatch z⟩
  | @lst a o xs ds h q =>
    cases (show u = Value.ref a from r)
    obtain ⟨_, _, its, n, rv, e⟩ := I.hok a _ h
    exact ⟨_, PySem.W.kitx_list, ⟨_, e, rfl⟩, fun z => nomatch z⟩
  | @tup a xs ds h q =>
    cases (show u = Value.ref a from r)
    obtain ⟨_, its, rv, o, h1, h2, n, h3⟩ := (show ObjOk X.prog X.w H s.heap a (.tup xs) from I.hok a _ h)
    exact ⟨_, PySem.W.kitx_tuple, ⟨o, h1, h2⟩, fun z => nomatch z⟩
  | @dic a o es ds h q =>
    cases (show u = Value.ref a from r)
    obtain ⟨hs, hgd, hx, _⟩ := frzD I h
    exact ⟨_, PySem.W.kitx_dict, ⟨o, hgd, hx.1⟩, fun z => nomatch z⟩
/-- isinstance(x, T), x data, T a built-in class -/
def rIsDa (P : Program) (w : World) : List V → Hp → VK → Prop := fun xs H Q => ∃ (x : V) (T : String) (d : PyData) (b : Bool), xs = [x, .ty T] ∧ Da P w H x d ∧ kitB (tyD d) T = some b ∧ Q (.bl b) H
theorem call_isDa : CallR X (.builtin "isinstance") (rIsDa X.prog X.w) := by
  intro pins s σ H xs us Q I r h
  obtain ⟨x, T, d, b, rfl, hd, e, q⟩ := h
  obtain ⟨u1, u2, rfl, r1, r2⟩ := vals2 r
  have e2 : u2 = .type T := r2
  subst e2
  obtain ⟨Q', Z, p, hx⟩ := kit_da I hd r1
  exact PySem.W.kia_one Z I.kIn p (kit_ty e) hx fun tk => ⟨.bl b, H, I.tok tk, rfl, q⟩
end
end K00
set_option Elab.async false
set_option linter.all false
set_option maxRecDepth 100000
set_option maxHeartbeats 4000000
/-! K00L: walks over locked dicts of data: keys, items; the list of the values. -/
namespace K00
open PySem PySem.Spec PyProof.Rows L2
section
variable (P : Program) (w : World)
def ItkD (d : Addr) (o : Obj) (es : List (V × V)) : It :=
  ⟨fun i H => Dd P w H d o es ∧ i < es.length, fun i H x H' => H' = H ∧ ∃ p, es[i]? = some p ∧ x = p.1, fun i H => Dd P w H d o es ∧ es.length ≤ i⟩
def ItiD (d : Addr) (o : Obj) (es : List (V × V)) : It :=
  ⟨fun i H => Dd P w H d o es ∧ i < es.length, fun i H x H' => ∃ T p, es[i]? = some p ∧ x = .ref T ∧ H T = none ∧ H' = upd H T (.tup [p.1, p.2]), fun i H => Dd P w H d o es ∧ es.length ≤ i⟩
end
section
variable {P : Program} {w : World} {K : PySem.W.Frag} {tg : Expr} {d : Addr} {o : Obj} {es : List (V × V)} {e0 : Array DictEntry} {ep : Nat}
theorem turn_keysD (it : Addr) (hod : o.data = .dict e0 ep) : Turn P w K tg (ItkD P w d o es) [it] it (fun i h => h.IsKeyIter it d i es.length ep) where
  mem := by simp
  obj := fun i h st b hb => by
    have e : b = it := by simpa using hb
    subst e
    obtain ⟨oi, e, c, dd⟩ := st
    exact ⟨oi, e, fun v z => by rw [dd] at z; cases z⟩
  keep := fun i h h' st k => st.at fun oi e => k it (by simp) oi e
  item := by
    intro X hP hw hK hc i pins s σ H E I hf st hg
    subst hP hw hK
    obtain ⟨hd, hi⟩ := hg
    obtain ⟨f0, f1, f2, f3, f4, f5⟩ := hf it (by simp)
    obtain ⟨hs, hgd, hx, κ, _, knd, e', ep', vs, hdt, hsz, _, pr, hm⟩ := frzD I hd
    obtain ⟨rfl, rfl⟩ := dict_ep hod hdt
    obtain ⟨p, hp⟩ : ∃ p, es[i]? = some p := ⟨es[i], List.getElem?_eq_getElem hi⟩
    obtain ⟨⟨k, v⟩, hkv, r1, r2⟩ := L2.paired_get pr hp
    have hl : es.length = vs.length := Paired.length pr
    rw [hl] at st
    refine wpAny_pyNext_dict_item st hm hkv fun key h' hkey st' sb => ?_
    have I1 : L2.Inv X pins σ H { s with heap := h' } := I.turned (t' := s.toks) (fun b ob hb e => (sb.2 b hb).trans e) f0 f1 f3 f4 f5
    obtain ⟨oi, e, c, dd⟩ := id st'
    refine ⟨key, rfl, go_of (s := { s with heap := h' }) e c dd (by decide) ⟨p.1, H, I1, r1 key hkey, ⟨rfl, p, hp, rfl⟩, ?_, fun b hb => (hf b hb).1⟩⟩
    show h'.IsKeyIter it d (i + 1) es.length _
    rw [hl]
    exact st'
  done := by
    intro X hP hw hK hc i pins s σ H E I hf st hg
    subst hP hw hK
    obtain ⟨hd, hi⟩ := hg
    obtain ⟨f0, f1, f2, f3, f4, f5⟩ := hf it (by simp)
    obtain ⟨hs, hgd, hx, κ, _, knd, e', ep', vs, hdt, hsz, _, pr, hm⟩ := frzD I hd
    obtain ⟨rfl, rfl⟩ := dict_ep hod hdt
    exact next_key_end (I.ok.hd hc) st hgd hdt hsz hi fun h' eb => ⟨rfl, I.turned (t' := s.toks) (fun b ob hb e => eb b ob hb e) f0 f1 f3 f4 f5⟩
  self := fun A i s Q E st h => wpAny_pyIter_keyiter st h
theorem turn_itemsD {elts : List Expr} {kk : Nat} {tpos : Pos} (it : Addr) (hod : o.data = .dict e0 ep) :
    Turn P w K (.Tuple elts kk tpos) (ItiD P w d o es) [it] it (fun i h => ∃ ok ov, IsItemIter h it d i es.length ep ok ov) where
  mem := by simp
  obj := fun i h st b hb => by
    have e : b = it := by simpa using hb
    subst e
    obtain ⟨ok, ov, e⟩ := st
    exact ⟨_, e, fun v z => nomatch z⟩
  keep := fun i h h' st k => let ⟨ok, ov, e⟩ := st; ⟨ok, ov, k it (by simp) _ e⟩
  item := by
    intro X hP hw hK hc i pins s σ H E I hf st hg
    subst hP hw hK
    obtain ⟨hd, hi⟩ := hg
    obtain ⟨hs, hgd, hx, κ, _, knd, e', ep', vs, hdt, hsz, _, pr, hm⟩ := frzD I hd
    obtain ⟨rfl, rfl⟩ := dict_ep hod hdt
    obtain ⟨p, hp⟩ : ∃ p, es[i]? = some p := ⟨es[i], List.getElem?_eq_getElem hi⟩
    obtain ⟨⟨k, u⟩, hkv, r1, r2⟩ := L2.paired_get pr hp
    have hl : es.length = vs.length := Paired.length pr
    obtain ⟨ok, ov, he⟩ := st
    rw [hl] at he
    have hlt : it < s.heap.objs.size := Heap.lt_size he
    refine wpAny_pyNext_items_item he hm hkv fun key h' hkey ho hT hz hk => ?_
    refine ⟨_, rfl, wpAny_letOwnedTupleGo_items (s := { s with heap := h' }) ho fun h'' he' sb => ?_⟩
    have hT2 : h''.get? s.heap.objs.size = some { cls := .type "tuple", data := .seq #[key, u] } := (sb.2 _ (Nat.ne_of_gt hlt)).trans hT
    have new : ObjOk X.prog X.w (upd H s.heap.objs.size (.tup [p.1, p.2])) h'' s.heap.objs.size (.tup [p.1, p.2]) :=
      ⟨by show 2 ≤ sizeLine; decide, [key, u], .cons (r1 key hkey) (.cons r2 .nil), ⟨_, hT2, rfl, _, rfl⟩⟩
    have I1 : L2.Inv X pins σ (upd H s.heap.objs.size (.tup [p.1, p.2])) { s with heap := h'' } :=
      I.turnedNew (t' := s.toks) (ch := [it]) (fun b ob hb e => (sb.2 b (by simpa using hb)).trans (hk b ob (by simpa using hb) e)) hf (Nat.le_refl _) new
    refine ⟨.ref s.heap.objs.size, _, I1, rfl, ⟨_, p, hp, rfl, I.hok.fresh (Nat.le_refl _), rfl⟩, ⟨key, u, ?_⟩, fun b hb => ?_⟩
    · rw [hl]; exact he'
    · have e : b = it := by simpa using hb
      rw [e, upd_ne (Nat.ne_of_lt hlt)]
      exact (hf it (by simp)).1
  done := by
    intro X hP hw hK hc i pins s σ H E I hf st hg
    subst hP hw hK
    obtain ⟨hd, hi⟩ := hg
    obtain ⟨f0, f1, f2, f3, f4, f5⟩ := hf it (by simp)
    obtain ⟨hs, hgd, hx, κ, _, knd, e', ep', vs, hdt, hsz, _, pr, hm⟩ := frzD I hd
    obtain ⟨rfl, rfl⟩ := dict_ep hod hdt
    have hl : es.length = vs.length := Paired.length pr
    obtain ⟨ok, ov, he⟩ := st
    rw [hl] at he
    exact wpAny_pyNext_items_end (I.ok.hd hc) he hm (List.getElem?_eq_none (by omega)) fun h' eb => ⟨rfl, I.turned (t' := s.toks) (fun b ob hb e => eb b ob hb e) f0 f1 f3 f4 f5⟩
  self := fun A i s Q E st h => let ⟨_, _, e⟩ := st; PySem.W.kcp_self e h
theorem walk_keysD : Walk (ItkD P w d o es) es.length (fun H => Dd P w H d o es) (YAt (es.map (·.1))) :=
  ⟨fun i _ hi q => ⟨q, hi⟩, fun _ q => ⟨q, Nat.le_refl _⟩, fun i _ x _ _ q y => ⟨y.1, by obtain ⟨p, e1, e2⟩ := y.2; rw [List.getElem?_map, e1, e2]; rfl⟩⟩
theorem walk_itemsD : Walk (ItiD P w d o es) es.length (fun H => Dd P w H d o es) (fun i H x H' => ∃ T p, es[i]? = some p ∧ x = .ref T ∧ H T = none ∧ H' = upd H T (.tup [p.1, p.2])) :=
  ⟨fun i _ hi q => ⟨q, hi⟩, fun _ q => ⟨q, Nat.le_refl _⟩, fun i _ x _ _ q y => y⟩
def iKeysD (P : Program) (w : World) (td : TE) : TI := fun σ H R => td σ H fun x H1 => ∃ d o es, x = .ref d ∧ Dd P w H1 d o es ∧ R (ItkD P w d o es) H1
def iItemsD (P : Program) (w : World) (td : TE) : TI := fun σ H R => td σ H fun x H1 => ∃ d o es, x = .ref d ∧ Dd P w H1 d o es ∧ R (ItiD P w d o es) H1
end
theorem vals_of_pr {κ : Type} {F : V → κ → Prop} : ∀ {es : List (V × V)} {vs : List (κ × Value)}, Paired (fun (p : V × V) (q : κ × Value) => F p.1 q.1 ∧ RelV p.2 q.2) es vs → Vals (es.map (·.2)) (vs.map (·.2))
  | _, _, .nil => .nil
  | _, _, .cons r t => .cons r.2 (vals_of_pr t)
section
variable {X : Cx} {tg e : Expr} {td : TE} {p apos cpos pos : Pos}
theorem pi_keysD (he : PE X e td) : PI X tg e (iKeysD X.prog X.w td) := by
  refine ⟨fun pins s σ H R I h => ?_⟩
  refine thn (he.run pins s σ H _ I h) fun u s1 ⟨x, H1, I1, rx, d, o, es, ex, hd, q⟩ => ?_
  subst ex
  obtain rfl : u = Value.ref d := rx
  obtain ⟨hs, hgd, hx, κ, _, knd, e', ep', vs, hdt, hsz, _, pr, hm⟩ := frzD I1 hd
  refine iter_keys hs hgd hx hdt (pi_one (tk := s1.toks) I1 _ (turn_keysD _ hdt) ⟨_, Heap.get?_push_size _ rfl, rfl, ?_⟩ q)
  rw [hsz] <;> rfl
theorem pi_itemsD {elts : List Expr} {kk : Nat} {tpos : Pos} (he : PE X e td) (hbase : attributeBase e "items" X.env (eval e X.env) = eval e X.env := by rfl) (hline : (apos.endLine == cpos.line) = true := by rfl) :
    PI X (.Tuple elts kk tpos) (.Call (.Attribute e "items" apos) [] [] cpos) (iItemsD X.prog X.w td) := by
  refine ⟨fun pins s σ H R I h => ?_⟩
  refine wpAny_Call_method (T := "dict") (id := "dict.items") hbase rfl hline F.plainAttrs_dict F.slot_dict_items F.type_dict_items (thn (he.run pins s σ H _ I h) fun u s1 ⟨x, H1, I1, rx, d, o, es, ex, hd, q⟩ => ?_)
  subst ex
  obtain rfl : u = Value.ref d := rx
  obtain ⟨hs, hgd, hx, κ, _, knd, e', ep', vs, hdt, hsz, _, pr, hm⟩ := frzD I1 hd
  have hl : es.length = vs.length := Paired.length pr
  refine ⟨hm.dictOf.typeIs, hm.dictOf.mapOf.noDict, ?_⟩
  have I2 : L2.Inv X pins σ H1 { s1 with heap := s1.heap.push { cls := .type "dict_items", data := .fields #[.ref d] } } := I1.kept (t' := s1.toks) fun b ob q => Heap.get?_push_of_some _ q
  have fin : wpAny (model X.prog X.w) X.A (pyIter (.ref s1.heap.objs.size)) (PIE X pins σ (.Tuple elts kk tpos) R) X.xe { s1 with heap := s1.heap.push { cls := .type "dict_items", data := .fields #[.ref d] } } := by
    refine wpAny_pyIter_items (d := d) (knd := knd) ⟨_, Heap.get?_push_size _ rfl, rfl, rfl⟩ (hm.push _) (pi_one (tk := s1.toks) I2 _ (turn_itemsD _ hdt) ⟨.none, .none, ?_⟩ q)
    rw [hl]
    exact Heap.get?_push_size _ rfl
  show wpAny _ _ (callWith cpos (.builtin "dict.items") [.ref d] [] []) _ X.xe s1
  exact method_meetsIn F.slot_dict_items F.entry_dict_items rfl (PySem.evalArgs_none ⟨rfl, hm.dictOf.typeIs, F.args_dict_items_1 _, _, meets_dict_items knd d hs, ⟨vs, hm.dictOf⟩, fin⟩)
/-- list(e.values()), list(e.items()) of a locked dict of data -/
def tListVals (P : Program) (w : World) (te : TE) : TE := fun σ H Q => te σ H fun x H1 => ∃ d o es, x = .ref d ∧ Dd P w H1 d o es ∧ ∀ l, H1 l = none → Q (.ref l) (upd H1 l (.lst (es.map (·.2))))
theorem pe_listVals (hc : X.calm = true) (he : PE X e td) (hg : Gl X "list") (hm : X.mg "list" = none) (hv : bootBuiltins "list" = some (.type "list")) (hbase : attributeBase e "values" X.env (eval e X.env) = eval e X.env := by rfl) (hline : (apos.endLine == cpos.line) = true := by rfl)
    (hs : starEach [.Call (.Attribute e "values" apos) [] [] cpos] X.env = (false, eval (.Call (.Attribute e "values" apos) [] [] cpos) X.env) :: starEach [] X.env := by rfl) :
    PE X (.Call (.Name "list" p) [.Call (.Attribute e "values" apos) [] [] cpos] [] pos) (tListVals X.prog X.w td) := by
  refine ⟨fun pins s σ H Q I hq => ?_⟩
  refine wpAny_Call_Name_kw (ld_blt I hg hm hv ?_)
  refine PyProof.Rows.callWith_type1 ?_ hs rfl
  rw [hs]
  show wpAny _ _ (spliced ((false, eval (.Call (.Attribute e "values" apos) [] [] cpos) X.env) :: backTo pos (starEach [] X.env))) _ _ s
  refine Calls.spliced_cons ?_
  refine wpAny_Call_method (T := "dict") (id := "dict.values") hbase rfl hline F.plainAttrs_dict F.slot_dict_values F.type_dict_values (thn (he.run pins s σ H _ I hq) fun u s1 ⟨x, H1, I1, rx, d, o, es, ex, hd, q⟩ => ?_)
  subst ex
  obtain rfl : u = Value.ref d := rx
  obtain ⟨hs0, hgd, hx, κ, _, knd, e', ep', vs, hdt, hsz, hzz, pr, hat⟩ := frzD I1 hd
  have lk : es.length = vs.length := Paired.length pr
  have I2 : L2.Inv X pins σ H1 { s1 with heap := s1.heap.push { cls := .type "dict_values", data := .fields #[.ref d] } } := I1.kept (t' := s1.toks) fun b ob q => Heap.get?_push_of_some _ q
  refine ⟨hat.dictOf.typeIs, hat.dictOf.mapOf.noDict, ?_⟩
  show wpAny _ _ (callWith cpos (.builtin "dict.values") [.ref d] [] []) _ X.xe s1
  refine method_meetsIn F.slot_dict_values F.entry_dict_values rfl (PySem.evalArgs_none ⟨rfl, hat.dictOf.typeIs, F.args_dict_values_1 _, _, meets_dict_values knd d hs0, ⟨vs, hat.dictOf⟩, ?_⟩)
  refine Calls.spliced_nil ?_
  refine PySem.W.kdl_call (PySem.W.kdl_values (knd := knd) (kvs := vs) (d := d) (ep := ep')) (I1.ok.hd hc) ⟨⟨_, Heap.get?_push_size _ rfl, rfl, rfl⟩, hat.push _⟩ (by omega) fun h' tk acc c hk hS hacc => ?_
  have rv : Vals (es.map (·.2)) acc.toList := by
    have e : acc.toList = vs.map (·.2) := PySem.W.kdl_vals_eq acc.toList (by rw [Array.length_toList]; exact hacc.1) fun j v hj => hacc.2 j v (by simpa using hj)
    rw [e]
    exact vals_of_pr (F := fun p k => ∀ u, knd.is k u = true → RelV p u) pr
  have J : L2.Inv X pins σ (upd H1 _ (.lst (es.map (·.2)))) { { s1 with heap := s1.heap.push { cls := .type "dict_values", data := .fields #[.ref d] } } with heap := h', toks := tk } :=
    I2.laid (t' := tk) hk (Nat.le_refl _) (show ObjOk X.prog X.w _ h' _ (.lst (es.map (·.2))) from ⟨by rw [List.length_map]; exact hzz, acc.toList, c, rv, by rw [Array.toArray_toList]; exact hS⟩)
  exact ⟨.ref _, _, J, rfl, q _ (I2.hok.fresh (Nat.le_refl _))⟩
/-- list(e.items()) -/
def tListItsD (P : Program) (w : World) (te : TE) : TE := fun σ H Q => te σ H fun x H1 => ∃ d o es, x = .ref d ∧ Dd P w H1 d o es ∧
  ∀ (H' : Hp) (p : Addr) (ts : List Addr), Same H1 H' → H1 p = none → (∀ t ∈ ts, H1 t = none) → p ∉ ts → H' p = some (.lst (ts.map V.ref)) → Paired (fun (t : Addr) (q : V × V) => H' t = some (.tup [q.1, q.2])) ts es → Q (.ref p) H'
theorem items_laidD {κ : Type} [DecidableEq κ] {knd : PySem.KeyKind X.prog X.w κ} {pins : List (Addr × Obj)} {σ : L2.St} {H : Hp} {s : Shared} {h' : Heap} {tk : Nat} {es : List (V × V)} {vs : List (κ × Value)} {acc : Array Value} {c : Nat} {as : List Addr} (I : L2.Inv X pins σ H s) (hz : es.length ≤ sizeLine)
    (pr : Paired (fun (p : V × V) (q : κ × Value) => (∀ u, knd.is q.1 u = true → RelV p.1 u) ∧ RelV p.2 q.2) es vs)
    (hk : ∀ b o, s.heap.get? b = some o → h'.get? b = some o) (hS : h'.get? s.heap.objs.size = some { cls := .type "list", dict := none, data := .seq acc c, slots := #[] }) (hl : as.length = vs.length) (hG : PySem.W.KdxG knd vs s.heap.objs.size h' as) (hacc : acc.toList = as.map Value.ref) :
    ∃ H' : Hp, Same H H' ∧ H s.heap.objs.size = none ∧ (∀ t ∈ as, H t = none) ∧ s.heap.objs.size ∉ as ∧ H' s.heap.objs.size = some (.lst (as.map V.ref)) ∧ Paired (fun (t : Addr) (q : V × V) => H' t = some (.tup [q.1, q.2])) as es ∧ L2.Inv X pins σ H' { s with heap := h', toks := tk } := by
  have lk : es.length = vs.length := Paired.length pr
  have hSn : s.heap.objs.size ∉ as := fun z => Nat.lt_irrefl _ (hG.above _ z)
  have nd : as.Nodup := List.Pairwise.imp (fun {a b} (h : a < b) => Nat.ne_of_lt h) hG.rise
  have new : ∀ t ∈ as, H t = none := fun t ht => I.hok.fresh (Nat.le_of_lt (hG.above t ht))
  have newS : H s.heap.objs.size = none := I.hok.fresh (Nat.le_refl _)
  have atP := putP_at as es (upd H s.heap.objs.size (.lst (as.map V.ref))) (by omega) nd
  have off : ∀ b, b ∉ as → b ≠ s.heap.objs.size → putP (upd H s.heap.objs.size (.lst (as.map V.ref))) as es b = H b := fun b h1 h2 => by rw [putP_off as es _ h1, upd_ne h2]
  have low : ∀ b o, s.heap.get? b = some o → b ∉ as ∧ b ≠ s.heap.objs.size := fun b o e => ⟨fun z => absurd (Heap.lt_size e) (Nat.not_lt.mpr (Nat.le_of_lt (hG.above b z))), Nat.ne_of_lt (Heap.lt_size e)⟩
  have kp : ∀ b u, H b = some u → (putP (upd H s.heap.objs.size (.lst (as.map V.ref))) as es) b = some u := fun b u e => by
    rw [off b (fun z => by rw [new b z] at e; cases e) (fun z => by rw [z, newS] at e; cases e)]
    exact e
  have eS : putP (upd H s.heap.objs.size (.lst (as.map V.ref))) as es s.heap.objs.size = some (.lst (as.map V.ref)) := by rw [putP_off as es _ hSn, upd_same]
  refine ⟨putP (upd H s.heap.objs.size (.lst (as.map V.ref))) as es, kp, newS, new, hSn, eS, atP, ?_⟩
  refine I.call' (ch := []) rfl ⟨fun b o q _ _ _ => hk b o q, fun b o q _ _ _ => ⟨o.slots, hk b o q⟩, fun b o q n _ => ?_, fun b o q _ => ⟨o, hk b o q⟩, fun b xs q => kp b _ q, fun b o u q => kp b _ q, fun b ps q => ⟨#[], by rw [kp b _ q]; simp⟩⟩ (fun b u q => ?_) I.bare fun b z => by simp at z
  · obtain ⟨z1, z2⟩ := low b o q
    rw [off b z1 z2]
    exact n
  · by_cases hb : b ∈ as
    · obtain ⟨j, pk, e1, e2, e3⟩ := LiI.paired_ix atP hb
      rw [e3] at q
      cases q
      obtain ⟨key, k, x, f1, f2, f3⟩ := hG.pairs j b e1
      obtain ⟨qv, g1, g2, g3⟩ := L2.paired_get pr e2
      rw [f1] at g1
      cases g1
      exact ⟨by show 2 ≤ sizeLine; decide, [key, x], .cons (g2 key f2) (.cons g3 .nil), ⟨_, f3, rfl, _, rfl⟩⟩
    · by_cases hb2 : b = s.heap.objs.size
      · rw [hb2] at q ⊢
        rw [eS] at q
        cases q
        refine ⟨by rw [List.length_map]; omega, acc.toList, c, by rw [hacc]; exact LiI.vals_refs as, ?_⟩
        rw [Array.toArray_toList]
        exact hS
      · rw [off b hb hb2] at q
        exact (I.hok b u q).stay (fun d v _ y => hk d v y) (fun d y => kp d _ y) fun d xs y => kp d _ y
theorem pe_listItsD (hc : X.calm = true) (he : PE X e td) (hg : Gl X "list") (hm : X.mg "list" = none) (hv : bootBuiltins "list" = some (.type "list")) (hbase : attributeBase e "items" X.env (eval e X.env) = eval e X.env := by rfl) (hline : (apos.endLine == cpos.line) = true := by rfl)
    (hs : starEach [.Call (.Attribute e "items" apos) [] [] cpos] X.env = (false, eval (.Call (.Attribute e "items" apos) [] [] cpos) X.env) :: starEach [] X.env := by rfl) :
    PE X (.Call (.Name "list" p) [.Call (.Attribute e "items" apos) [] [] cpos] [] pos) (tListItsD X.prog X.w td) := by
  refine ⟨fun pins s σ H Q I hq => ?_⟩
  refine wpAny_Call_Name_kw (ld_blt I hg hm hv ?_)
  refine PyProof.Rows.callWith_type1 ?_ hs rfl
  rw [hs]
  show wpAny _ _ (spliced ((false, eval (.Call (.Attribute e "items" apos) [] [] cpos) X.env) :: backTo pos (starEach [] X.env))) _ _ s
  refine Calls.spliced_cons ?_
  refine wpAny_Call_method (T := "dict") (id := "dict.items") hbase rfl hline F.plainAttrs_dict F.slot_dict_items F.type_dict_items (thn (he.run pins s σ H _ I hq) fun u s1 ⟨x, H1, I1, rx, d, o, es, ex, hd, q⟩ => ?_)
  subst ex
  obtain rfl : u = Value.ref d := rx
  obtain ⟨hs0, hgd, hx, κ, _, knd, e', ep', vs, hdt, hsz, hzz, pr, hat⟩ := frzD I1 hd
  have lk : es.length = vs.length := Paired.length pr
  have I2 : L2.Inv X pins σ H1 { s1 with heap := s1.heap.push { cls := .type "dict_items", data := .fields #[.ref d] } } := I1.kept (t' := s1.toks) fun b ob q => Heap.get?_push_of_some _ q
  refine ⟨hat.dictOf.typeIs, hat.dictOf.mapOf.noDict, ?_⟩
  show wpAny _ _ (callWith cpos (.builtin "dict.items") [.ref d] [] []) _ X.xe s1
  refine method_meetsIn F.slot_dict_items F.entry_dict_items rfl (PySem.evalArgs_none ⟨rfl, hat.dictOf.typeIs, F.args_dict_items_1 _, _, meets_dict_items knd d hs0, ⟨vs, hat.dictOf⟩, ?_⟩)
  refine Calls.spliced_nil ?_
  refine PySem.W.kdx_call (knd := knd) (kvs := vs) (ep := ep') (I1.ok.hd hc) ⟨_, Heap.get?_push_size _ rfl, rfl, rfl⟩ (hat.push _) (by omega) fun h' tk acc c as hk hS hl hG hacc => ?_
  obtain ⟨H', k1, k2, k3, k4, k5, k6, J⟩ := items_laidD (tk := tk) I2 hzz pr hk hS hl hG hacc
  exact ⟨.ref _, H', J, rfl, q H' _ as k1 k2 k3 k4 k5 k6⟩
end
/-! ### a thing that was just made is locked for good -/
section
variable {X : Cx} {e : Expr} {t : TE}
def tFz (t : TE) : TE := fun σ H Q => t σ H fun v H' => ∃ d u, v = .ref d ∧ H' d = some u ∧ Mut (some u) ∧ ∀ o, Q v (upd H' d (.frz o u))
theorem pe_fz (h : PE X e t) : PE X e (tFz t) := by
  refine ⟨fun pins s σ H Q I hq => ?_⟩
  refine thn (h.run pins s σ H _ I hq) fun v s1 ⟨x, H1, I1, rx, d, u, ex, hd, mu, q⟩ => ?_
  obtain ⟨od, J⟩ := I1.lock hd mu
  exact ⟨x, _, J, rx, q od⟩
theorem pe_mono {e : Expr} {t t' : TE} (h : PE X e t) (f : ∀ σ H Q, t' σ H Q → t σ H Q) : PE X e t' := ⟨fun pins s σ H Q I q => h.run pins s σ H Q I (f σ H Q q)⟩
theorem pa_mono {es : List Expr} {t t' : TA} (h : PA X es t) (f : ∀ σ H Q, t' σ H Q → t σ H Q) : PA X es t' := ⟨fun pos pins s σ H Q I q => h.run pos pins s σ H Q I (f σ H Q q)⟩
end
end K00
set_option Elab.async false
set_option linter.all false
set_option maxRecDepth 100000
set_option maxHeartbeats 4000000
/-! K00M: a list beside [], a dict beside {}, count of a bool. -/
namespace PySem.SeqAt
open AutoSeq1 (wpAny_loadPart')
open MeetsSeq MeetsSeq2 MeetsSeq3 SeqRoads2
section
variable {prog : Program} {w : World}
theorem k00_list_neIn (l b : Addr) (items items2 : Array Value) (n n2 : Nat) (dd dd2 : Option Addr) (sl sl2 : Array (Option Value)) (h2 : items2.size = 0) :
    MeetsIn prog w (Builtin.«list.__ne__» ⟨[.ref l, .ref b], []⟩)
      (fun A R s => s.heap.get? l = some { cls := .type "list", dict := dd, data := .seq items n, slots := sl } ∧ s.heap.get? b = some { cls := .type "list", dict := dd2, data := .seq items2 n2, slots := sl2 } ∧
        R (.ok (.ret (.bool (items.size != 0)))) s) := by
  intro A R s h
  obtain ⟨hp, g, d, tk, os⟩ := s; obtain ⟨hl, hb, h⟩ := h
  have f3 := AutoSeq1.sub_list_list
  by_cases hz : items.size = 0
  · have hne : ¬ (items.size != items2.size) = true := by simp [hz, h2]
    wp_walk using wpAny_loadPart' hl, wpAny_loadPart' hb
    refine ⟨plainId_quiet plain_eq_loop _, codeAny_builtin entry_eq_loop ?_⟩
    rw [Around.under_plainId plain_eq_loop _]
    wp_walk using wpAny_loadPart' hl, wpAny_loadPart' hb
    have e1 : items[((0 : Int)).toNat]? = none := Array.getElem?_eq_none (Nat.le_of_eq hz)
    have e2 : items2[((0 : Int)).toNat]? = none := Array.getElem?_eq_none (Nat.le_of_eq h2)
    rw [e1, e2]
    wp_walk using wpAny_loadPart' hl, wpAny_loadPart' hb
    show R (.ok (.ret (.bool (items.size != items2.size)))) _
    rw [h2]
    exact h
  · have hne : (items.size != items2.size) = true := by simp [hz, h2]
    wp_walk using wpAny_loadPart' hl, wpAny_loadPart' hb
    have e : (items.size != 0) = true := by simp [hz]
    rw [e] at h
    exact h
theorem k00_ne_nil {A : Around} {E : Value → Shared → Prop} {s : Shared} {l b : Addr} {items items2 : Array Value} {Q : Value → Shared → Prop} (hl : s.heap.IsList l items) (hb : s.heap.IsList b items2) (h2 : items2.size = 0) (hu : A.units < cLine)
    (h : Q (.bool (items.size != 0)) s) : wpAny (model prog w) A (compareOp .NotEq (.ref l) (.ref b)) Q E s := by
  obtain ⟨⟨cls, dd, data, sl⟩, ho, hc, n, hd⟩ := id hl
  obtain ⟨⟨cls2, dd2, data2, sl2⟩, ho2, hc2, n2, hd2⟩ := id hb
  simp only at hc hd hc2 hd2
  subst hc hd hc2 hd2
  have ta : s.TypeIs (.ref l) "list" := ⟨_, ho, rfl⟩
  have tb : s.TypeIs (.ref b) "list" := ⟨_, ho2, rfl⟩
  show wpAny _ _ (richCompare .NotEq (.ref l) (.ref b)) _ _ _
  exact wpAny_richCompare_same_room (op := .NotEq) ta tb F.slot_list_ne (call_meetsIn F.slot_list_ne ta F.entry_list_ne (F.args_list_ne_2 _ _) (k00_list_neIn l b items items2 n n2 dd dd2 sl sl2 h2)
    ⟨ho, ho2, show Value.bool (items.size != 0) ≠ Value.notImplemented ∧ Q (.bool (items.size != 0)) s from ⟨(fun x => nomatch x), h⟩⟩) hu
end
end PySem.SeqAt
namespace PySem.W
section
variable {prog : Program} {w : World} {K : Type} [DecidableEq K] {knd : KeyKind prog w K} {A : Around} {s : Shared}
theorem k00_ne_dicts {a b : Addr} {ka kb : List (K × Value)} {E : Value → Shared → Prop} {Q : Value → Shared → Prop} (ha : (a == sysModules) = false) (hb : (b == sysModules) = false)
    (da : s.heap.DictOf knd a ka) (db : s.heap.DictOf knd b kb) (hkb : kb = []) (hu : A.units < cLine) (h : Q (.bool (!ka.isEmpty)) s) : wpAny (model prog w) A (compareOp .NotEq (.ref a) (.ref b)) Q E s := by
  show wpAny _ _ (richCompare .NotEq (.ref a) (.ref b)) _ _ _
  refine wpAny_richCompare_same_room (op := .NotEq) da.typeIs db.typeIs PySem.F.slot_dict_ne (wpAny_call_entry PySem.F.slot_dict_ne da.typeIs PySem.F.entry_dict_ne ?_ (PySem.F.args_dict_ne_2 _ _)) hu
  show wpAny _ _ (Builtin.Dict.dictSlotArgs "__ne__" ⟨[.ref a, .ref b], []⟩ >>= _) _ _ s
  refine wpAny_bind ?_
  unfold Builtin.Dict.dictSlotArgs
  refine wpAny_bind (wpAny_notOrdered_dict da.typeIs ?_)
  show wpAny _ _ (pure (Value.ref a, Value.ref b)) _ _ s
  refine wpAny_pure ?_
  refine wpAny_bind (wpAny_isInstance (T := "dict") db.typeIs PySem.F.sub_dict_dict ?_)
  simp only [Bool.not_true, Bool.false_eq_true, if_false]
  refine wpAny_bind (wpAny_pure (wpAny_bind (wpAny_pure ?_)))
  subst hkb
  cases ka with
  | nil =>
    refine wpAny_bind (samePairsP (r := true) ha hb da db (fun _ => .nil) ?_)
    refine wpAny_pure ⟨_, rfl, ?_, ?_⟩
    · exact fun x => nomatch x
    · simpa using h
  | cons p r =>
    refine wpAny_bind (samePairsP (r := true) ha hb da db (fun z => by cases z) ?_)
    refine wpAny_pure ⟨_, rfl, ?_, ?_⟩
    · exact fun x => nomatch x
    · simpa using h
end
end PySem.W
namespace K00
open PySem PySem.Spec PyProof.Rows L2
section
variable {X : Cx}
def rNeNil (K : PySem.W.Frag) : R2 := fun x y H Q => ∃ a b xs, x = .ref a ∧ y = .ref b ∧ SqL K H a xs ∧ SqL K H b [] ∧ Q (.bl (!xs.isEmpty)) H
theorem op_neNil (hu : X.A.units < cLine) : OpR X (compareOp .NotEq) (rNeNil X.K) := by
  intro pins s σ H x y v u Q I rx ry h
  obtain ⟨a, b, xs, rfl, rfl, hx, hy, q⟩ := h
  cases rx
  cases ry
  obtain ⟨its, rv, p1, hz1⟩ := I.list hx
  obtain ⟨its2, rv2, p2, hz2⟩ := I.list hy
  have l1 := rv.length
  have l2 := rv2.length
  refine PySem.SeqAt.k00_ne_nil p1.isList p2.isList (by simpa using l2.symm) hu ⟨.bl _, H, I, ?_, q⟩
  show Value.bool _ = Value.bool _
  congr 1
  cases xs with
  | nil => simp at l1; simp [← l1]
  | cons x r => simp at l1; simp [← l1]
def rNeNilD (P : Program) (w : World) : R2 := fun x y H Q => ∃ a b kvs, x = .ref a ∧ y = .ref b ∧ Rd H a (.dK kvs) ∧ Rd H b (.dK []) ∧ Q (.bl (!kvs.isEmpty)) H
theorem op_neNilD (hu : X.A.units < cLine) : OpR X (compareOp .NotEq) (rNeNilD X.prog X.w) := by
  intro pins s σ H x y v u Q I rx ry h
  obtain ⟨a, b, kvs, rfl, rfl, hx, hy, q⟩ := h
  cases rx
  cases ry
  obtain ⟨_, hd, vs, kv, dd⟩ := dk_rd I.hok hx
  obtain ⟨_, hd2, vs2, kv2, dd2⟩ := dk_rd I.hok hy
  have l1 : kvs.length = vs.length := Paired.length kv
  cases kv2
  refine PySem.W.k00_ne_dicts hd hd2 dd dd2 rfl hu ⟨.bl _, H, I, ?_, q⟩
  show Value.bool _ = Value.bool _
  congr 1
  cases kvs with
  | nil => cases vs with
    | nil => rfl
    | cons _ _ => cases l1
  | cons x r => cases vs with
    | nil => cases l1
    | cons _ _ => rfl
end
end K00
set_option Elab.async false
set_option linter.all false
set_option maxRecDepth 100000
set_option maxHeartbeats 4000000
/-! K00O: when two documents are the same: their inks, and what can be told part by part. -/
namespace K00
open PySem PySem.Spec PyProof.Rows
def kS : PyData → Str
  | .str s => s
  | _ => ""
def LeS (a b : Str) : Prop := ltCps b.cps.toList a.cps.toList = false
theorem leS_iff {a b : Str} : LeS a b ↔ a.cps.toList ≤ b.cps.toList := by
  unfold LeS
  rw [ltCps_eq]
  constructor
  · intro h
    exact List.not_lt.mp (of_decide_eq_false h)
  · intro h
    exact decide_eq_false (List.not_lt.mpr h)
theorem str_ext {a b : Str} (h : a.cps.toList = b.cps.toList) : a = b := PyProof.Rows.str_of_list h
theorem leS_trans {a b c : Str} (h : LeS a b) (k : LeS b c) : LeS a c := leS_iff.mpr (List.le_trans (leS_iff.mp h) (leS_iff.mp k))
theorem leS_anti {a b : Str} (h : LeS a b) (k : LeS b a) : a = b := str_ext (List.le_antisymm (leS_iff.mp h) (leS_iff.mp k))
theorem leS_total (a b : Str) : LeS a b ∨ LeS b a := by
  rcases List.le_total a.cps.toList b.cps.toList with h | h
  · exact .inl (leS_iff.mpr h)
  · exact .inr (leS_iff.mpr h)
theorem rising_pair : ∀ (l : List Str) (p : Str), risingS p l = true → (p :: l).Pairwise LeS
  | [], p, _ => List.pairwise_singleton _ _
  | x :: r, p, h => by
    have h' : (!ltCps x.cps.toList p.cps.toList && risingS x r) = true := h
    obtain ⟨h1, h2⟩ := Bool.and_eq_true_iff.mp h'
    have ih := rising_pair r x h2
    have e1 : LeS p x := by
      unfold LeS
      simpa using h1
    refine List.pairwise_cons.mpr ⟨fun y hy => ?_, ih⟩
    rcases List.mem_cons.mp hy with e | hy
    · rw [e]; exact e1
    · exact leS_trans e1 ((List.pairwise_cons.mp ih).1 y hy)
theorem sorted_pair {l : List Str} (h : sortedS l = true) : l.Pairwise LeS := by
  cases l with
  | nil => exact .nil
  | cons x r => exact rising_pair r x h
theorem sorted_same {a b : List Str} (hp : a.Perm b) (ha : a.Pairwise LeS) (hb : b.Pairwise LeS) : a = b := by
  exact hp.eq_of_pairwise (fun x y _ _ h1 h2 => leS_anti h1 h2) ha hb
def ins (p : Str × PyData) : List (Str × PyData) → List (Str × PyData)
  | [] => [p]
  | q :: r => if ltCps q.1.cps.toList p.1.cps.toList = true then q :: ins p r else p :: q :: r
def isort : List (Str × PyData) → List (Str × PyData)
  | [] => []
  | p :: r => ins p (isort r)
theorem ins_perm (p : Str × PyData) : ∀ l, (ins p l).Perm (p :: l)
  | [] => .refl _
  | q :: r => by
    unfold ins
    split
    · exact ((ins_perm p r).cons q).trans (.swap p q r)
    · exact .refl _
theorem isort_perm : ∀ l, (isort l).Perm l
  | [] => .refl _
  | p :: r => (ins_perm p _).trans ((isort_perm r).cons p)
theorem ins_sorted (p : Str × PyData) : ∀ l : List (Str × PyData), l.Pairwise (fun a b => LeS a.1 b.1) → (ins p l).Pairwise (fun a b => LeS a.1 b.1)
  | [], _ => List.pairwise_singleton _ _
  | q :: r, h => by
    have h' := List.pairwise_cons.mp h
    unfold ins
    split
    · rename_i c
      refine List.pairwise_cons.mpr ⟨fun y hy => ?_, ins_sorted p r h'.2⟩
      rcases List.mem_cons.mp ((ins_perm p r).mem_iff.mp hy) with e | hy
      · rw [e]
        rcases leS_total q.1 p.1 with z | z
        · exact z
        · unfold LeS at z
          rw [c] at z
          cases z
      · exact h'.1 y hy
    · rename_i c
      have e1 : LeS p.1 q.1 := by
        unfold LeS
        simpa using c
      refine List.pairwise_cons.mpr ⟨fun y hy => ?_, h⟩
      rcases List.mem_cons.mp hy with e | hy
      · rw [e]; exact e1
      · exact leS_trans e1 (h'.1 y hy)
theorem isort_sorted : ∀ l, (isort l).Pairwise (fun a b => LeS a.1 b.1)
  | [] => .nil
  | p :: r => ins_sorted p _ (isort_sorted r)
def pairT (p : Str × PyData) : PyData := .tuple [.str p.1, p.2]
theorem pairT_inj : ∀ a b : Str × PyData, pairT a = pairT b → a = b := fun a b h => by
  unfold pairT at h
  injection h with h
  injection h with h1 h2
  injection h2 with h2 h3
  injection h1 with h1
  exact Prod.ext h1 h2
mutual
def inkD : PyData → PyData
  | .none => .tuple [.str "word", .str "None"]
  | .bool b => .tuple [.str "word", .str (if b then "True" else "False")]
  | .int i => .tuple [.str "int", .int i]
  | .str s => .tuple [.str "text", .str s]
  | .tuple _ => .none
  | .list xs => .tuple (.str "list" :: inkL xs)
  | .dict ds => .tuple (.str "record" :: (isort (inkK ds)).map pairT)
def inkL : List PyData → List PyData
  | [] => []
  | x :: r => inkD x :: inkL r
def inkK : List (PyData × PyData) → List (Str × PyData)
  | [] => []
  | (k, v) :: r => (kS k, inkD v) :: inkK r
end
theorem inkL_eq : ∀ xs, inkL xs = xs.map inkD
  | [] => rfl
  | x :: r => by rw [inkL, inkL_eq r, List.map_cons]
theorem inkK_eq : ∀ ds, inkK ds = ds.map fun p => (kS p.1, inkD p.2)
  | [] => rfl
  | (k, v) :: r => by rw [inkK, inkK_eq r, List.map_cons]
/-- the value at a key -/
def lookD (ds : List (PyData × PyData)) (k : Str) : PyData := ((ds.find? fun p => decide (kS p.1 = k)).map (·.2)).getD .none
theorem lookD_mem {ds : List (PyData × PyData)} {k : Str} (h : k ∈ ds.map fun p => kS p.1) : ∃ p ∈ ds, kS p.1 = k ∧ lookD ds k = p.2 := by
  unfold lookD
  cases e : ds.find? fun p => decide (kS p.1 = k) with
  | none =>
    obtain ⟨p, hp, hk⟩ := List.mem_map.mp h
    have := List.find?_eq_none.mp e p hp
    simp [hk] at this
  | some p =>
    exact ⟨p, List.mem_of_find?_eq_some e, by simpa using List.find?_some e, rfl⟩
theorem nodup_fn {ds : List (PyData × PyData)} (n : (ds.map fun p => kS p.1).Nodup) {p q : PyData × PyData} (hp : p ∈ ds) (hq : q ∈ ds) (e : kS p.1 = kS q.1) : p = q := by
  induction ds with
  | nil => cases hp
  | cons x r ih =>
    rw [List.map_cons] at n
    obtain ⟨n1, n2⟩ := List.nodup_cons.mp n
    rcases List.mem_cons.mp hp with hp | hp <;> rcases List.mem_cons.mp hq with hq | hq
    · rw [hp, hq]
    · exfalso
      apply n1
      rw [← hp, e]
      exact List.mem_map.mpr ⟨q, hq, rfl⟩
    · exfalso
      apply n1
      rw [← hq, ← e]
      exact List.mem_map.mpr ⟨p, hp, rfl⟩
    · exact ih n2 hp hq
theorem lookD_of {ds : List (PyData × PyData)} (n : (ds.map fun p => kS p.1).Nodup) {p : PyData × PyData} (hp : p ∈ ds) : lookD ds (kS p.1) = p.2 := by
  obtain ⟨q, h1, h2, h3⟩ := lookD_mem (ds := ds) (k := kS p.1) (List.mem_map.mpr ⟨p, hp, rfl⟩)
  rw [h3, nodup_fn n h1 hp h2]
theorem isort_keys (ds : List (PyData × PyData)) : ((isort (inkK ds)).map (·.1)).Perm (ds.map fun p => kS p.1) := by
  have h := (isort_perm (inkK ds)).map (·.1)
  rw [inkK_eq, List.map_map] at h
  rw [inkK_eq]
  exact h
theorem isort_keys_sorted (ds : List (PyData × PyData)) : ((isort (inkK ds)).map (·.1)).Pairwise LeS := by
  rw [List.pairwise_map]
  exact isort_sorted _
/-- the sorted keys with the inks of their values are the record's ink -/
theorem ink_dict {ds : List (PyData × PyData)} {ys : List Str} (n : (ds.map fun p => kS p.1).Nodup) (hp : ys.Perm (ds.map fun p => kS p.1)) (hs : sortedS ys = true) :
    inkD (.dict ds) = .tuple (.str "record" :: ys.map fun k => pairT (k, inkD (lookD ds k))) := by
  have e : (isort (inkK ds)).map (·.1) = ys := sorted_same ((isort_keys ds).trans hp.symm) (isort_keys_sorted ds) (sorted_pair hs)
  rw [inkD, ← e, List.map_map]
  congr 2
  refine List.map_congr_left fun q hq => ?_
  have hq' := (isort_perm (inkK ds)).mem_iff.mp hq
  rw [inkK_eq] at hq'
  obtain ⟨p, hp2, rfl⟩ := List.mem_map.mp hq'
  show pairT (kS p.1, inkD p.2) = pairT (kS p.1, inkD (lookD ds (kS p.1)))
  rw [lookD_of n hp2]
theorem ink_lists {xs ys : List PyData} (h : xs.length = ys.length) : inkD (.list xs) = inkD (.list ys) ↔ ∀ p ∈ xs.zip ys, inkD p.1 = inkD p.2 := by
  rw [inkD, inkD, inkL_eq, inkL_eq]
  constructor
  · intro e p hp
    injection e with e
    injection e with _ e
    obtain ⟨i, hi⟩ := List.mem_iff_getElem?.mp hp
    obtain ⟨a, b⟩ := p
    obtain ⟨h1, h2⟩ := List.getElem?_zip_eq_some.mp hi
    have z := congrArg (fun l => l[i]?) e
    simp only [List.getElem?_map] at z
    rw [show xs[i]? = some a from h1, show ys[i]? = some b from h2] at z
    exact Option.some.inj z
  · intro q
    congr 2
    induction xs generalizing ys with
    | nil => cases ys with
      | nil => rfl
      | cons _ _ => cases h
    | cons x r ih => cases ys with
      | nil => cases h
      | cons y t =>
        rw [List.map_cons, List.map_cons, q (x, y) (by simp), ih (by simpa using h) fun p hp => q p (by simp [hp])]
theorem ink_len {xs ys : List PyData} (h : inkD (.list xs) = inkD (.list ys)) : xs.length = ys.length := by
  rw [inkD, inkD, inkL_eq, inkL_eq] at h
  injection h with e
  injection e with _ e
  simpa using congrArg List.length e
theorem ink_records {ds es : List (PyData × PyData)} {ys zs : List Str} (n : (ds.map fun p => kS p.1).Nodup) (m : (es.map fun p => kS p.1).Nodup) (hy : ys.Perm (ds.map fun p => kS p.1)) (sy : sortedS ys = true)
    (hz : zs.Perm (es.map fun p => kS p.1)) (sz : sortedS zs = true) : inkD (.dict ds) = inkD (.dict es) ↔ ys = zs ∧ ∀ p ∈ ds, inkD p.2 = inkD (lookD es (kS p.1)) := by
  rw [ink_dict n hy sy, ink_dict m hz sz]
  constructor
  · intro e
    injection e with e
    injection e with _ e
    have e1 : ys = zs := by
      have z := congrArg (List.map fun t => match t with | PyData.tuple (PyData.str k :: _) => k | _ => ("" : Str)) e
      simpa [List.map_map, pairT, Function.comp_def] using z
    subst e1
    refine ⟨rfl, fun p hp => ?_⟩
    have hk : kS p.1 ∈ ys := hy.mem_iff.mpr (List.mem_map.mpr ⟨p, hp, rfl⟩)
    obtain ⟨i, hi⟩ := List.mem_iff_getElem?.mp hk
    have z := congrArg (fun l => l[i]?) e
    simp only [List.getElem?_map] at z
    rw [hi] at z
    have z2 := pairT_inj _ _ (Option.some.inj z)
    have z3 : inkD (lookD ds (kS p.1)) = inkD (lookD es (kS p.1)) := congrArg Prod.snd z2
    rw [lookD_of n hp] at z3
    exact z3
  · rintro ⟨rfl, q⟩
    congr 2
    refine List.map_congr_left fun k hk => ?_
    obtain ⟨p, hp, rfl⟩ := List.mem_map.mp (hy.mem_iff.mp hk)
    rw [lookD_of n hp, q p hp]
end K00
set_option Elab.async false
set_option linter.all false
set_option maxRecDepth 100000
set_option maxHeartbeats 4000000
/-! K00P: the program's defs on data: is_name, sort_of, inner_parts, parts_of, is_document. -/
namespace K00
open PySem PySem.Spec L2
open PyProof.Rows (envOfC)
structure Bl (mg : Str → Option Value) : Prop where
  len : mg "len" = none
  isi : mg "isinstance" = none
  all : mg "all" = none
  list : mg "list" = none
  max : mg "max" = none
  min : mg "min" = none
  range : mg "range" = none
  abs : mg "abs" = none
  int : mg "int" = none
  repr : mg "repr" = none
  zip : mg "zip" = none
  bool : mg "bool" = none
  str : mg "str" = none
  dict : mg "dict" = none
  ve : mg "ValueError" = none
  sorted : mg "sorted" = none
  tuple : mg "tuple" = none
  sum : mg "sum" = none
/-- a def of the top's i-th statement at f -/
abbrev FnD (K : PySem.W.Frag) (x : Str) (i : Nat) (f : Addr) (fd : FuncData) : Prop := FunD K x x (defArgs (top i)) (defBody (top i)) (defScope (top i)) [] [] f fd
theorem pt_no {X : Cx} {e : Expr} : PT X e (fun _ _ _ => False) := ⟨fun _ _ _ _ _ _ h => h.elim⟩
theorem pe_no {X : Cx} {e : Expr} : PE X e (fun _ _ _ => False) := ⟨fun _ _ _ _ _ _ h => h.elim⟩
theorem small1000 {n : Nat} (h : n ≤ 1000) : n < sizeLine := Nat.lt_of_le_of_lt h (by decide)
theorem smallM {n : Nat} (h : n ≤ 1000000) : n < sizeLine := Nat.lt_of_le_of_lt h (by decide)
theorem ite_t {c : Bool} {A B : Prop} (hc : c = true) (h : A) : if c = true then A else B := by rw [hc]; exact iteT h
theorem ite_f {c : Bool} {A B : Prop} (hc : c = false) (h : B) : if c = true then A else B := by rw [hc]; exact iteF h
/-! ### small data -/
mutual
def Sm : PyData → Prop
  | .none => True
  | .bool _ => True
  | .int _ => True
  | .str s => s.length ≤ 1000 ∧ PyData.strOk s = true
  | .tuple xs => xs.length ≤ 1000 ∧ SmL xs
  | .list xs => xs.length ≤ 1000 ∧ SmL xs
  | .dict ds => ds.length ≤ 60 ∧ (ds.map fun p => kS p.1).Nodup ∧ SmK ds
def SmL : List PyData → Prop
  | [] => True
  | x :: r => Sm x ∧ SmL r
def SmK : List (PyData × PyData) → Prop
  | [] => True
  | (k, v) :: r => Sm k ∧ Sm v ∧ SmK r
end
theorem smL_iff : ∀ {xs : List PyData}, SmL xs ↔ ∀ x ∈ xs, Sm x
  | [] => by simp [SmL]
  | x :: r => by simp [SmL, smL_iff (xs := r)]
theorem smK_iff : ∀ {xs : List (PyData × PyData)}, SmK xs ↔ ∀ p ∈ xs, Sm p.1 ∧ Sm p.2
  | [] => by simp [SmK]
  | (k, v) :: r => by
    simp only [SmK, smK_iff (xs := r), List.mem_cons]
    constructor
    · rintro ⟨h1, h2, h3⟩ p (rfl | hp)
      · exact ⟨h1, h2⟩
      · exact h3 p hp
    · intro h
      exact ⟨(h _ (.inl rfl)).1, (h _ (.inl rfl)).2, fun p hp => h p (.inr hp)⟩
theorem sm_kids {d : PyData} (h : Sm d) : ∀ x ∈ kids d, Sm x := by
  cases d with
  | list xs => exact smL_iff.mp h.2
  | dict ds =>
    intro x hx
    obtain ⟨p, hp, rfl⟩ := List.mem_map.mp hx
    exact (smK_iff.mp h.2.2 p hp).2
  | _ => intro x hx; cases hx
/-! ### which class -/
def isB : PyData → Bool | .bool _ => true | _ => false
def isI : PyData → Bool | .bool _ => true | .int _ => true | _ => false
def isS : PyData → Bool | .str _ => true | _ => false
def isL : PyData → Bool | .list _ => true | _ => false
def isK : PyData → Bool | .dict _ => true | _ => false
theorem kt_b (d : PyData) : kitB (tyD d) "bool" = some (isB d) := by cases d <;> (dsimp only [tyD, isB, isI, isS, isL, isK]; decide +kernel)
theorem kt_i (d : PyData) : kitB (tyD d) "int" = some (isI d) := by cases d <;> (dsimp only [tyD, isB, isI, isS, isL, isK]; decide +kernel)
theorem kt_s (d : PyData) : kitB (tyD d) "str" = some (isS d) := by cases d <;> (dsimp only [tyD, isB, isI, isS, isL, isK]; decide +kernel)
theorem kt_l (d : PyData) : kitB (tyD d) "list" = some (isL d) := by cases d <;> (dsimp only [tyD, isB, isI, isS, isL, isK]; decide +kernel)
theorem kt_k (d : PyData) : kitB (tyD d) "dict" = some (isK d) := by cases d <;> (dsimp only [tyD, isB, isI, isS, isL, isK]; decide +kernel)
section
variable {P : Program} {w : World} {K : PySem.W.Frag} {mg : Str → Option Value} {base : Heap} {f g g2 : Addr} {fd gd gd2 : FuncData}
/-! ### is_name -/
def spName (P : Program) (w : World) : Sp := fun vs H Q _ => ∃ (x : V) (d : PyData), vs = [x] ∧ Da P w H x d ∧ Sm d ∧ ∀ H', Same H H' → Q (.bl (keyB d)) H'
theorem scName : FnScope ["value", "letter"] ["value"] (defScope (top 7)) := ⟨rfl, rfl, rfl, by decide +kernel, rfl, by decide +kernel, by decide +kernel⟩
theorem ok_name {t1 t2 : Tok} (F : FnD K "is_name" 7 f fd) (B : Bl mg) (gL : mg "LETTERS" = some (.str LET t1)) (gN : mg "LONGEST_NAME" = some (.int 8 t2)) : FnOk P w K mg base CX0 1 f fd ["value"] (spName P w) := by
  refine F.ok scName (fun vs H Q E h => ?_) (fun cdv A outer s H vs Q E hr h => ?_)
  · obtain ⟨x, d, rfl, _⟩ := h
    rfl
  obtain ⟨x, d, rfl, hd, hs, q⟩ := h
  refine ⟨_, PSs.nox (pss_cons (ps_if (PW.pt (pw_or (pt_not (pt_val (pe_callB call_isDa (by rfl) B.isi (by decide +kernel) (pa_cons (pv 0) (pa_cons (pe_bltn (v := .ty "str") (by rfl) B.str (by decide +kernel) rfl) pa_nil)))))
      (pw_or1 (pt_not (pt_chain op_le op_le pe_int (pe_callB call_len_str (by rfl) B.len PySem.boot_len (pa_cons (pv 0) pa_nil)) (pe_glob (v := .int 8) rfl gN ⟨_, rfl⟩))))))
      (pss_one (ps_ret pe_bl)) pss_nil)
    (pss_one (ps_ret (pe_callB (cr_all rfl) (by rfl) B.all (by decide +kernel) (pa_cons
      (pe_lc (own := [("letter", 1)]) (g := gName 1) (tt := tYes) rfl scName.nd (pi_str (pv 0)) (blkOk_by (N := ["value", "letter"]) (sc := defScope (top 7)) (by decide +kernel))
        (fun _ _ _ _ _ => pg_name (i := 1) scName.nd rfl (Or.inl rfl)) (fun _ _ _ _ _ => pts_nil)
        (fun _ _ _ _ _ => pe_cmpR op_in_sign (pv 1) (pe_glob (v := .str LET) rfl gL ⟨_, rfl⟩) (by rfl))) pa_nil))))), ?_⟩
  refine ⟨_, rfl, x, "str", d, _, rfl, hd, kt_s d, _, rfl, ?_⟩
  cases hd with
  | str y =>
    have hy : y.length ≤ 1000 := hs.1
    refine iteF ⟨_, rfl, y, rfl, Nat.le_of_lt (small1000 hy), _, _, rfl, rfl, _, rfl, ?_⟩
    refine ite2 (fun c1 => ⟨_, _, rfl, rfl, _, rfl, ite2 (fun c => ?_) (fun c => ?_)⟩) (fun c1 => ⟨_, rfl, ?_⟩)
    · -- the second bound fails
      have c' : decide ((y.length : Int) ≤ 8) = false := by simpa using c
      have e : keyB (.str y) = false := by
        show nameB y = _
        unfold nameB
        have : decide (y.length ≤ 8) = false := by
          have := of_decide_eq_false c'
          exact decide_eq_false (by omega)
        rw [this]
        simp
      rw [← e]
      exact q H (same_refl H)
    · have c' : decide ((y.length : Int) ≤ 8) = true := by simpa using c
      have b8 : y.length ≤ 8 := by have := of_decide_eq_true c'; omega
      have b1 : 1 ≤ y.length := by have := of_decide_eq_true c1; omega
      refine ⟨_, rfl, y, rfl, fun D hD => ?_⟩
      have hlen : y.cps.size = y.length := rfl
      refine lc_it (walk_str (z := y)) (fun i H2 => Same H H2 ∧ H2 D = some (.lst (((y.cps.toList.take i).map fun c => decide (c ∈ LET.cps.toList)).map V.bl))) ⟨same_new hD _, upd_same⟩ (fun _ _ _ _ => trivial) ?_ ?_
      · rintro i v H2 H2' hi ⟨k2, hD2⟩ ⟨rfl, c, hc, rfl⟩
        refine ⟨rfl, ?_⟩
        simp only [tYes, if_true]
        have hc' : y.cps.toList[i]? = some c := by rw [Array.getElem?_toList]; exact hc
        refine ⟨_, rfl, c, LET, rfl, rfl, _, hD2, ?_, fun b o e => ?_, ?_⟩
        · rw [List.length_map, List.length_map, List.length_take]
          exact small1000 (by omega)
        · have nb : b ≠ D := ne_of_none e hD
          rw [upd_ne nb]
          exact k2 _ _ e
        · rw [upd_same, List.take_add_one, hc']
          simp
      · rintro H2 ⟨k2, hD2⟩
        refine ⟨D, _, rfl, SqL.of hD2, ?_⟩
        have e : keyB (.str y) = (((y.cps.toList.take y.cps.size).map fun c => decide (c ∈ LET.cps.toList)).all id) := by
          show nameB y = _
          unfold nameB
          rw [decide_eq_true b1, decide_eq_true b8]
          simp only [Bool.true_and]
          rw [List.take_of_length_le (by simp), List.all_map]
          congr 1
          funext c
          simp [List.contains_eq_mem]
        rw [← e]
        exact q H2 k2
    · have e : keyB (.str y) = false := by
        show nameB y = _
        unfold nameB
        have : decide (1 ≤ y.length) = false := by
          have c1' : decide (1 ≤ (y.length : Int)) = false := by simpa using c1
          have := of_decide_eq_false c1'
          exact decide_eq_false (by omega)
        rw [this]
        simp
      refine iteT ?_
      rw [← e]
      exact q H (same_refl H)
  | non => exact iteT (q H (same_refl H))
  | bl b => exact iteT (q H (same_refl H))
  | int i => exact iteT (q H (same_refl H))
  | lst h r => exact iteT (q H (same_refl H))
  | tup h r => exact iteT (q H (same_refl H))
  | dic h r => exact iteT (q H (same_refl H))
end
end K00
set_option Elab.async false
set_option linter.all false
set_option maxRecDepth 100000
set_option maxHeartbeats 4000000
namespace K00
open PySem PySem.Spec L2
open PyProof.Rows (envOfC)
def sortV : PyData → V
  | .none => .str "none"
  | .bool _ => .str "bool"
  | .int _ => .str "int"
  | .str _ => .str "text"
  | .list _ => .str "list"
  | .tuple _ => .non
  | .dict ds => if (ds.map fun p => keyB p.1).all id = true then .str "record" else .non
section
variable {P : Program} {w : World} {K : PySem.W.Frag} {mg : Str → Option Value} {base : Heap} {f g g2 : Addr} {fd gd gd2 : FuncData}
/-! ### sort_of -/
def spSort (P : Program) (w : World) : Sp := fun vs H Q _ => ∃ (x : V) (d : PyData), vs = [x] ∧ Da P w H x d ∧ Sm d ∧ ∀ H', Same H H' → Q (sortV d) H'
theorem scSort : FnScope ["value", "key"] ["value"] (defScope (top 8)) := ⟨rfl, rfl, rfl, by decide +kernel, rfl, by decide +kernel, by decide +kernel⟩
theorem ok_sort (F : FnD K "sort_of" 8 f fd) (B : Bl mg) (G : FnOk P w K mg base CX0 1 g gd ["value"] (spName P w)) (bG : Binds K gd ["value"] []) (kG : PySem.W.keepIn K (.ref g) = true) (gG : mg "is_name" = some (.ref g)) :
    FnOk P w K mg base CX0 2 f fd ["value"] (spSort P w) := by
  refine F.ok scSort (fun vs H Q E h => ?_) (fun cdv A outer s H vs Q E hr h => ?_)
  · obtain ⟨x, d, rfl, _⟩ := h
    rfl
  obtain ⟨x, d, rfl, hd, hs, q⟩ := h
  refine ⟨_, PSs.nox (pss_cons (ps_if (pt_cmpR op_isN (pv 0) pe_non (nomark _)) (pss_one (ps_ret pe_str)) pss_nil)
    (pss_cons (ps_if (pt_val (pe_callB call_isDa (by rfl) B.isi (by decide +kernel) (pa_cons (pv 0) (pa_cons (pe_bltn (v := .ty "bool") (by rfl) B.bool (by decide +kernel) rfl) pa_nil)))) (pss_one (ps_ret pe_str)) pss_nil)
    (pss_cons (ps_if (pt_val (pe_callB call_isDa (by rfl) B.isi (by decide +kernel) (pa_cons (pv 0) (pa_cons (pe_bltn (v := .ty "int") (by rfl) B.int (by decide +kernel) rfl) pa_nil)))) (pss_one (ps_ret pe_str)) pss_nil)
    (pss_cons (ps_if (pt_val (pe_callB call_isDa (by rfl) B.isi (by decide +kernel) (pa_cons (pv 0) (pa_cons (pe_bltn (v := .ty "str") (by rfl) B.str (by decide +kernel) rfl) pa_nil)))) (pss_one (ps_ret pe_str)) pss_nil)
    (pss_cons (ps_if (pt_val (pe_callB call_isDa (by rfl) B.isi (by decide +kernel) (pa_cons (pv 0) (pa_cons (pe_bltn (v := .ty "list") (by rfl) B.list (by decide +kernel) rfl) pa_nil)))) (pss_one (ps_ret pe_str)) pss_nil)
    (pss_cons (ps_if (PW.pt (pw_and (pt_val (pe_callB call_isDa (by rfl) B.isi (by decide +kernel) (pa_cons (pv 0) (pa_cons (pe_bltn (v := .ty "dict") (by rfl) B.dict (by decide +kernel) rfl) pa_nil)))) (pw_and1 (pt_val
        (pe_callB (cr_all rfl) (by rfl) B.all (by decide +kernel) (pa_cons
          (pe_lc (own := [("key", 1)]) (g := gName 1) (tt := tYes) rfl scSort.nd (pi_keysD (pv 0)) (blkOk_by (N := ["value", "key"]) (sc := defScope (top 8)) (by decide +kernel))
            (fun _ _ _ _ _ => pg_name (i := 1) scSort.nd rfl (Or.inl rfl)) (fun _ _ _ _ _ => pts_nil)
            (fun _ _ _ _ _ => pe_call G hr rfl gG kG bG .nil pass0 (pa_cons (pv 1) pa_nil))) pa_nil)))))) (pss_one (ps_ret pe_str)) pss_nil)
    (pss_one (ps_ret pe_non)))))))), ?_⟩
  refine ⟨_, rfl, rfl, _, rfl, ?_⟩
  cases hd with
  | non => exact iteT (q H (same_refl H))
  | bl b => exact iteF ⟨_, rfl, _, "bool", _, _, rfl, .bl b, kt_b _, _, rfl, iteT (q H (same_refl H))⟩
  | int i => exact iteF ⟨_, rfl, _, "bool", _, _, rfl, .int i, kt_b _, _, rfl, iteF ⟨_, rfl, _, "int", _, _, rfl, .int i, kt_i _, _, rfl, iteT (q H (same_refl H))⟩⟩
  | str y => exact iteF ⟨_, rfl, _, "bool", _, _, rfl, .str y, kt_b _, _, rfl, iteF ⟨_, rfl, _, "int", _, _, rfl, .str y, kt_i _, _, rfl, iteF ⟨_, rfl, _, "str", _, _, rfl, .str y, kt_s _, _, rfl, iteT (q H (same_refl H))⟩⟩⟩
  | lst h r =>
    exact iteF ⟨_, rfl, _, "bool", _, _, rfl, .lst h r, kt_b _, _, rfl, iteF ⟨_, rfl, _, "int", _, _, rfl, .lst h r, kt_i _, _, rfl, iteF ⟨_, rfl, _, "str", _, _, rfl, .lst h r, kt_s _, _, rfl,
      iteF ⟨_, rfl, _, "list", _, _, rfl, .lst h r, kt_l _, _, rfl, iteT (q H (same_refl H))⟩⟩⟩⟩
  | tup h r =>
    exact iteF ⟨_, rfl, _, "bool", _, _, rfl, .tup h r, kt_b _, _, rfl, iteF ⟨_, rfl, _, "int", _, _, rfl, .tup h r, kt_i _, _, rfl, iteF ⟨_, rfl, _, "str", _, _, rfl, .tup h r, kt_s _, _, rfl,
      iteF ⟨_, rfl, _, "list", _, _, rfl, .tup h r, kt_l _, _, rfl, iteF ⟨_, rfl, _, "dict", _, _, rfl, .tup h r, kt_k _, _, rfl, iteF (iteF (q H (same_refl H)))⟩⟩⟩⟩⟩
  | @dic a o es ds h r =>
    refine iteF ⟨_, rfl, _, "bool", _, _, rfl, .dic h r, kt_b _, _, rfl, iteF ⟨_, rfl, _, "int", _, _, rfl, .dic h r, kt_i _, _, rfl, iteF ⟨_, rfl, _, "str", _, _, rfl, .dic h r, kt_s _, _, rfl,
      iteF ⟨_, rfl, _, "list", _, _, rfl, .dic h r, kt_l _, _, rfl, iteF ⟨_, rfl, _, "dict", _, _, rfl, .dic h r, kt_k _, _, rfl, iteT ?_⟩⟩⟩⟩⟩
    refine ⟨_, rfl, a, o, es, rfl, h, fun D hD => ?_⟩
    have hsm := hs
    obtain ⟨hs1, hs2, hs3⟩ := hsm
    refine lc_it walk_keysD (fun i H2 => Same H H2 ∧ H2 D = some (.lst (((ds.take i).map fun p => keyB p.1).map V.bl))) ⟨same_new hD _, upd_same⟩ (fun _ H2 _ z => h.kp (.same z.1)) ?_ ?_
    · rintro i v H2 H2' hi ⟨k2, hD2⟩ ⟨rfl, hv⟩
      refine ⟨rfl, ?_⟩
      simp only [tYes, if_true]
      rw [List.getElem?_map] at hv
      cases he : es[i]? with
      | none => rw [he] at hv; cases hv
      | some p =>
        rw [he] at hv
        cases hv
        obtain ⟨dd, hdd, hk1, _⟩ := r.get he
        have hm := List.mem_of_getElem? hdd
        refine ⟨_, rfl, p.1, dd.1, rfl, hk1.kp (.same k2), (smK_iff.mp hs3 dd hm).1, fun H3 k3 => ⟨_, k3 _ _ hD2, ?_, fun b o e => ?_, ?_⟩⟩
        · rw [List.length_map, List.length_map, List.length_take]
          exact small1000 (by omega)
        · have nb : b ≠ D := ne_of_none e hD
          rw [upd_ne nb]
          exact k3 _ _ (k2 _ _ e)
        · rw [upd_same, List.take_add_one, hdd]
          simp
    · rintro H2 ⟨k2, hD2⟩
      have hl := r.length
      rw [hl, List.take_length] at hD2
      refine ⟨D, _, rfl, SqL.of hD2, _, rfl, ?_⟩
      have e : sortV (.dict ds) = if (ds.map fun p => keyB p.1).all id = true then .str "record" else .non := rfl
      refine ite2 (fun c => ?_) (fun c => ?_)
      · rw [if_pos c] at e
        rw [← e]
        exact q H2 k2
      · rw [if_neg c] at e
        rw [← e]
        exact q H2 k2
/-! ### inner_parts -/
def spInner (P : Program) (w : World) : Sp := fun vs H Q _ => ∃ (x : V) (d : PyData), vs = [x] ∧ Da P w H x d ∧ Sm d ∧ ∀ l ys, H l = none → DaL P w H ys (kids d) → Q (.ref l) (upd H l (.lst ys))
theorem scInner : FnScope ["value"] ["value"] (defScope (top 9)) := ⟨rfl, rfl, rfl, by decide +kernel, rfl, by decide +kernel, by decide +kernel⟩
theorem ok_inner (F : FnD K "inner_parts" 9 f fd) (B : Bl mg) : FnOk P w K mg base CX0 1 f fd ["value"] (spInner P w) := by
  refine F.ok scInner (fun vs H Q E h => ?_) (fun cdv A outer s H vs Q E hr h => ?_)
  · obtain ⟨x, d, rfl, _⟩ := h
    rfl
  obtain ⟨x, d, rfl, hd, hs, q⟩ := h
  refine ⟨_, PSs.nox (pss_cons (ps_if (pt_val (pe_callB call_isDa (by rfl) B.isi (by decide +kernel) (pa_cons (pv 0) (pa_cons (pe_bltn (v := .ty "list") (by rfl) B.list (by decide +kernel) rfl) pa_nil)))) (pss_one (ps_ret
        (pe_callTy call_list_of (by rfl) B.list (by decide +kernel) (pa_cons (pv 0) pa_nil)))) pss_nil)
    (pss_cons (ps_if (pt_val (pe_callB call_isDa (by rfl) B.isi (by decide +kernel) (pa_cons (pv 0) (pa_cons (pe_bltn (v := .ty "dict") (by rfl) B.dict (by decide +kernel) rfl) pa_nil)))) (pss_one (ps_ret
        (pe_listVals rfl (pv 0) rfl B.list (by decide +kernel)))) pss_nil)
    (pss_one (ps_ret (pe_lst pa_nil))))), ?_⟩
  cases hd with
  | non => exact ⟨_, rfl, _, "list", _, _, rfl, .non, kt_l _, _, rfl, iteF ⟨_, rfl, _, "dict", _, _, rfl, .non, kt_k _, _, rfl, iteF ⟨(by show 0 ≤ sizeLine; decide), fun l hl => q l [] hl .nil⟩⟩⟩
  | bl b => exact ⟨_, rfl, _, "list", _, _, rfl, .bl b, kt_l _, _, rfl, iteF ⟨_, rfl, _, "dict", _, _, rfl, .bl b, kt_k _, _, rfl, iteF ⟨(by show 0 ≤ sizeLine; decide), fun l hl => q l [] hl .nil⟩⟩⟩
  | int i => exact ⟨_, rfl, _, "list", _, _, rfl, .int i, kt_l _, _, rfl, iteF ⟨_, rfl, _, "dict", _, _, rfl, .int i, kt_k _, _, rfl, iteF ⟨(by show 0 ≤ sizeLine; decide), fun l hl => q l [] hl .nil⟩⟩⟩
  | str y => exact ⟨_, rfl, _, "list", _, _, rfl, .str y, kt_l _, _, rfl, iteF ⟨_, rfl, _, "dict", _, _, rfl, .str y, kt_k _, _, rfl, iteF ⟨(by show 0 ≤ sizeLine; decide), fun l hl => q l [] hl .nil⟩⟩⟩
  | tup h r => exact ⟨_, rfl, _, "list", _, _, rfl, .tup h r, kt_l _, _, rfl, iteF ⟨_, rfl, _, "dict", _, _, rfl, .tup h r, kt_k _, _, rfl, iteF ⟨(by show 0 ≤ sizeLine; decide), fun l hl => q l [] hl .nil⟩⟩⟩
  | @lst a o xs ds h r =>
    exact ⟨_, rfl, _, "list", _, _, rfl, .lst h r, kt_l _, _, rfl, iteT ⟨_, rfl, a, xs, rfl, .inl (.inl (.inr ⟨o, h⟩)), fun l hl => q l xs hl r⟩⟩
  | @dic a o es ds h r =>
    exact ⟨_, rfl, _, "list", _, _, rfl, .dic h r, kt_l _, _, rfl, iteF ⟨_, rfl, _, "dict", _, _, rfl, .dic h r, kt_k _, _, rfl, iteT ⟨_, rfl, a, o, es, rfl, h, fun l hl => q l _ hl r.values⟩⟩⟩
/-! ### parts_of -/
def spParts (P : Program) (w : World) : Sp := fun vs H Q _ => ∃ (x : V) (d : PyData), vs = [x] ∧ Da P w H x d ∧ Sm d ∧ cnt d ≤ 1000000 ∧
  ∀ l H' ys ps, Same H H' → H' l = some (.lst ys) → DaL P w H' ys ps → (∀ p ∈ ps, Sm p) → ps.length = cnt d → ps.all sortB = isOne d → Q (.ref l) H'
theorem scParts : FnScope ["value", "parts", "at"] ["value"] (defScope (top 10)) := ⟨rfl, rfl, rfl, by decide +kernel, rfl, by decide +kernel, by decide +kernel⟩
theorem ok_parts (F : FnD K "parts_of" 10 f fd) (B : Bl mg) (G : FnOk P w K mg base CX0 1 g gd ["value"] (spInner P w)) (bG : Binds K gd ["value"] []) (kG : PySem.W.keepIn K (.ref g) = true) (gG : mg "inner_parts" = some (.ref g)) :
    FnOk P w K mg base CX0 2 f fd ["value"] (spParts P w) := by
  refine F.ok scParts (fun vs H Q E h => ?_) (fun cdv A outer s H vs Q E hr h => ?_)
  · obtain ⟨x, d, rfl, _⟩ := h
    rfl
  obtain ⟨x, d, rfl, hd, hs, hc, q⟩ := h
  refine ⟨_, PSs.nox (pss_cons (ps_set (i := 1) scParts.nd rfl (Or.inl rfl) (pe_lst (pa_cons (pv 0) pa_nil)))
    (pss_cons (ps_set (i := 2) scParts.nd rfl (Or.inl rfl) pe_int)
    (pss_cons (ps_while PassesOwn.never (pt_cmpR op_lt (pv 2) (pe_callB call_len_seq (by rfl) B.len PySem.boot_len (pa_cons (pv 1) pa_nil)) (nomark _))
      (pss_cons (ps_expr (pe_bm PySem.F.plainAttrs_list PySem.F.slot_list_extend PySem.F.type_list_extend mt_extend (pv 1)
        (pa_cons (pe_call G hr rfl gG kG bG .nil pass0 (pa_cons (pe_ix ix_list (pv 1) (pv 2) (fun _ _ => rfl)) pa_nil)) pa_nil)))
      (pss_one (ps_aug (i := 2) scParts.nd rfl (Or.inl rfl) pe_int ip_add))))
    (pss_one (ps_ret (pv 1)))))), ?_⟩
  refine ⟨_, rfl, (by show 1 ≤ sizeLine; decide), fun l hl => ?_⟩
  refine ⟨fun m σ H' => ∃ (n : Nat) (ys : List V) (ps : List PyData), m + n = cnt d ∧ σ = [some x, some (.ref l), some (.int n)] ∧ H' l = some (.lst ys) ∧ Same H H' ∧ DaL P w H' ys ps ∧ (∀ p ∈ ps, Sm p) ∧ Wide d n ps,
    ⟨cnt d, 0, [x], [d], rfl, rfl, upd_same, same_new hl _, .cons (hd.kp (.new hl _)) .nil, fun p hp => by rw [List.mem_singleton.mp hp]; exact hs, .start d⟩, ?_⟩
  rintro m σ H' ⟨n, ys, ps, hmn, rfl, hH, k, hD, hS, W⟩
  have hlen := hD.length
  refine ⟨_, rfl, _, rfl, l, _, rfl, .inl (SqL.of hH), _, _, rfl, rfl, _, rfl, ?_⟩
  refine ite2 (fun c => ?_) (fun c => ?_)
  · have c' : (n : Int) < (ys.length : Int) := of_decide_eq_true c
    have hn : n < ys.length := by omega
    have hnp : n < ps.length := by omega
    have hlt := W.lt hnp
    obtain ⟨y, hy⟩ : ∃ y, ys[n]? = some y := ⟨ys[n], List.getElem?_eq_getElem hn⟩
    obtain ⟨p, hp, hyp⟩ := hD.get hy
    have W2 := W.step hp
    have hl2 := W2.len
    refine ⟨fun σ' H'' => ∃ (ys' : List V) (ps' : List PyData), σ' = [some x, some (.ref l), some (.int ((n + 1 : Nat) : Int))] ∧ H'' l = some (.lst ys') ∧ Same H H'' ∧ DaL P w H'' ys' ps' ∧ (∀ p ∈ ps', Sm p) ∧ Wide d (n + 1) ps',
      fun σ' H'' ⟨ys', ps', z⟩ => ⟨m - 1, by omega, n + 1, ys', ps', by omega, z⟩, ?_⟩
    refine ⟨_, rfl, .inl ⟨rfl, _, SqL.of hH⟩, _, rfl, _, rfl, l, _, _, _, rfl, rfl, SqL.of hH, atI_nat hy, ?_⟩
    refine ⟨y, p, rfl, hyp, hS p (List.mem_of_getElem? hp), fun b zs hb hz => ?_⟩
    have nlb : l ≠ b := ne_of_none hH hb
    have hzl := hz.length
    rw [List.length_append] at hl2
    refine ⟨l, b, ys, zs, rfl, rfl, ?_, upd_same, Nat.le_of_lt (smallM (by omega)), ?_⟩
    · rw [upd_ne nlb]
      exact hH
    · have k2 : Kp H' (upd (upd H' b (.lst zs)) l (.lst (ys ++ zs))) := (Kp.new hb _).trans (.lst (by rw [upd_ne nlb]; exact hH) _)
      refine ⟨_, rfl, _, _, rfl, rfl, ys ++ zs, ps ++ kids p, rfl, upd_same, fun c o e => ?_, (hD.kp k2).append (hz.kp k2), fun p' hp' => ?_, W2⟩
      · by_cases ec : c = l
        · rw [ec, hl] at e
          cases e
        · rw [upd_ne ec]
          exact (k.trans (same_new hb _)) c o e
      · rcases List.mem_append.mp hp' with h1 | h1
        · exact hS p' h1
        · exact sm_kids (hS p (List.mem_of_getElem? hp)) p' h1
  · have c' : ¬ (n : Int) < (ys.length : Int) := fun z => c (decide_eq_true z)
    obtain ⟨e1, e2⟩ := W.done (by omega)
    exact ⟨_, rfl, q l H' ys ps k hH hD hS e1 e2⟩
end
end K00
set_option Elab.async false
set_option linter.all false
set_option maxRecDepth 100000
set_option maxHeartbeats 4000000
namespace K00
open PySem PySem.Spec L2
open PyProof.Rows (envOfC)
theorem sortV_non (d : PyData) : (!decide (sortV d = V.non)) = sortB d := by
  cases d with
  | dict ds =>
    have e : sortB (.dict ds) = (ds.map fun p => keyB p.1).all id := by simp [sortB, List.all_map, Function.comp_def]
    rw [e]
    show (!decide ((if (ds.map fun p => keyB p.1).all id = true then V.str "record" else V.non) = V.non)) = _
    by_cases c : (ds.map fun p => keyB p.1).all id = true
    · rw [if_pos c, c]
      simp
    · rw [if_neg c, (Bool.eq_false_iff.mpr c)]
      simp
  | none => simp [sortV, sortB]
  | bool b => simp [sortV, sortB]
  | int i => simp [sortV, sortB]
  | str y => simp [sortV, sortB]
  | list xs => simp [sortV, sortB]
  | tuple xs => simp [sortV, sortB]
theorem keyB_str {k : PyData} (h : keyB k = true) : k = .str (kS k) := by
  cases k with
  | str s => rfl
  | _ => exact nomatch h
theorem isOne_kidsOf {d : PyData} (h : isOne d = true) : ∀ x ∈ kids d, isOne x = true := by
  rw [isOne_kids] at h
  obtain ⟨_, h2⟩ := Bool.and_eq_true_iff.mp h
  exact List.all_eq_true.mp h2
theorem isOne_keys {ds : List (PyData × PyData)} (h : isOne (.dict ds) = true) : ∀ p ∈ ds, keyB p.1 = true := by
  rw [isOne_kids] at h
  obtain ⟨h1, _⟩ := Bool.and_eq_true_iff.mp h
  exact List.all_eq_true.mp h1
section
variable {P : Program} {w : World} {H : Hp}
theorem keys_str : ∀ {kvs : List (Key × V)} {ds : List (PyData × PyData)}, DaE P w H (kvs.map fun p => (kV p.1, p.2)) ds → (∀ p ∈ ds, keyB p.1 = true) → kvs.map (·.1) = (ds.map fun p => kS p.1).map Sum.inr
  | [], _, .nil, _ => rfl
  | (k, v) :: r, _, h, hk => by
    cases h with
    | @cons x y es d e ds k1 h1 r1 =>
      have ih := keys_str r1 fun p hp => hk p (List.mem_cons_of_mem _ hp)
      have z := keyB_str (hk (d, e) List.mem_cons_self)
      have z' : d = .str (kS d) := z
      rw [List.map_cons, List.map_cons, List.map_cons, ih]
      congr 1
      show k = Sum.inr (kS d)
      cases k with
      | inl i =>
        cases k1
        cases z'
      | inr s =>
        cases k1
        rfl
/-- a locked dict of a document: texts are its keys -/
theorem doc_dict {a : Addr} {o : Obj} {es : List (V × V)} {ds : List (PyData × PyData)} (h : Dd P w H a o es) (r : DaE P w H es ds) (hk : ∀ p ∈ ds, keyB p.1 = true) :
    ∃ kvs : List (Key × V), H a = some (.frz o (.dK kvs)) ∧ es = kvs.map (fun p => (kV p.1, p.2)) ∧ kvs.map (·.1) = (ds.map fun p => kS p.1).map Sum.inr := by
  rcases h with ⟨kvs, h1, rfl⟩ | ⟨h1, rfl⟩
  · exact ⟨kvs, h1, rfl, keys_str r hk⟩
  · cases r with
    | cons k1 h2 r2 =>
      cases k1
      have := hk _ List.mem_cons_self
      exact nomatch this
theorem look_val : ∀ {kvs : List (Key × V)} {ds : List (PyData × PyData)} {k : Str}, DaE P w H (kvs.map fun p => (kV p.1, p.2)) ds → kvs.map (·.1) = (ds.map fun p => kS p.1).map Sum.inr → k ∈ (ds.map fun p => kS p.1) →
    ∃ v, valV kvs (Sum.inr k) = some v ∧ Da P w H v (lookD ds k)
  | [], _, _, .nil, _, hk => nomatch hk
  | (c, v) :: r, _, k, h, e, hk => by
    cases h with
    | @cons x y es d f ds k1 h1 r1 =>
      rw [List.map_cons, List.map_cons, List.map_cons] at e
      injection e with e1 e2
      have e1' : c = Sum.inr (kS d) := e1
      by_cases hz : kS d = k
      · refine ⟨v, valV_pos (by rw [e1', hz]), ?_⟩
        have : lookD ((d, f) :: ds) k = f := by simp [lookD, hz]
        rw [this]
        exact h1
      · rw [List.map_cons] at hk
        rcases List.mem_cons.mp hk with hk | hk
        · exact absurd hk.symm hz
        · obtain ⟨u, hu, hd⟩ := look_val r1 e2 hk
          refine ⟨u, ?_, ?_⟩
          · rw [valV_neg (by rw [e1']; exact fun z => hz (Sum.inr.inj z))]
            exact hu
          · have : lookD ((d, f) :: ds) k = lookD ds k := by simp [lookD, hz]
            rw [this]
            exact hd
end
section
variable {P : Program} {w : World} {K : PySem.W.Frag} {mg : Str → Option Value} {base : Heap} {f g g2 : Addr} {fd gd gd2 : FuncData}
/-! ### is_document -/
def spIsDoc (P : Program) (w : World) : Sp := fun vs H Q _ => ∃ (x : V) (d : PyData), vs = [x] ∧ Da P w H x d ∧ Sm d ∧ cnt d ≤ 1000000 ∧ ∀ H', Same H H' → Q (.bl (isOne d)) H'
theorem scIsDoc : FnScope ["value", "part"] ["value"] (defScope (top 11)) := ⟨rfl, rfl, rfl, by decide +kernel, rfl, by decide +kernel, by decide +kernel⟩
theorem ok_isdoc (F : FnD K "is_document" 11 f fd) (B : Bl mg) (GP : FnOk P w K mg base CX0 2 g gd ["value"] (spParts P w)) (bP : Binds K gd ["value"] []) (kP : PySem.W.keepIn K (.ref g) = true) (gP : mg "parts_of" = some (.ref g))
    (GS : FnOk P w K mg base CX0 2 g2 gd2 ["value"] (spSort P w)) (bS : Binds K gd2 ["value"] []) (kS : PySem.W.keepIn K (.ref g2) = true) (gS : mg "sort_of" = some (.ref g2)) : FnOk P w K mg base CX0 3 f fd ["value"] (spIsDoc P w) := by
  refine F.ok scIsDoc (fun vs H Q E h => ?_) (fun cdv A outer s H vs Q E hr h => ?_)
  · obtain ⟨x, d, rfl, _⟩ := h
    rfl
  obtain ⟨x, d, rfl, hd, hs, hc, q⟩ := h
  refine ⟨_, PSs.nox (pss_one (ps_ret (pe_callB (cr_all rfl) (by rfl) B.all (by decide +kernel) (pa_cons
    (pe_lc (own := [("part", 1)]) (g := gName 1) (tt := tYes) rfl scIsDoc.nd (pi_list (pe_call GP hr rfl gP kP bP .nil pass0 (pa_cons (pv 0) pa_nil))) (blkOk_by (N := ["value", "part"]) (sc := defScope (top 11)) (by decide +kernel))
      (fun _ _ _ _ _ => pg_name (i := 1) scIsDoc.nd rfl (Or.inl rfl)) (fun _ _ _ _ _ => pts_nil)
      (fun _ _ _ _ _ => pe_cmpR op_notN (pe_call GS hr rfl gS kS bS .nil pass0 (pa_cons (pv 1) pa_nil)) pe_non (nomark _))) pa_nil)))), ?_⟩
  refine ⟨_, rfl, x, d, rfl, hd, hs, hc, fun l H' ys ps k hl hy hp e1 e2 => ?_⟩
  have hlen := hy.length
  refine ⟨l, rfl, ⟨_, SqL.of hl⟩, fun D hD => ?_⟩
  refine lc_it (walk_list (K := K) (a := l) (xs := ys)) (fun i H2 => Same H' H2 ∧ H2 D = some (.lst (((ps.take i).map sortB).map V.bl))) ⟨same_new hD _, upd_same⟩ (fun _ H2 _ z => SqL.of (z.1 _ _ hl)) ?_ ?_
  · rintro i v H2 H2' hi ⟨k2, hD2⟩ ⟨rfl, hv⟩
    obtain ⟨p, hpi, hvp⟩ := hy.get hv
    refine ⟨rfl, ?_⟩
    simp only [tYes, if_true]
    refine ⟨_, rfl, v, p, rfl, hvp.kp (.same k2), hp p (List.mem_of_getElem? hpi), fun H3 k3 => ⟨rfl, _, k3 _ _ hD2, ?_, fun b o e => ?_, ?_⟩⟩
    · rw [List.length_map, List.length_map, List.length_take]
      exact smallM (by omega)
    · have nb : b ≠ D := ne_of_none e hD
      rw [upd_ne nb]
      exact k3 _ _ (k2 _ _ e)
    · rw [upd_same, List.take_add_one, hpi, sortV_non]
      simp
  · rintro H2 ⟨k2, hD2⟩
    rw [hlen, List.take_length] at hD2
    refine ⟨D, _, rfl, SqL.of hD2, ?_⟩
    have e : (ps.map sortB).all id = isOne d := by rw [← e2, List.all_map]; rfl
    rw [e]
    exact q H2 (k.trans k2)
end
end K00
set_option Elab.async false
set_option linter.all false
set_option maxRecDepth 100000
set_option maxHeartbeats 8000000
namespace K00
open PySem PySem.Spec L2
theorem paired_append {α β : Type} {F : α → β → Prop} : ∀ {xs xs' : List α} {ys ys' : List β}, Paired F xs ys → Paired F xs' ys' → Paired F (xs ++ xs') (ys ++ ys')
  | _, _, _, _, .nil, h => h
  | _, _, _, _, .cons a t, h => .cons a (paired_append t h)
end K00
set_option Elab.async false
set_option linter.all false
set_option maxRecDepth 100000
set_option maxHeartbeats 4000000
/-! K00W: the pot: made, drawn from. -/
namespace K00
open PySem PySem.Spec L2
open PyProof.Rows (envOfC)
/-- a pot at p from which at most c numbers were stirred -/
def PotAt (H : Hp) (p : Addr) (c : Nat) : Prop := ∃ (a b k : Int), H p = some (.lst [.int a, .int b, .int k]) ∧ 0 ≤ b ∧ b < 2305843009213693921 ∧ 0 ≤ k ∧ k ≤ (c : Int)
theorem PotAt.same {H H' : Hp} {p : Addr} {c : Nat} (h : PotAt H p c) (k : Same H H') : PotAt H' p c := by
  obtain ⟨a, b, n, h1, h2⟩ := h
  exact ⟨a, b, n, k _ _ h1, h2⟩
theorem PotAt.mono {H : Hp} {p : Addr} {c d : Nat} (h : PotAt H p c) (k : c ≤ d) : PotAt H p d := by
  obtain ⟨a, b, n, h1, h2, h3, h4, h5⟩ := h
  exact ⟨a, b, n, h1, h2, h3, h4, by omega⟩
theorem PotAt.lst {H : Hp} {p : Addr} {c : Nat} (h : PotAt H p c) : ∃ xs, H p = some (.lst xs) := by
  obtain ⟨a, b, n, h1, _⟩ := h
  exact ⟨_, h1⟩
theorem prime_at (k : Int) : ∃ z : Int, atI ([.int 2147483647, .int 2147483629, .int 2147483587, .int 2147483579, .int 2147483563] : List V) (k % 5) = some (.int z) ∧ 2147483563 ≤ z ∧ z ≤ 2147483647 := by
  have h1 : 0 ≤ k % 5 := Int.emod_nonneg _ (by decide)
  have h2 : k % 5 < 5 := Int.emod_lt_of_pos _ (by decide)
  generalize k % 5 = r at h1 h2
  have h : r = 0 ∨ r = 1 ∨ r = 2 ∨ r = 3 ∨ r = 4 := by omega
  rcases h with rfl | rfl | rfl | rfl | rfl
  · exact ⟨_, rfl, by decide, by decide⟩
  · exact ⟨_, rfl, by decide, by decide⟩
  · exact ⟨_, rfl, by decide, by decide⟩
  · exact ⟨_, rfl, by decide, by decide⟩
  · exact ⟨_, rfl, by decide, by decide⟩
theorem stir_ok {b k : Int} (hb : 0 ≤ b) (hb2 : b < 2305843009213693921) (hk : 0 ≤ k) (hk2 : k ≤ 70000) : (b + 70001 * k * k + 67).natAbs < 2 ^ 64 := by
  have h1 : k * k ≤ 70000 * 70000 := Int.mul_le_mul hk2 hk2 hk (by omega)
  have h0 : 0 ≤ k * k := Int.mul_nonneg hk hk
  have e : 70001 * k * k = 70001 * (k * k) := Int.mul_assoc _ _ _
  rw [e]
  omega
section
variable {P : Program} {w : World} {K : PySem.W.Frag} {mg : Str → Option Value} {base : Heap} {f g g2 : Addr} {fd gd gd2 : FuncData}
/-! ### _law_take -/
def spTake : Sp := fun vs H Q _ => ∃ (p : Addr) (u : Int) (c : Nat), vs = [.ref p, .int u] ∧ 1 ≤ u ∧ u ≤ 1000000000 ∧ PotAt H p c ∧ c ≤ 60000 ∧
  ∀ (n : Int) (H' : Hp), 0 ≤ n → n < u → Ch p H H' → PotAt H' p (c + 1) → Q (.int n) H'
theorem scTake : FnScope ["_law_pot_here", "_law_upto", "_law_digit", "_law_prime", "_law_stirred"] ["_law_pot_here", "_law_upto"] (defScope (top 33)) := ⟨rfl, rfl, rfl, by decide +kernel, rfl, by decide +kernel, by decide +kernel⟩
theorem ok_take (F : FnD K "_law_take" 33 f fd) (B : Bl mg) : FnOk P w K mg base CX0 1 f fd ["_law_pot_here", "_law_upto"] spTake := by
  refine F.ok scTake (fun vs H Q E h => ?_) (fun cdv A outer s H vs Q E hr h => ?_)
  · obtain ⟨p, u, c, rfl, _⟩ := h
    rfl
  obtain ⟨p, u, c, rfl, u1, u2, ⟨a, b, k, hp, b1, b2, k1, k2⟩, hc, q⟩ := h
  refine ⟨_, PSs.nox (pss_cons (ps_if (pt_cmpR op_gt (pe_ix ix_list (pv 0) pe_int (fun _ _ => rfl)) pe_int (nomark _))
      (pss_cons (ps_set (i := 2) scTake.nd rfl (Or.inl rfl) (pe_op op_mod (pe_callTy call_int1 (by rfl) B.int (by decide +kernel) (pa_cons (pe_ix ix_list (pv 0) pe_int (fun _ _ => rfl)) pa_nil)) (pv 1)))
      (pss_cons (ps_asg (pe_op op_fdiv (pe_ix ix_list (pv 0) pe_int (fun _ _ => rfl)) (pv 1)) (pg_sub (pv 0) pe_int set_list))
      (pss_one (ps_ret (pv 2))))) pss_nil)
    (pss_cons (ps_asg (pe_op op_add (pe_ix ix_list (pv 0) pe_int (fun _ _ => rfl)) pe_int) (pg_sub (pv 0) pe_int set_list))
    (pss_cons (ps_set (i := 3) scTake.nd rfl (Or.inl rfl) (pe_ix ix_list (pe_lst (pa_cons pe_int (pa_cons pe_int (pa_cons pe_int (pa_cons pe_int (pa_cons pe_int pa_nil))))))
        (pe_op op_mod (pe_callTy call_int1 (by rfl) B.int (by decide +kernel) (pa_cons (pe_ix ix_list (pv 0) pe_int (fun _ _ => rfl)) pa_nil)) pe_int) (fun _ _ => rfl)))
    (pss_cons (ps_set (i := 4) scTake.nd rfl (Or.inl rfl) (pe_op op_mod (pe_callTy call_int1 (by rfl) B.int (by decide +kernel) (pa_cons
        (pe_op op_pow (pe_op op_add (pe_op op_add (pe_ix ix_list (pv 0) pe_int (fun _ _ => rfl)) (pe_op op_mul (pe_op op_mul pe_int (pe_ix ix_list (pv 0) pe_int (fun _ _ => rfl))) (pe_ix ix_list (pv 0) pe_int (fun _ _ => rfl)))) pe_int) pe_int) pa_nil)) (pv 3)))
    (pss_one (ps_ret (pe_op op_mod (pe_callTy call_int1 (by rfl) B.int (by decide +kernel) (pa_cons
        (pe_op op_fdiv (pe_op op_mul (pv 4) (pe_op op_add (pe_op op_mod (pe_callTy call_int1 (by rfl) B.int (by decide +kernel) (pa_cons (pv 4) pa_nil)) pe_int)
          (pe_op op_mul pe_int (pe_ix ix_list (pv 0) pe_int (fun _ _ => rfl))))) pe_int) pa_nil)) (pv 1)))))))), ?_⟩
  refine ⟨_, rfl, p, _, 0, .int a, rfl, rfl, SqL.of hp, rfl, _, _, rfl, rfl, _, rfl, ?_⟩
  refine ite2 (fun _ => ?_) (fun _ => ?_)
  · refine ⟨_, rfl, p, _, 0, .int a, rfl, rfl, SqL.of hp, rfl, .inl ⟨_, rfl, _, rfl, _, _, rfl, rfl, (by omega), ?_⟩⟩
    refine ⟨_, rfl, p, _, 0, .int a, rfl, rfl, SqL.of hp, rfl, _, rfl, _, _, rfl, rfl, ⟨by omega, by omega⟩, ?_⟩
    refine ⟨_, rfl, p, _, _, 0, rfl, rfl, hp, rfl, ?_⟩
    refine ⟨_, rfl, ?_⟩
    exact q _ _ (Int.emod_nonneg _ (by omega)) (Int.emod_lt_of_pos _ (by omega)) ch_upd ⟨_, b, k, upd_same, b1, b2, k1, by omega⟩
  · refine ⟨_, rfl, p, _, 2, .int k, rfl, rfl, SqL.of hp, rfl, _, _, rfl, rfl, ?_⟩
    refine ⟨_, rfl, p, _, _, 2, rfl, rfl, hp, rfl, ?_⟩
    have e1 : upd H p (.lst [.int a, .int b, .int (k + 1)]) p = some (.lst [.int a, .int b, .int (k + 1)]) := upd_same
    obtain ⟨z, hz, z1, z2⟩ := prime_at (k + 1)
    refine ⟨(by show 5 ≤ sizeLine; decide), fun l hl => ?_⟩
    have e2 : upd (upd H p (.lst [.int a, .int b, .int (k + 1)])) l (.lst [.int 2147483647, .int 2147483629, .int 2147483587, .int 2147483579, .int 2147483563]) p = some (.lst [.int a, .int b, .int (k + 1)]) := by
      rw [upd_ne (ne_of_none e1 hl)]
      exact e1
    refine ⟨_, rfl, p, _, 2, .int (k + 1), rfl, rfl, SqL.of e2, rfl, .inl ⟨_, rfl, _, _, rfl, rfl, (by show (0 : Int) < 5; decide), l, _, _, .int z, rfl, rfl, SqL.of upd_same, hz, ?_⟩⟩
    refine ⟨_, rfl, p, _, 1, .int b, rfl, rfl, SqL.of e2, rfl, _, rfl, p, _, 2, .int (k + 1), rfl, rfl, SqL.of e2, rfl, _, _, rfl, rfl, .inl ⟨by decide, by decide⟩, ?_⟩
    refine ⟨_, rfl, p, _, 2, .int (k + 1), rfl, rfl, SqL.of e2, rfl, _, _, rfl, rfl, .inl ⟨by omega, by omega⟩, _, _, rfl, rfl, _, _, rfl, rfl, _, _, rfl, rfl, ⟨by decide, by decide, stir_ok b1 b2 (by omega) (by omega)⟩, ?_⟩
    refine .inl ⟨_, rfl, _, rfl, _, _, rfl, rfl, (by omega), ?_⟩
    have s1 := Int.emod_nonneg ((b + 70001 * (k + 1) * (k + 1) + 67) ^ (3 : Int).toNat) (b := z) (by omega)
    have s2 := Int.emod_lt_of_pos ((b + 70001 * (k + 1) * (k + 1) + 67) ^ (3 : Int).toNat) (b := z) (by omega)
    refine ⟨_, rfl, _, rfl, .inl ⟨_, rfl, _, _, rfl, rfl, (by show (0 : Int) < 10007; decide), ?_⟩⟩
    refine ⟨_, rfl, p, _, 2, .int (k + 1), rfl, rfl, SqL.of e2, rfl, _, _, rfl, rfl, .inl ⟨by decide, by decide⟩, _, _, rfl, rfl, _, _, rfl, rfl, .inl ⟨by omega, by omega⟩, ?_⟩
    refine ⟨_, _, rfl, rfl, ⟨by decide, by decide⟩, .inl ⟨_, rfl, _, rfl, _, _, rfl, rfl, (by omega), ?_⟩⟩
    refine q _ _ (Int.emod_nonneg _ (by omega)) (Int.emod_lt_of_pos _ (by omega)) (ch_upd.trans (Ch.same (same_new hl _))) ⟨a, b, k + 1, e2, b1, b2, by omega, by omega⟩
end
/-- a ** b of ints that stay below 2 ^ 27 bits -/
theorem op_powB {X : Cx} : OpR X (binaryOp .Pow) (rI (fun i j => 0 ≤ j ∧ (Builtin.Int.intBits i : Int) * j ≤ 2 ^ 27) fun i j => .int (i ^ j.toNat)) := opI fun _ _ _ _ _ _ _ hc q => PyProof.Rows.pow_int hc.1 hc.2 q
theorem b01 (b : Bool) : -(2 ^ 64) < (if b = true then (1 : Int) else 0) ∧ (if b = true then (1 : Int) else 0) < 2 ^ 64 := by cases b <;> decide
section
variable {P : Program} {w : World} {K : PySem.W.Frag} {mg : Str → Option Value} {base : Heap} {f g g2 : Addr} {fd gd gd2 : FuncData}
/-! ### _law_of -/
def spOf : Sp := fun vs H Q _ => ∃ (p a : Addr) (xs : List V) (c : Nat), vs = [.ref p, .ref a] ∧ H a = some (.lst xs) ∧ a ≠ p ∧ 1 ≤ xs.length ∧ xs.length ≤ 1000 ∧ PotAt H p c ∧ c ≤ 60000 ∧
  ∀ (x : V) (H' : Hp), x ∈ xs → Ch p H H' → PotAt H' p (c + 1) → Q x H'
theorem scOf : FnScope ["_law_pot_here", "_law_some"] ["_law_pot_here", "_law_some"] (defScope (top 34)) := ⟨rfl, rfl, rfl, by decide +kernel, rfl, by decide +kernel, by decide +kernel⟩
theorem ok_of (F : FnD K "_law_of" 34 f fd) (B : Bl mg) (G : FnOk P w K mg base CX0 1 g gd ["_law_pot_here", "_law_upto"] spTake) (bG : Binds K gd ["_law_pot_here", "_law_upto"] []) (kG : PySem.W.keepIn K (.ref g) = true) (gG : mg "_law_take" = some (.ref g)) :
    FnOk P w K mg base CX0 2 f fd ["_law_pot_here", "_law_some"] spOf := by
  refine F.ok scOf (fun vs H Q E h => ?_) (fun cdv A outer s H vs Q E hr h => ?_)
  · obtain ⟨p, a, xs, c, rfl, _⟩ := h
    rfl
  obtain ⟨p, a, xs, c, rfl, ha, nap, l1, l2, hp, hc, q⟩ := h
  refine ⟨_, PSs.nox (pss_one (ps_ret (pe_ix ix_list (pv 1) (pe_call G hr rfl gG kG bG .nil pass0 (pa_cons (pv 0) (pa_cons (pe_callB call_len_seq (by rfl) B.len PySem.boot_len (pa_cons (pv 1) pa_nil)) pa_nil))) (fun _ _ => rfl)))), ?_⟩
  refine ⟨_, rfl, _, rfl, _, rfl, a, xs, rfl, .inl (SqL.of ha), p, _, c, rfl, by omega, by omega, hp, hc, fun n H' n0 n1 k hp' => ?_⟩
  have hn : n.toNat < xs.length := by omega
  have en : n = ((n.toNat : Nat) : Int) := by omega
  have at_ : atI xs ((n.toNat : Nat) : Int) = some xs[n.toNat] := atI_nat (List.getElem?_eq_getElem hn)
  rw [← en] at at_
  exact ⟨a, xs, n, xs[n.toNat], rfl, rfl, SqL.of (k _ _ nap ha), at_, q _ _ (List.getElem_mem hn) k hp'⟩
/-! ### _law_pot_of -/
def spPot (K : PySem.W.Frag) : Sp := fun vs H Q _ => ∃ (a : Addr) (ns : List Int) (k : Int), vs = [.ref a, .int k] ∧ SqL K H a (ns.map V.int) ∧ 0 ≤ k ∧ k ≤ 2 ∧
  ∀ (p : Addr) (H' : Hp), Same H H' → H p = none → PotAt H' p 0 → Q (.ref p) H'
theorem scPot : FnScope ["_law_script", "_law_k", "_law_cell", "_law_own"] ["_law_script", "_law_k"] (defScope (top 32)) := ⟨rfl, rfl, rfl, by decide +kernel, rfl, by decide +kernel, by decide +kernel⟩
theorem ok_pot (F : FnD K "_law_pot" 32 f fd) (B : Bl mg) : FnOk P w K mg base CX0 1 f fd ["_law_script", "_law_k"] (spPot K) := by
  refine F.ok scPot (fun vs H Q E h => ?_) (fun cdv A outer s H vs Q E hr h => ?_)
  · obtain ⟨a, ns, k, rfl, _⟩ := h
    rfl
  obtain ⟨a, ns, k, rfl, hS, k1, k2, q⟩ := h
  refine ⟨_, PSs.nox (pss_cons (ps_set (i := 2) scPot.nd rfl (Or.inl rfl) (pe_ifExp (pt_cmpR op_lt (pv 1) (pe_callB call_len_seq (by rfl) B.len PySem.boot_len (pa_cons (pv 0) pa_nil)) (nomark _))
        (pe_ix ix_list (pv 0) (pv 1) (fun _ _ => rfl)) (pe_op op_add (pe_op op_mul pe_int (pv 1)) pe_int)))
    (pss_cons (ps_set (i := 3) scPot.nd rfl (Or.inl rfl) (pe_op op_mul
        (pe_op op_mod (pe_callTy call_int1 (by rfl) B.int (by decide +kernel) (pa_cons (pe_callB call_abs (by rfl) B.abs (by decide +kernel) (pa_cons (pv 2) pa_nil)) pa_nil)) (pe_op op_powB (pe_op op_pow pe_int pe_int) pe_int))
        (pe_callTy call_int1 (by rfl) B.int (by decide +kernel) (pa_cons (pe_cmpR op_ge (pe_callB call_abs (by rfl) B.abs (by decide +kernel) (pa_cons (pv 2) pa_nil)) (pe_op op_pow pe_int pe_int) (nomark _)) pa_nil))))
    (pss_one (ps_ret (pe_lst (pa_cons (pv 3) (pa_cons (pe_op op_mod (pe_callTy call_int1 (by rfl) B.int (by decide +kernel) (pa_cons
        (pe_op op_add (pe_op op_add (pe_op op_mul (pe_op op_mod (pe_callTy call_int1 (by rfl) B.int (by decide +kernel) (pa_cons (pv 2) pa_nil)) pe_int) pe_int)
          (pe_op op_mul (pe_op op_mul pe_int (pv 1)) (pv 1))) pe_int) pa_nil)) pe_int) (pa_cons pe_int pa_nil)))))))), ?_⟩
  refine ⟨_, rfl, _, rfl, a, _, rfl, .inl hS, _, _, rfl, rfl, _, rfl, ?_⟩
  refine ite2 (fun c => ?b1) (fun c => ?b2)
  case b1 =>
    have c' : k < (((ns.map V.int).length : Nat) : Int) := of_decide_eq_true c
    rw [List.length_map] at c'
    have hk : k.toNat < ns.length := by omega
    have ek : k = ((k.toNat : Nat) : Int) := by omega
    have at_ : atI (ns.map V.int) ((k.toNat : Nat) : Int) = some (.int ns[k.toNat]) := atI_nat (by rw [List.getElem?_map, List.getElem?_eq_getElem hk] <;> rfl)
    rw [← ek] at at_
    refine ⟨_, rfl, _, rfl, a, _, _, _, rfl, rfl, hS, at_, ?_⟩
    generalize ns[k.toNat] = cell
    refine ⟨_, rfl, _, rfl, .inl ⟨_, rfl, _, _, rfl, rfl, ⟨by decide, by decide, by decide⟩, _, _, rfl, rfl, ⟨by decide, by decide +kernel⟩, _, _, rfl, rfl, (by show (0 : Int) < _; decide +kernel), ?_⟩⟩
    refine ⟨_, rfl, _, rfl, _, _, rfl, rfl, ⟨by decide, by decide, by decide⟩, _, _, rfl, rfl, .inr ⟨_, rfl, _, _, rfl, rfl, .inr (b01 _), ?_⟩⟩
    refine ⟨_, rfl, _, rfl, .inl ⟨_, rfl, _, _, rfl, rfl, (by show (0 : Int) < 2305843009213693951; decide), _, _, rfl, rfl, .inr ⟨by decide, by decide⟩, ?_⟩⟩
    refine ⟨_, rfl, _, _, rfl, rfl, .inl ⟨by decide, by decide⟩, _, rfl, _, _, rfl, rfl, .inl ⟨by omega, by omega⟩, _, _, rfl, rfl, _, _, rfl, rfl, .inl ⟨_, rfl, _, _, rfl, rfl, (by show (0 : Int) < 2305843009213693921; decide), ?_⟩⟩
    refine ⟨(by show 3 ≤ sizeLine; decide), fun p hp => q p _ (same_new hp _) hp ⟨_, _, 0, upd_same, Int.emod_nonneg _ (by decide), Int.emod_lt_of_pos _ (by decide), by decide, by decide⟩⟩
  case b2 =>
    refine ⟨_, rfl, _, _, rfl, rfl, .inl ⟨by decide, by decide⟩, _, _, rfl, rfl, ?_⟩
    generalize (41 * k + 23) = cell
    refine ⟨_, rfl, _, rfl, .inl ⟨_, rfl, _, _, rfl, rfl, ⟨by decide, by decide, by decide⟩, _, _, rfl, rfl, ⟨by decide, by decide +kernel⟩, _, _, rfl, rfl, (by show (0 : Int) < _; decide +kernel), ?_⟩⟩
    refine ⟨_, rfl, _, rfl, _, _, rfl, rfl, ⟨by decide, by decide, by decide⟩, _, _, rfl, rfl, .inr ⟨_, rfl, _, _, rfl, rfl, .inr (b01 _), ?_⟩⟩
    refine ⟨_, rfl, _, rfl, .inl ⟨_, rfl, _, _, rfl, rfl, (by show (0 : Int) < 2305843009213693951; decide), _, _, rfl, rfl, .inr ⟨by decide, by decide⟩, ?_⟩⟩
    refine ⟨_, rfl, _, _, rfl, rfl, .inl ⟨by decide, by decide⟩, _, rfl, _, _, rfl, rfl, .inl ⟨by omega, by omega⟩, _, _, rfl, rfl, _, _, rfl, rfl, .inl ⟨_, rfl, _, _, rfl, rfl, (by show (0 : Int) < 2305843009213693921; decide), ?_⟩⟩
    refine ⟨(by show 3 ≤ sizeLine; decide), fun p hp => q p _ (same_new hp _) hp ⟨_, _, 0, upd_same, Int.emod_nonneg _ (by decide), Int.emod_lt_of_pos _ (by decide), by decide, by decide⟩⟩
end
end K00
set_option Elab.async false
set_option linter.all false
set_option maxRecDepth 100000
set_option maxHeartbeats 4000000
/-! K00X: bounds of what is drawn. -/
namespace K00
open PySem PySem.Spec L2
open PyProof.Rows (envOfC sortedS)
mutual
def SmN (k : Nat) : PyData → Prop
  | .none => True
  | .bool _ => True
  | .int _ => True
  | .str s => s.length ≤ 1000 ∧ PyData.strOk s = true
  | .tuple xs => xs.length ≤ k ∧ SmNL k xs
  | .list xs => xs.length ≤ k ∧ SmNL k xs
  | .dict ds => ds.length ≤ k ∧ (ds.map fun p => kS p.1).Nodup ∧ SmNK k ds
def SmNL (k : Nat) : List PyData → Prop
  | [] => True
  | x :: r => SmN k x ∧ SmNL k r
def SmNK (k : Nat) : List (PyData × PyData) → Prop
  | [] => True
  | (a, v) :: r => SmN k a ∧ SmN k v ∧ SmNK k r
end
theorem smNL_iff {k : Nat} : ∀ {xs : List PyData}, SmNL k xs ↔ ∀ x ∈ xs, SmN k x
  | [] => by simp [SmNL]
  | x :: r => by simp [SmNL, smNL_iff (xs := r)]
theorem smNK_iff {k : Nat} : ∀ {xs : List (PyData × PyData)}, SmNK k xs ↔ ∀ p ∈ xs, SmN k p.1 ∧ SmN k p.2
  | [] => by simp [SmNK]
  | (a, v) :: r => by
    simp only [SmNK, smNK_iff (xs := r), List.mem_cons]
    constructor
    · rintro ⟨h1, h2, h3⟩ p (rfl | hp)
      · exact ⟨h1, h2⟩
      · exact h3 p hp
    · intro h
      exact ⟨(h _ (.inl rfl)).1, (h _ (.inl rfl)).2, fun p hp => h p (.inr hp)⟩
mutual
theorem SmN.mono {k m : Nat} (h : k ≤ m) : ∀ {d : PyData}, SmN k d → SmN m d
  | .none, _ => trivial
  | .bool _, _ => trivial
  | .int _, _ => trivial
  | .str _, z => z
  | .tuple xs, z => ⟨Nat.le_trans z.1 h, SmNL.mono h z.2⟩
  | .list xs, z => ⟨Nat.le_trans z.1 h, SmNL.mono h z.2⟩
  | .dict ds, z => ⟨Nat.le_trans z.1 h, z.2.1, SmNK.mono h z.2.2⟩
theorem SmNL.mono {k m : Nat} (h : k ≤ m) : ∀ {xs : List PyData}, SmNL k xs → SmNL m xs
  | [], _ => trivial
  | _ :: _, z => ⟨SmN.mono h z.1, SmNL.mono h z.2⟩
theorem SmNK.mono {k m : Nat} (h : k ≤ m) : ∀ {xs : List (PyData × PyData)}, SmNK k xs → SmNK m xs
  | [], _ => trivial
  | (_, _) :: _, z => ⟨SmN.mono h z.1, SmN.mono h z.2.1, SmNK.mono h z.2.2⟩
end
mutual
theorem SmN.sm {k : Nat} (h : k ≤ 60) : ∀ {d : PyData}, SmN k d → Sm d
  | .none, _ => trivial
  | .bool _, _ => trivial
  | .int _, _ => trivial
  | .str _, z => z
  | .tuple xs, z => ⟨by have := z.1; omega, SmNL.sm h z.2⟩
  | .list xs, z => ⟨by have := z.1; omega, SmNL.sm h z.2⟩
  | .dict ds, z => ⟨Nat.le_trans z.1 h, z.2.1, SmNK.sm h z.2.2⟩
theorem SmNL.sm {k : Nat} (h : k ≤ 60) : ∀ {xs : List PyData}, SmNL k xs → SmL xs
  | [], _ => trivial
  | _ :: _, z => ⟨SmN.sm h z.1, SmNL.sm h z.2⟩
theorem SmNK.sm {k : Nat} (h : k ≤ 60) : ∀ {xs : List (PyData × PyData)}, SmNK k xs → SmK xs
  | [], _ => trivial
  | (_, _) :: _, z => ⟨SmN.sm h z.1, SmN.sm h z.2.1, SmNK.sm h z.2.2⟩
end
/-- drawn: small, so deep, so many parts, shown by so many signs -/
structure Dr (n c L : Nat) (d : PyData) : Prop where
  sm : SmN 4 d
  dep : d.depth ≤ n
  cn : cnt d ≤ c
  sh : d.showable = true
  len : d.shown.length ≤ L
theorem Dr.mono {n c L n' c' L' : Nat} {d : PyData} (h : Dr n c L d) (a : n ≤ n') (b : c ≤ c') (e : L ≤ L') : Dr n' c' L' d := ⟨h.sm, Nat.le_trans h.dep a, Nat.le_trans h.cn b, h.sh, Nat.le_trans h.len e⟩
theorem depthAll_le {n : Nat} : ∀ {xs : List PyData}, (∀ x ∈ xs, x.depth ≤ n) → PyData.depthAll xs ≤ n
  | [], _ => by simp [PyData.depthAll]
  | x :: r, h => by
    have h1 := h x (by simp)
    have h2 := depthAll_le (n := n) (xs := r) fun y hy => h y (by simp [hy])
    simp only [PyData.depthAll]
    omega
theorem depthKv_le {n : Nat} : ∀ {ds : List (PyData × PyData)}, (∀ p ∈ ds, p.1.depth ≤ n ∧ p.2.depth ≤ n) → PyData.depthKv ds ≤ n
  | [], _ => by simp [PyData.depthKv]
  | (a, b) :: r, h => by
    have h1 := h (a, b) (by simp)
    have h2 := depthKv_le (n := n) (ds := r) fun y hy => h y (by simp [hy])
    simp only [PyData.depthKv]
    simp only at h1
    omega
theorem sum_le {c : Nat} : ∀ {xs : List Nat}, (∀ x ∈ xs, x ≤ c) → xs.sum ≤ xs.length * c
  | [], _ => by simp
  | x :: r, h => by
    have h1 := h x (by simp)
    have h2 := sum_le (c := c) (xs := r) fun y hy => h y (by simp [hy])
    rw [List.sum_cons, List.length_cons, Nat.add_mul]
    omega
theorem textFrom_le {L : Nat} : ∀ (ts : List Str) (k : Nat) (acc : Str), (∀ t ∈ ts, t.length ≤ L) → (textFrom k acc ts).length ≤ acc.length + ts.length * (L + 2)
  | [], _, acc, _ => by simp [textFrom]
  | t :: r, k, acc, h => by
    have h1 := h t (by simp)
    have h2 := textFrom_le (L := L) r (k + 1) (acc ++ (if k > 0 then ", " else "" : String) ++ t) fun y hy => h y (by simp [hy])
    have e : (acc ++ (if k > 0 then ", " else "" : String) ++ t).length = acc.length + (if k > 0 then 2 else 0) + t.length := by
      rw [strLen_append, strLen_append]
      split <;> rfl
    rw [textFrom, List.length_cons, Nat.add_mul]
    rw [e] at h2
    have : (if k > 0 then 2 else 0) ≤ 2 := by split <;> omega
    omega
theorem join_le {L : Nat} : ∀ (ts : List Str), (∀ t ∈ ts, t.length ≤ L) → (Str.join ", " ts).length ≤ ts.length * (L + 2)
  | [], _ => by show 0 ≤ _; omega
  | [x], h => by
    have h1 := h x (by simp)
    show x.length ≤ _
    simp
    omega
  | x :: y :: r, h => by
    have h1 := h x (by simp)
    have h2 := join_le (L := L) (y :: r) fun z hz => h z (by simp [hz])
    have e : (Str.join ", " (x :: y :: r)).length = x.length + 2 + (Str.join ", " (y :: r)).length := by
      show (x ++ ", " ++ Str.join ", " (y :: r)).length = _
      rw [strLen_append, strLen_append] <;> rfl
    rw [e, List.length_cons, Nat.add_mul]
    omega
theorem shownAll_eq : ∀ xs, PyData.shownAll xs = xs.map PyData.shown
  | [] => rfl
  | x :: r => by rw [PyData.shownAll, shownAll_eq r, List.map_cons]
theorem shownKv_eq : ∀ ds, PyData.shownKv ds = ds.map fun p => p.1.shown ++ ((": " : String) : Str) ++ p.2.shown
  | [] => rfl
  | (a, b) :: r => by rw [PyData.shownKv, shownKv_eq r, List.map_cons]
theorem showableAll_of : ∀ {xs : List PyData}, (∀ x ∈ xs, x.showable = true) → PyData.showableAll xs = true
  | [], _ => rfl
  | x :: r, h => by
    rw [PyData.showableAll, h x (by simp), showableAll_of fun y hy => h y (by simp [hy])]
    rfl
theorem showableKv_of : ∀ {ds : List (PyData × PyData)}, (∀ p ∈ ds, p.1.showable = true ∧ p.2.showable = true) → PyData.showableKv ds = true
  | [], _ => rfl
  | (a, b) :: r, h => by
    have h1 := h (a, b) (by simp)
    rw [PyData.showableKv, h1.1, h1.2, showableKv_of fun y hy => h y (by simp [hy])]
    rfl
theorem dr_list {n c L m : Nat} {xs : List PyData} (hm : xs.length ≤ m) (h4 : m ≤ 4) (h : ∀ x ∈ xs, Dr n c L x) : Dr (n + 1) (1 + m * c) (2 + m * (L + 2)) (.list xs) := by
  refine ⟨⟨by omega, smNL_iff.mpr fun x hx => (h x hx).sm⟩, ?_, ?_, ?_, ?_⟩
  · have := depthAll_le fun x hx => (h x hx).dep
    simp only [PyData.depth]
    omega
  · rw [cnt_kids]
    have h1 : ((kids (.list xs)).map cnt).sum ≤ ((kids (.list xs)).map cnt).length * c := sum_le fun y hy => by
      obtain ⟨x, hx, rfl⟩ := List.mem_map.mp hy
      exact (h x hx).cn
    rw [List.length_map] at h1
    have h2 : xs.length * c ≤ m * c := Nat.mul_le_mul_right _ hm
    have h3 : (kids (.list xs)).length = xs.length := rfl
    rw [h3] at h1
    omega
  · show PyData.showableAll xs = true
    exact showableAll_of fun x hx => (h x hx).sh
  · show (listText (PyData.shownAll xs)).length ≤ _
    unfold listText
    rw [strLen_append, shownAll_eq]
    have h1 := textFrom_le (L := L) (xs.map PyData.shown) 0 "[" fun t ht => by
      obtain ⟨x, hx, rfl⟩ := List.mem_map.mp ht
      exact (h x hx).len
    rw [List.length_map] at h1
    have e1 : (("[" : String) : Str).length = 1 := rfl
    have e2 : (("]" : String) : Str).length = 1 := rfl
    have h2 : xs.length * (L + 2) ≤ m * (L + 2) := Nat.mul_le_mul_right _ hm
    rw [e1] at h1
    rw [e2]
    omega
/-- a key of a drawn record -/
def KeyN (k : PyData) : Prop := ∃ s, k = .str s ∧ s.length ≤ 1000 ∧ PyData.strOk s = true ∧ (reprText s).length ≤ 10
theorem dr_dict {n c L m : Nat} {ds : List (PyData × PyData)} (hm : ds.length ≤ m) (h4 : m ≤ 4) (nd : (ds.map fun p => kS p.1).Nodup) (h : ∀ p ∈ ds, KeyN p.1 ∧ Dr n c L p.2) : Dr (n + 1) (1 + m * c) (2 + m * (L + 14)) (.dict ds) := by
  refine ⟨⟨by omega, nd, smNK_iff.mpr fun p hp => ?_⟩, ?_, ?_, ?_, ?_⟩
  · obtain ⟨⟨s, e, h1, h2, _⟩, hd⟩ := h p hp
    rw [e]
    exact ⟨⟨h1, h2⟩, hd.sm⟩
  · have := depthKv_le (n := n) fun p hp => (by
      obtain ⟨⟨s, e, _⟩, hd⟩ := h p hp
      rw [e]
      exact ⟨Nat.zero_le _, hd.dep⟩ : p.1.depth ≤ n ∧ p.2.depth ≤ n)
    simp only [PyData.depth]
    omega
  · rw [cnt_kids]
    have h1 : ((kids (.dict ds)).map cnt).sum ≤ ((kids (.dict ds)).map cnt).length * c := sum_le fun y hy => by
      obtain ⟨x, hx, rfl⟩ := List.mem_map.mp hy
      obtain ⟨p, hp, rfl⟩ := List.mem_map.mp hx
      exact (h p hp).2.cn
    rw [List.length_map] at h1
    have h2 : ds.length * c ≤ m * c := Nat.mul_le_mul_right _ hm
    have h3 : (kids (.dict ds)).length = ds.length := List.length_map ..
    rw [h3] at h1
    omega
  · show PyData.showableKv ds = true
    exact showableKv_of fun p hp => by
      obtain ⟨⟨s, e, _⟩, hd⟩ := h p hp
      rw [e]
      exact ⟨rfl, hd.sh⟩
  · show (dictText (PyData.shownKv ds)).length ≤ _
    unfold dictText
    rw [strLen_append, strLen_append, shownKv_eq]
    have h1 := join_le (L := L + 12) (ds.map fun p => p.1.shown ++ ((": " : String) : Str) ++ p.2.shown) fun t ht => by
      obtain ⟨p, hp, rfl⟩ := List.mem_map.mp ht
      obtain ⟨⟨s, e, _, _, h3⟩, hd⟩ := h p hp
      rw [strLen_append, strLen_append, e]
      have e2 : ((": " : String) : Str).length = 2 := rfl
      have e3 : (PyData.shown (.str s)).length ≤ 10 := h3
      have := hd.len
      rw [e2]
      omega
    rw [List.length_map] at h1
    have e1 : (("{" : String) : Str).length = 1 := rfl
    have e2 : (("}" : String) : Str).length = 1 := rfl
    have h2 : ds.length * (L + 12 + 2) ≤ m * (L + 14) := Nat.mul_le_mul_right _ hm
    rw [e1, e2]
    omega
end K00
set_option Elab.async false
set_option linter.all false
set_option maxRecDepth 100000
set_option maxHeartbeats 8000000
namespace K00
open PySem PySem.Spec L2
open PyProof.Rows (envOfC sortedS)
section
variable {X : Cx} {e : Expr} {t : TE}
def tFzK (t : TE) : TE := fun σ H Q => t σ H fun v H' => ∃ d kvs, v = .ref d ∧ H' d = some (.dK kvs) ∧ ((kvs.map (·.1)).Nodup → ∀ o, Q v (upd H' d (.frz o (.dK kvs))))
theorem pe_fzK (h : PE X e t) : PE X e (tFzK t) := by
  refine ⟨fun pins s σ H Q I hq => ?_⟩
  refine thn (h.run pins s σ H _ I hq) fun v s1 ⟨x, H1, I1, rx, d, kvs, ex, hd, q⟩ => ?_
  obtain ⟨od, J⟩ := I1.lock hd trivial
  have hx : ObjOk X.prog X.w H1 s1.heap d (.dK kvs) := I1.hok d _ hd
  obtain ⟨_, _, vs, kv, o, es, ep, h1, h2, h3, h4, h5, h6⟩ := hx
  have e : kvs.map (·.1) = vs.map (·.1) := kv.keys
  exact ⟨x, _, J, rx, q (by rw [e]; exact h6) od⟩
end
section
variable {P : Program} {w : World} {H H' : Hp}
/-- an entry of a record that is made -/
def RE (P : Program) (w : World) (KP : Str → Prop) (Pd : PyData → Prop) (H : Hp) (kv : Key × V) : Prop := ∃ s d, kv.1 = Sum.inr s ∧ KP s ∧ Da P w H kv.2 d ∧ Pd d
theorem RE.kp {KP : Str → Prop} {Pd : PyData → Prop} {kv : Key × V} (h : RE P w KP Pd H kv) (k : Kp H H') : RE P w KP Pd H' kv := by
  obtain ⟨s, d, h1, h2, h3, h4⟩ := h
  exact ⟨s, d, h1, h2, h3.kp k, h4⟩
theorem put_all {R : Key × V → Prop} {kvs : List (Key × V)} {k : Key} {v : V} (h : ∀ kv ∈ kvs, R kv) (hk : R (k, v)) : ∀ kv ∈ putK kvs k v, R kv := by
  intro kv hkv
  unfold putK at hkv
  split at hkv
  · obtain ⟨a, ha, e⟩ := List.mem_map.mp hkv
    split at e
    · rename_i c
      rw [← e, c]
      exact hk
    · rw [← e]
      exact h a ha
  · rcases List.mem_append.mp hkv with z | z
    · exact h kv z
    · rw [List.mem_singleton.mp z]
      exact hk
theorem merge_all {R : Key × V → Prop} : ∀ {more kvs : List (Key × V)}, (∀ kv ∈ kvs, R kv) → (∀ kv ∈ more, R kv) → ∀ kv ∈ mergeK kvs more, R kv
  | [], _, h, _ => h
  | (k, v) :: r, kvs, h, hm => merge_all (more := r) (put_all h (hm _ List.mem_cons_self)) fun kv hkv => hm kv (List.mem_cons_of_mem _ hkv)
theorem build {KP : Str → Prop} {Pd : PyData → Prop} : ∀ {kvs : List (Key × V)}, (∀ kv ∈ kvs, RE P w KP Pd H kv) →
    ∃ ds, DaE P w H (kvs.map fun p => (kV p.1, p.2)) ds ∧ (∀ p ∈ ds, ∃ s, p.1 = .str s ∧ KP s ∧ Pd p.2) ∧ kvs.map (·.1) = (ds.map fun p => kS p.1).map Sum.inr
  | [], _ => ⟨[], .nil, (fun _ h => nomatch h), rfl⟩
  | (k, v) :: r, h => by
    obtain ⟨ds, h1, h2, h3⟩ := build (kvs := r) fun kv hkv => h kv (List.mem_cons_of_mem _ hkv)
    obtain ⟨s, d, e1, e2, e3, e4⟩ := h (k, v) List.mem_cons_self
    have e1' : k = Sum.inr s := e1
    subst e1'
    refine ⟨(.str s, d) :: ds, .cons (.str s) e3 h1, fun p hp => ?_, ?_⟩
    · rcases List.mem_cons.mp hp with z | z
      · rw [z]
        exact ⟨s, rfl, e2, e4⟩
      · exact h2 p z
    · rw [List.map_cons, List.map_cons, List.map_cons, h3]
      rfl
theorem nodup_keys {kvs : List (Key × V)} {ds : List (PyData × PyData)} (e : kvs.map (·.1) = (ds.map fun p => kS p.1).map Sum.inr) (n : (kvs.map (·.1)).Nodup) : (ds.map fun p => kS p.1).Nodup := by
  rw [e] at n
  exact (List.pairwise_map.mp n).imp fun h z => h (congrArg Sum.inr z)
/-- a dict that was just made and locked, of such entries -/
theorem made_dict {KP : Str → Prop} {Pd : PyData → Prop} {p : Addr} {o : Obj} {kvs more : List (Key × V)} (hn : H p = none) (h : ∀ kv ∈ more, RE P w KP Pd H kv) (ek : kvs = mergeK [] more) (n : (kvs.map (·.1)).Nodup) :
    ∃ ds, Da P w (upd (upd H p (.dK kvs)) p (.frz o (.dK kvs))) (.ref p) (.dict ds) ∧ ds.length ≤ more.length ∧ (ds.map fun q => kS q.1).Nodup ∧ ∀ q ∈ ds, ∃ s, q.1 = .str s ∧ KP s ∧ Pd q.2 := by
  have hall : ∀ kv ∈ kvs, RE P w KP Pd H kv := by
    rw [ek]
    exact merge_all (fun _ h => nomatch h) h
  obtain ⟨ds, h1, h2, h3⟩ := build hall
  have k : Kp H (upd (upd H p (.dK kvs)) p (.frz o (.dK kvs))) := by
    rw [upd_upd]
    exact .new hn _
  refine ⟨ds, .dic (.inl ⟨kvs, upd_same, rfl⟩) (h1.kp k), ?_, nodup_keys h3 n, h2⟩
  have l1 := h1.length
  rw [List.length_map] at l1
  have l2 := length_mergeK more []
  rw [← ek] at l2
  simp only [List.length_nil] at l2
  omega
end
theorem cut_to (xs : List V) {n : Int} (h : 0 ≤ n) : cutV xs none (some n) = xs.take n.toNat := by
  have en : n = ((n.toNat : Nat) : Int) := by omega
  rw [en]
  unfold cutV
  rw [HT.sIx_nat, HT.sIx_none, List.drop_zero, Int.toNat_natCast, Nat.sub_zero]
  rcases Nat.le_total n.toNat xs.length with z | z
  · rw [Nat.min_eq_left z]
  · rw [Nat.min_eq_right z, List.take_length, List.take_of_length_le z]
theorem cut_from (xs : List V) {n : Int} (h : 0 ≤ n) : cutV xs (some n) none = xs.drop n.toNat := by
  have en : n = ((n.toNat : Nat) : Int) := by omega
  rw [en]
  unfold cutV
  rw [HT.sIx_nat, HT.sIx_none, Int.toNat_natCast]
  rcases Nat.le_total n.toNat xs.length with z | z
  · rw [Nat.min_eq_left z, List.take_of_length_le]
    rw [List.length_drop]
    omega
  · rw [Nat.min_eq_right z, List.drop_eq_nil_of_le z, List.drop_length]
    simp
theorem new_ne {H H' : Hp} {p a : Addr} {o : HO} (k : Same H H') (hp : H p = some o) (ha : H' a = none) : a ≠ p := fun e => by
  have := k _ _ hp
  rw [← e, ha] at this
  cases this
theorem seqIx_nat {n : Int} {k : Nat} (h : 0 ≤ n) (l : n.toNat < k) : seqIndex? n k = some n.toNat := by
  have e : (if n < 0 then n + (k : Int) else n) = n := if_neg (by omega)
  show (if (decide (0 ≤ (if n < 0 then n + (k : Int) else n)) && decide ((if n < 0 then n + (k : Int) else n) < k)) = true then some (if n < 0 then n + (k : Int) else n).toNat else none) = _
  rw [e, decide_eq_true h, decide_eq_true (by omega : n < k)]
  rfl
theorem map_erase {α β : Type} (g : α → β) : ∀ (l : List α) (n : Nat), (l.eraseIdx n).map g = (l.map g).eraseIdx n
  | [], _ => rfl
  | _ :: _, 0 => rfl
  | x :: l, n + 1 => by
    show g x :: (l.eraseIdx n).map g = g x :: (l.map g).eraseIdx n
    rw [map_erase g l n]
/-! ### flats -/
def vD : V → PyData
  | .bl b => .bool b
  | .int i => .int i
  | .str s => .str s
  | _ => .none
def flatV' : V → Bool
  | .non => true
  | .bl _ => true
  | .int _ => true
  | .str _ => true
  | _ => false
theorem da_flat {P : Program} {w : World} {H : Hp} {x : V} (h : flatV' x = true) : Da P w H x (vD x) := by
  cases x with
  | non => exact .non
  | bl b => exact .bl b
  | int i => exact .int i
  | str s => exact .str s
  | _ => exact (Bool.false_ne_true (show false = true from h)).elim
def flats : List V := [.non, .bl true, .bl false, .int 0, .int 1, .int (-1), .int 2, .int 3, .str "a", .str "b", .str "one", .str "two", .str "", .str "q\"\\", .str "x: -, {"]
def flatB (L : Nat) (d : PyData) : Bool := (match d with
  | .str s => Nat.ble s.length 1000 && PyData.strOk s
  | .none => true
  | .bool _ => true
  | .int _ => true
  | _ => false) && (d.showable && Nat.ble d.shown.length L)
theorem flat_dr {L : Nat} {d : PyData} (h : flatB L d = true) : isOne d = true ∧ Dr 0 1 L d := by
  unfold flatB at h
  obtain ⟨h1, h2⟩ := He.ba h
  obtain ⟨h2, h3⟩ := He.ba h2
  have h3' := Nat.le_of_ble_eq_true h3
  cases d with
  | none => exact ⟨rfl, trivial, Nat.le_refl _, Nat.le_refl _, h2, h3'⟩
  | bool b => exact ⟨rfl, trivial, Nat.le_refl _, Nat.le_refl _, h2, h3'⟩
  | int i => exact ⟨rfl, trivial, Nat.le_refl _, Nat.le_refl _, h2, h3'⟩
  | str s =>
    obtain ⟨a1, a2⟩ := He.ba h1
    exact ⟨rfl, ⟨Nat.le_of_ble_eq_true a1, a2⟩, Nat.le_refl _, Nat.le_refl _, h2, h3'⟩
  | list xs => exact (Bool.false_ne_true (show false = true from h1)).elim
  | tuple xs => exact (Bool.false_ne_true (show false = true from h1)).elim
  | dict xs => exact (Bool.false_ne_true (show false = true from h1)).elim
/-- signs below 128 alone, in plain Lean -/
def as7 (s : Str) : Bool := s.cps.toList.all fun c => Nat.blt c 128
mutual
/-- what a text may be told of: short texts of such signs, numbers of nineteen figures at most -/
def Tq : PyData → Prop
  | .none => True
  | .bool _ => True
  | .int i => i.natAbs ≤ 2000000000000000000
  | .str s => s.length ≤ 40 ∧ as7 s = true
  | .tuple _ => False
  | .list xs => TqL xs
  | .dict ds => TqK ds
def TqL : List PyData → Prop
  | [] => True
  | x :: r => Tq x ∧ TqL r
def TqK : List (PyData × PyData) → Prop
  | [] => True
  | (_, v) :: r => Tq v ∧ TqK r
end
theorem tqL_iff : ∀ {xs : List PyData}, TqL xs ↔ ∀ x ∈ xs, Tq x
  | [] => by simp [TqL]
  | x :: r => by simp [TqL, tqL_iff (xs := r)]
theorem tqK_iff : ∀ {xs : List (PyData × PyData)}, TqK xs ↔ ∀ p ∈ xs, Tq p.2
  | [] => by simp [TqK]
  | (a, v) :: r => by simp [TqK, tqK_iff (xs := r)]
def tqB : PyData → Bool
  | .none => true
  | .bool _ => true
  | .int i => Nat.ble i.natAbs 2000000000000000000
  | .str s => Nat.ble s.length 40 && as7 s
  | _ => false
theorem tq_of {d : PyData} (h : tqB d = true) : Tq d := by
  cases d with
  | none => trivial
  | bool b => trivial
  | int i => exact Nat.le_of_ble_eq_true h
  | str s =>
    obtain ⟨a, b⟩ := He.ba (show (Nat.ble s.length 40 && as7 s) = true from h)
    exact ⟨Nat.le_of_ble_eq_true a, b⟩
  | _ => cases h
/-- a drawn document -/
def Th (n c L : Nat) (d : PyData) : Prop := isOne d = true ∧ Dr n c L d ∧ Tq d
theorem flats_ok : flats.all (fun x => flatV' x && (flatB 200 (vD x) && tqB (vD x))) = true := by decide +kernel
section
variable {P : Program} {w : World} {K : PySem.W.Frag} {mg : Str → Option Value} {base : Heap} {f g g2 g3 : Addr} {fd gd gd2 gd3 : FuncData}
def spFlat (P : Program) (w : World) : Sp := fun vs H Q _ => ∃ (p : Addr) (c : Nat), vs = [.ref p] ∧ PotAt H p c ∧ c + 1 ≤ 60000 ∧ ∀ x d H', Th 0 1 200 d → Da P w H' x d → Ch p H H' → PotAt H' p (c + 1) → Q x H'
theorem scFlat : FnScope ["_law_pot_here"] ["_law_pot_here"] (defScope (top 36)) := ⟨rfl, rfl, rfl, by decide +kernel, rfl, by decide +kernel, by decide +kernel⟩
theorem ok_flat (F : FnD K "_law_flat" 36 f fd) (GO : FnOk P w K mg base CX0 2 g gd ["_law_pot_here", "_law_some"] spOf) (bO : Binds K gd ["_law_pot_here", "_law_some"] []) (kO : PySem.W.keepIn K (.ref g) = true) (gO : mg "_law_of" = some (.ref g)) :
    FnOk P w K mg base CX0 3 f fd ["_law_pot_here"] (spFlat P w) := by
  refine F.ok scFlat (fun vs H Q E h => ?_) (fun cdv A outer s H vs Q E hr h => ?_)
  · obtain ⟨p, c, rfl, _⟩ := h
    rfl
  obtain ⟨p, c, rfl, hp, hc, q⟩ := h
  refine ⟨_, PSs.nox (pss_one (ps_ret (pe_call GO hr rfl gO kO bO .nil pass0 (pa_cons (pv 0) (pa_cons (pe_lst (pa_cons pe_non (pa_cons pe_bl (pa_cons pe_bl (pa_cons pe_int (pa_cons pe_int (pa_cons (pe_un un_neg pe_int) (pa_cons pe_int (pa_cons pe_int
        (pa_cons pe_str (pa_cons pe_str (pa_cons pe_str (pa_cons pe_str (pa_cons pe_str (pa_cons pe_str (pa_cons pe_str pa_nil)))))))))))))))) pa_nil))))), ?_⟩
  obtain ⟨ys0, hp0⟩ := hp.lst
  refine ⟨_, rfl, _, rfl, (by show 15 ≤ sizeLine; decide), fun l hl => ?_⟩
  have k := same_new hl (.lst flats)
  have n3 : l ≠ p := fun e => by rw [e, hp0] at hl; cases hl
  refine ⟨p, l, flats, c, rfl, upd_same, n3, by decide, by decide, hp.same k, by omega, fun x H' hx k' hp' => ?_⟩
  obtain ⟨h1, h2⟩ := He.ba (List.all_eq_true.mp flats_ok x hx)
  obtain ⟨h2, h5⟩ := He.ba h2
  obtain ⟨h3, h4⟩ := flat_dr h2
  exact q x (vD x) H' ⟨h3, h4, tq_of h5⟩ (da_flat h1) ((Ch.same k).trans k') hp'
end
section
variable {P : Program} {w : World} {K : PySem.W.Frag} {mg : Str → Option Value} {base : Heap} {f g g2 g3 : Addr} {fd gd gd2 gd3 : FuncData}
/-! ### _law_unlike, of texts -/
def spUnlike : Sp := fun vs H Q _ => ∃ (p a : Addr) (ss : List Str) (m : Int) (c : Nat), vs = [.ref p, .ref a, .int m] ∧ H a = some (.lst (ss.map V.str)) ∧ a ≠ p ∧ ss.length ≤ 10 ∧ 0 ≤ m ∧ m ≤ 10 ∧ PotAt H p c ∧ c + m.toNat ≤ 60000 ∧
  ∀ (l : Addr) (ys : List Str) (H' : Hp), H' l = some (.lst (ys.map V.str)) → H l = none → l ≠ p → ys.length ≤ m.toNat → (∀ s ∈ ys, s ∈ ss) → Ch p H H' → PotAt H' p (c + m.toNat) → Q (.ref l) H'
theorem scUnlike : FnScope ["_law_pot_here", "_law_some", "_law_many", "_law_left", "_law_found", "_law_turn"] ["_law_pot_here", "_law_some", "_law_many"] (defScope (top 35)) := ⟨rfl, rfl, rfl, by decide +kernel, rfl, by decide +kernel, by decide +kernel⟩
theorem ok_unlike (F : FnD K "_law_unlike" 35 f fd) (B : Bl mg) (GT : FnOk P w K mg base CX0 1 g gd ["_law_pot_here", "_law_upto"] spTake) (bT : Binds K gd ["_law_pot_here", "_law_upto"] []) (kT : PySem.W.keepIn K (.ref g) = true) (gT : mg "_law_take" = some (.ref g)) :
    FnOk P w K mg base CX0 2 f fd ["_law_pot_here", "_law_some", "_law_many"] spUnlike := by
  refine F.ok scUnlike (fun vs H Q E h => ?_) (fun cdv A outer s H vs Q E hr h => ?_)
  · obtain ⟨p, a, ss, m, c, rfl, _⟩ := h
    rfl
  obtain ⟨p, a, ss, m, c, rfl, ha, nap, l10, m0, m10, hp, hc, q⟩ := h
  refine ⟨_, PSs.nox (pss_cons (ps_par (i := 3) (j := 4) rfl scUnlike.nd rfl rfl (by decide) rfl rfl (pa_cons (pe_callTy call_list_of (by rfl) B.list (by decide +kernel) (pa_cons (pv 1) pa_nil)) (pa_cons (pe_lst pa_nil) pa_nil)) (by rfl))
    (pss_cons (ps_for PassesOwn.never rfl (pi_range1 (by rfl) B.range (pa_cons (pe_callB (call_min2 rfl) (by rfl) B.min (by decide +kernel) (pa_cons (pv 2) (pa_cons (pe_callB call_len_seq (by rfl) B.len PySem.boot_len (pa_cons (pv 3) pa_nil)) pa_nil))) pa_nil))
        (pg_name (i := 5) scUnlike.nd rfl (Or.inl rfl))
      (pss_one (ps_expr (pe_bm PySem.F.plainAttrs_list PySem.F.slot_list_append PySem.F.type_list_append mt_append (pv 4) (pa_cons
        (pe_bm PySem.F.plainAttrs_list PySem.F.slot_list_pop PySem.F.type_list_pop mt_popAt (pv 3) (pa_cons (pe_call GT hr rfl gT kT bT .nil pass0 (pa_cons (pv 0) (pa_cons (pe_callB call_len_seq (by rfl) B.len PySem.boot_len (pa_cons (pv 3) pa_nil)) pa_nil))) pa_nil)) pa_nil)))))
    (pss_one (ps_ret (pv 4))))), ?_⟩
  obtain ⟨ys0, hp0⟩ := hp.lst
  refine ⟨_, rfl, a, _, rfl, .inl (SqL.of ha), fun l1 hl1 => ⟨(by show 0 ≤ sizeLine; decide), fun l2 hl2 => ⟨_, _, rfl, ?_⟩⟩⟩
  have e1 : upd (upd H l1 (.lst (ss.map V.str))) l2 (.lst []) l1 = some (.lst (ss.map V.str)) := by
    rw [upd_ne (ne_of_none upd_same hl2)]
    exact upd_same
  have k0 : Same H (upd (upd H l1 (.lst (ss.map V.str))) l2 (.lst [])) := (same_new hl1 _).trans (same_new hl2 _)
  have hl2H : H l2 = none := (same_new hl1 _).free hl2
  have n2p : l2 ≠ p := fun e => by rw [e, hp0] at hl2H; cases hl2H
  have n1p : l1 ≠ p := fun e => by rw [e, hp0] at hl1; cases hl1
  have n12 : l1 ≠ l2 := ne_of_none upd_same hl2
  refine ⟨_, rfl, _, rfl, l1, _, rfl, .inl (SqL.of e1), _, _, rfl, ?_⟩
  rw [List.length_map]
  have jb : ∃ j : Nat, (if ((ss.length : Nat) : Int) < m then ((ss.length : Nat) : Int) else m) = (j : Int) ∧ j ≤ ss.length ∧ j ≤ m.toNat := by
    split
    · exact ⟨ss.length, rfl, Nat.le_refl _, by omega⟩
    · exact ⟨m.toNat, by omega, by omega, Nat.le_refl _⟩
  obtain ⟨j, ej, j1, j2⟩ := jb
  rw [ej]
  refine ⟨_, rfl, by omega, by omega, ?_⟩
  refine for_range (lo := 0) (n := j) (fun i σ H1 => ∃ (tv : Option V) (ls fs : List Str), σ = [some (.ref p), some (.ref a), some (.int m), some (.ref l1), some (.ref l2), tv] ∧ H1 l1 = some (.lst (ls.map V.str)) ∧ H1 l2 = some (.lst (fs.map V.str)) ∧
      ls.length + i = ss.length ∧ fs.length = i ∧ (∀ s ∈ ls, s ∈ ss) ∧ (∀ s ∈ fs, s ∈ ss) ∧ Ch p H H1 ∧ PotAt H1 p (c + i))
    ⟨none, ss, [], rfl, e1, upd_same, rfl, rfl, (fun _ h => h), (fun _ h => nomatch h), .same k0, hp.same k0⟩ ?turn ?after
  case turn =>
    rintro i σ H1 hi ⟨tv, ls, fs, rfl, h3, h2, el, ef, s1, s2, k1, hp1⟩
    have hl0 : 1 ≤ ls.length := by omega
    refine ⟨_, rfl, .inl ⟨rfl, _, SqL.of h2⟩, _, rfl, .inl ⟨rfl, _, SqL.of h3⟩, _, rfl, _, rfl, l1, _, rfl, .inl (SqL.of h3), p, _, c + i, rfl, by rw [List.length_map]; omega, by rw [List.length_map]; omega, hp1, by omega, fun n H2 n0 n1 k2 hp2 => ?_⟩
    rw [List.length_map] at n1
    have hn : n.toNat < ls.length := by omega
    have h32 := k2 _ _ n1p h3
    have h22 := k2 _ _ n2p h2
    have hix : seqIndex? n (ls.map V.str).length = some n.toNat := by
      rw [List.length_map]
      exact seqIx_nat n0 hn
    refine ⟨l1, _, n, n.toNat, .str ls[n.toNat], rfl, rfl, h32, by omega, by omega, hix, by rw [List.getElem?_map, List.getElem?_eq_getElem hn] <;> rfl, ?_⟩
    have e22 : upd H2 l1 (.lst ((ls.map V.str).eraseIdx n.toNat)) l2 = some (.lst (fs.map V.str)) := by
      rw [upd_ne (Ne.symm n12)]
      exact h22
    refine ⟨l2, _, _, rfl, rfl, e22, by rw [List.length_map]; exact small1000 (by omega), ?_⟩
    refine ⟨_, ls.eraseIdx n.toNat, fs ++ [ls[n.toNat]], rfl, ?_, ?_, ?_, by rw [List.length_append, ef]; rfl, fun t ht => s1 t (List.mem_of_mem_eraseIdx ht), fun t ht => ?_, fun b o nb e => ?_, ?_⟩
    · rw [upd_ne n12, upd_same, ← map_erase]
    · rw [upd_same, List.map_append]
      rfl
    · rw [List.length_eraseIdx_of_lt hn]
      omega
    · rcases List.mem_append.mp ht with z | z
      · exact s2 t z
      · rw [List.mem_singleton.mp z]
        exact s1 _ (List.getElem_mem hn)
    · have nb2 : b ≠ l2 := ne_of_none e hl2H
      have nb1 : b ≠ l1 := ne_of_none e hl1
      rw [upd_ne nb2, upd_ne nb1]
      exact k2 _ _ nb (k1 _ _ nb e)
    · obtain ⟨x1, x2, x3, z1, z2, z3, z4, z5⟩ := hp2
      exact ⟨x1, x2, x3, by rw [upd_ne (Ne.symm n2p), upd_ne (Ne.symm n1p)]; exact z1, z2, z3, z4, by omega⟩
  case after =>
    rintro σ H1 ⟨tv, ls, fs, rfl, h3, h2, el, ef, s1, s2, k1, hp1⟩
    exact ⟨_, rfl, q l2 fs H1 h2 hl2H n2p (by omega) s2 k1 (hp1.mono (by omega))⟩
end
end K00
set_option Elab.async false
set_option linter.all false
set_option maxRecDepth 100000
set_option maxHeartbeats 4000000
/-! G87A: texts as their signs. -/
namespace K87
open PySem PySem.Spec L2 K00 TL
/-- put together with something between -/
def jn (sep : List Nat) : List (List Nat) → List Nat
  | [] => []
  | [x] => x
  | x :: y :: r => x ++ sep ++ jn sep (y :: r)
theorem join_tl (y : Str) : ∀ parts : List Str, tl (Txt.join y parts) = jn (tl y) (parts.map tl) := by
  intro parts
  rw [join_eq]
  induction parts with
  | nil => rfl
  | cons w r ih =>
    cases r with
    | nil => rfl
    | cons v t =>
      show tl (w ++ y ++ Str.join y (v :: t)) = tl w ++ tl y ++ jn (tl y) ((v :: t).map tl)
      rw [tl_append, tl_append, ih]
theorem jn_mem {sep : List Nat} {c : Nat} : ∀ {xs : List (List Nat)}, c ∈ jn sep xs → c ∈ sep ∨ ∃ x ∈ xs, c ∈ x
  | [], h => by cases h
  | [x], h => .inr ⟨x, List.mem_cons_self, h⟩
  | x :: y :: r, h => by
    rcases List.mem_append.mp (show c ∈ (x ++ sep) ++ jn sep (y :: r) from h) with z | z
    · rcases List.mem_append.mp z with z | z
      · exact .inr ⟨x, List.mem_cons_self, z⟩
      · exact .inl z
    · rcases jn_mem z with h | ⟨a, ha, hc⟩
      · exact .inl h
      · exact .inr ⟨a, List.mem_cons_of_mem _ ha, hc⟩
theorem jn_len {sep : List Nat} : ∀ (xs : List (List Nat)), (jn sep xs).length ≤ (xs.map fun x => x.length + sep.length).sum
  | [] => Nat.zero_le _
  | [x] => by show x.length ≤ _; simp
  | x :: y :: r => by
    have h := jn_len (sep := sep) (y :: r)
    show ((x ++ sep) ++ jn sep (y :: r)).length ≤ _
    rw [List.length_append, List.length_append, List.map_cons, List.sum_cons]
    omega
theorem as7_iff {s : Str} : as7 s = true ↔ ∀ c ∈ tl s, c < 128 := by
  constructor
  · exact fun h c hc => Nat.blt_eq.mp (List.all_eq_true.mp h c hc)
  · exact fun h => List.all_eq_true.mpr fun c hc => Nat.blt_eq.mpr (h c hc)
theorem as7_join {y : Str} {parts : List Str} (hy : as7 y = true) (h : ∀ p ∈ parts, as7 p = true) : as7 (Txt.join y parts) = true := as7_iff.mpr fun c hc => by
  rw [join_tl] at hc
  rcases jn_mem hc with z | ⟨x, hx, z⟩
  · exact as7_iff.mp hy c z
  · obtain ⟨p, hp, rfl⟩ := List.mem_map.mp hx
    exact as7_iff.mp (h p hp) c z
theorem sum_le7 {c : Nat} : ∀ {xs : List Nat}, (∀ x ∈ xs, x ≤ c) → xs.sum ≤ xs.length * c
  | [], _ => by simp
  | x :: r, h => by
    have h1 := h x List.mem_cons_self
    have h2 := sum_le7 (c := c) (xs := r) fun y hy => h y (List.mem_cons_of_mem _ hy)
    rw [List.sum_cons, List.length_cons, Nat.add_mul]
    omega
theorem join_len7 {y : Str} {c : Nat} (parts : List Str) (h : ∀ p ∈ parts, p.length ≤ c) : (Txt.join y parts).length ≤ parts.length * (c + y.length) := by
  rw [len_tl, join_tl]
  refine Nat.le_trans (jn_len _) ?_
  have := sum_le7 (c := c + y.length) (xs := (parts.map tl).map fun x => x.length + (tl y).length) fun z hz => by
    obtain ⟨x, hx, rfl⟩ := List.mem_map.mp hz
    obtain ⟨p, hp, rfl⟩ := List.mem_map.mp hx
    have := h p hp
    rw [← len_tl, ← len_tl]
    omega
  rwa [List.length_map, List.length_map] at this
theorem as7_ok {s : Str} (h : as7 s = true) : PyData.strOk s = true := by
  unfold PyData.strOk
  refine Array.all_eq_true'.mpr fun c hc => ?_
  have := as7_iff.mp h c (by show c ∈ s.cps.toList; exact Array.mem_toList_iff.mpr hc)
  exact decide_eq_true (by omega)
theorem repr_len7 {s : Str} (h : as7 s = true) : (reprText s).length ≤ 10 * s.length + 2 := StrLaws.reprText_len s fun c hc => Nat.lt_trans (as7_iff.mp h c hc) (by decide)
/-- a text that may be drawn -/
theorem th_str {s : Str} (h : as7 s = true) (l : s.length ≤ 19) : Th 0 1 200 (.str s) :=
  ⟨rfl, ⟨⟨by omega, as7_ok h⟩, Nat.le_refl _, Nat.le_refl _, rfl, by have := repr_len7 h; show (reprText s).length ≤ 200; omega⟩, ⟨by omega, h⟩⟩
def ts (i : Int) : Str := Str.ofString (toString i)
theorem ts_len {i : Int} (h : i.natAbs ≤ 2000000000000000000) : (ts i).length ≤ 20 := by
  have z := PySem.int_text_length_le10 (a := i) (k := 19) (by decide) (Nat.lt_of_le_of_lt h (by decide))
  have e : (ts i).length = (toString i).length := by
    rw [len_tl]
    show ((Str.ofString (toString i)).cps.toList).length = _
    rw [PyProof.Rows.signs_ofString, List.length_map]
    exact String.length_toList
  omega
theorem log_le7 {i : Int} (h : i.natAbs ≤ 2000000000000000000) : i.natAbs.log2 < 1920 := by
  by_cases z : i.natAbs = 0
  · rw [z]
    decide
  · have := (Nat.log2_lt z (k := 62)).mpr (by omega)
    omega
theorem th_int {i : Int} (h : i.natAbs ≤ 2000000000000000000) : Th 0 1 200 (.int i) :=
  ⟨rfl, ⟨trivial, Nat.le_refl _, Nat.le_refl _, decide_eq_true (log_le7 h), by have := ts_len h; show (ts i).length ≤ 200; omega⟩, h⟩
end K87
set_option Elab.async false
set_option linter.all false
set_option maxRecDepth 100000
set_option maxHeartbeats 4000000
/-! G87D: the text of a document, as its signs. -/
namespace K87
open PySem PySem.Spec L2 K00 TL
open PyProof.Rows (envOfC sortedS)
/-- a string's signs, quotes and strokes after a stroke -/
def esc : List Nat → List Nat
  | [] => []
  | c :: r => (if c = 34 ∨ c = 92 then [92, c] else [c]) ++ esc r
theorem esc_append : ∀ a b : List Nat, esc (a ++ b) = esc a ++ esc b
  | [], _ => rfl
  | c :: r, b => by
    show (if c = 34 ∨ c = 92 then [92, c] else [c]) ++ esc (r ++ b) = ((if c = 34 ∨ c = 92 then [92, c] else [c]) ++ esc r) ++ esc b
    rw [esc_append r b, List.append_assoc]
theorem esc_len : ∀ a : List Nat, (esc a).length ≤ 2 * a.length
  | [] => Nat.le_refl _
  | c :: r => by
    have := esc_len r
    show ((if c = 34 ∨ c = 92 then [92, c] else [c]) ++ esc r).length ≤ _
    rw [List.length_append, List.length_cons]
    split <;> simp <;> omega
/-- the text of a flat one -/
def wFlat : PyData → List Nat
  | .none => [45]
  | .bool b => if b = true then [121, 101, 115] else [110, 111]
  | .int i => tl (ts i)
  | .str s => 34 :: (esc (tl s) ++ [34])
  | _ => []
mutual
def txI : PyData → List Nat
  | .tuple xs => txT xs
  | _ => []
def txT : List PyData → List Nat
  | [] => []
  | t :: r => match t with
    | .str t => if t = ("word" : Str) then (match r with
        | [.str u] => if u = ("None" : Str) then [45] else if u = ("True" : Str) then [121, 101, 115] else [110, 111]
        | _ => [])
      else if t = ("list" : Str) then 91 :: (jn [44, 32] (txL r) ++ [93])
      else if t = ("record" : Str) then 123 :: (jn [44, 32] (txR r) ++ [125])
      else (match r with
        | [u] => wFlat u
        | _ => [])
    | _ => []
def txL : List PyData → List (List Nat)
  | [] => []
  | x :: r => txI x :: txL r
def txR : List PyData → List (List Nat)
  | [] => []
  | x :: r => txQ x :: txR r
def txQ : PyData → List Nat
  | .tuple ys => txP ys
  | _ => []
def txP : List PyData → List Nat
  | [] => []
  | k :: r => tl (kS k) ++ (58 :: 32 :: (txL r).flatten)
end
theorem txL_eq : ∀ xs, txL xs = xs.map txI
  | [] => rfl
  | x :: r => by rw [txL, txL_eq r, List.map_cons]
theorem txR_eq : ∀ xs, txR xs = xs.map txQ
  | [] => rfl
  | x :: r => by rw [txR, txR_eq r, List.map_cons]
/-- the text of a document -/
def wr (d : PyData) : List Nat := txI (inkD d)
theorem wr_ink {d e : PyData} (h : inkD d = inkD e) : wr d = wr e := congrArg txI h
theorem wr_non : wr .none = [45] := by decide +kernel
theorem wr_bool (b : Bool) : wr (.bool b) = if b = true then [121, 101, 115] else [110, 111] := by cases b <;> decide +kernel
theorem wr_int (i : Int) : wr (.int i) = tl (ts i) := rfl
theorem wr_str (s : Str) : wr (.str s) = 34 :: (esc (tl s) ++ [34]) := rfl
theorem wr_list (xs : List PyData) : wr (.list xs) = 91 :: (jn [44, 32] (xs.map wr) ++ [93]) := by
  show txI (inkD (.list xs)) = _
  rw [inkD, inkL_eq]
  show 91 :: (jn [44, 32] (txL (xs.map inkD)) ++ [93]) = _
  rw [txL_eq, List.map_map]
  rfl
def wrow (ds : List (PyData × PyData)) (k : Str) : List Nat := tl k ++ (58 :: 32 :: wr (lookD ds k))
theorem wr_dict {ds : List (PyData × PyData)} {ys : List Str} (n : (ds.map fun p => kS p.1).Nodup) (hp : ys.Perm (ds.map fun p => kS p.1)) (hs : sortedS ys = true) :
    wr (.dict ds) = 123 :: (jn [44, 32] (ys.map (wrow ds)) ++ [125]) := by
  show txI (inkD (.dict ds)) = _
  rw [ink_dict n hp hs]
  show 123 :: (jn [44, 32] (txR (ys.map fun k => pairT (k, inkD (lookD ds k)))) ++ [125]) = _
  rw [txR_eq, List.map_map]
  congr 3
  refine List.map_congr_left fun k _ => ?_
  show tl k ++ (58 :: 32 :: ([txI (inkD (lookD ds k))] : List (List Nat)).flatten) = _
  rw [List.flatten_cons, List.flatten_nil, List.append_nil]
  rfl
/-- a text out of its signs -/
abbrev mk (l : List Nat) : Str := ⟨l.toArray⟩
theorem mk_eq {s : Str} {l : List Nat} (h : tl s = l) : s = mk l := ext_tl h
/-! ### how long -/
def wL : Nat → Nat
  | 0 => 100
  | n + 1 => 2 + 4 * (wL n + 12)
theorem wL_pos : ∀ n, 100 ≤ wL n
  | 0 => Nat.le_refl _
  | n + 1 => by have := wL_pos n; unfold wL; omega
theorem name_len {k : Str} (h : nameB k = true) : (tl k).length ≤ 8 := by
  unfold nameB at h
  obtain ⟨_, h⟩ := He.ba h
  obtain ⟨h, _⟩ := He.ba h
  rw [← len_tl]
  exact of_decide_eq_true h
end K87
set_option Elab.async false
set_option linter.all false
set_option maxRecDepth 100000
set_option maxHeartbeats 4000000
/-! G88E: documents of any depth that texts are told of. -/
namespace K00
open PySem PySem.Spec L2
theorem isOne_list {xs : List PyData} (h : ∀ x ∈ xs, isOne x = true) : isOne (.list xs) = true := by
  rw [isOne_kids]
  show (true && xs.all isOne) = true
  rw [Bool.true_and]
  exact List.all_eq_true.mpr h
theorem isOne_dict {ds : List (PyData × PyData)} (h : ∀ p ∈ ds, (∃ s, p.1 = .str s ∧ nameB s = true) ∧ isOne p.2 = true) : isOne (.dict ds) = true := by
  rw [isOne_kids]
  refine Bool.and_eq_true_iff.mpr ⟨List.all_eq_true.mpr fun p hp => ?_, List.all_eq_true.mpr fun x hx => ?_⟩
  · obtain ⟨⟨s, e, hs⟩, _⟩ := h p hp
    rw [e]
    exact hs
  · obtain ⟨p, hp, rfl⟩ := List.mem_map.mp hx
    exact (h p hp).2
end K00
namespace K87
open PySem PySem.Spec L2 K00 TL
open PyProof.Rows (envOfC sortedS)
theorem depth_in7 {x : PyData} : ∀ {xs : List PyData}, x ∈ xs → x.depth ≤ PyData.depthAll xs
  | y :: r, h => by
    simp only [PyData.depthAll]
    rcases List.mem_cons.mp h with rfl | h
    · omega
    · have := depth_in7 h
      omega
theorem depthKv_in7 {p : PyData × PyData} : ∀ {xs : List (PyData × PyData)}, p ∈ xs → p.2.depth ≤ PyData.depthKv xs
  | (k, v) :: r, h => by
    simp only [PyData.depthKv]
    rcases List.mem_cons.mp h with rfl | h
    · show v.depth ≤ _
      omega
    · have := depthKv_in7 h
      omega
theorem depth_kids7 {d x : PyData} (h : x ∈ kids d) : x.depth < d.depth := by
  cases d with
  | list xs =>
    have := depth_in7 (show x ∈ xs from h)
    simp only [PyData.depth]
    omega
  | dict ds =>
    obtain ⟨p, hp, rfl⟩ := List.mem_map.mp h
    have := depthKv_in7 hp
    simp only [PyData.depth]
    omega
  | _ => cases h
mutual
/-- numbers that can be told, texts of signs below 128 -/
def Iq : PyData → Prop
  | .none => True
  | .bool _ => True
  | .int i => i.natAbs.log2 < 1920
  | .str s => as7 s = true
  | .tuple _ => False
  | .list xs => IqL xs
  | .dict ds => IqK ds
def IqL : List PyData → Prop
  | [] => True
  | x :: r => Iq x ∧ IqL r
def IqK : List (PyData × PyData) → Prop
  | [] => True
  | (_, v) :: r => Iq v ∧ IqK r
end
theorem iqL_iff : ∀ {xs : List PyData}, IqL xs ↔ ∀ x ∈ xs, Iq x
  | [] => by simp [IqL]
  | x :: r => by simp [IqL, iqL_iff (xs := r)]
theorem iqK_iff : ∀ {xs : List (PyData × PyData)}, IqK xs ↔ ∀ p ∈ xs, Iq p.2
  | [] => by simp [IqK]
  | (a, v) :: r => by simp [IqK, iqK_iff (xs := r)]
/-- the fields, sorted -/
def fls (ds : List (PyData × PyData)) : List Str := (isort (inkK ds)).map (·.1)
theorem fls_perm (ds : List (PyData × PyData)) : (fls ds).Perm (ds.map fun p => kS p.1) := isort_keys ds
theorem fls_sorted (ds : List (PyData × PyData)) : sortedS (fls ds) = true := PyProof.Rows.sortedS_of_pairwise _ (isort_keys_sorted ds)
theorem wr_dictF {ds : List (PyData × PyData)} (n : (ds.map fun p => kS p.1).Nodup) : wr (.dict ds) = 123 :: (jn [44, 32] ((fls ds).map (wrow ds)) ++ [125]) := wr_dict n (fls_perm ds) (fls_sorted ds)
theorem smN_kids {k : Nat} {d x : PyData} (h : SmN k d) (hx : x ∈ kids d) : SmN k x := by
  cases d with
  | list xs => exact smNL_iff.mp h.2 x hx
  | dict ds =>
    obtain ⟨p, hp, rfl⟩ := List.mem_map.mp hx
    exact (smNK_iff.mp h.2.2 p hp).2
  | _ => cases hx
theorem jn_sum {sep : List Nat} : ∀ ys : List (List Nat), (ys.map List.length).sum ≤ (jn sep ys).length
  | [] => Nat.le_refl _
  | [x] => by simp [jn]
  | x :: y :: r => by
    have h := jn_sum (sep := sep) (y :: r)
    show _ ≤ ((x ++ sep) ++ jn sep (y :: r)).length
    rw [List.length_append, List.length_append, List.map_cons, List.sum_cons]
    omega
theorem mem_sum {y : List Nat} : ∀ {ys : List (List Nat)}, y ∈ ys → y.length ≤ (ys.map List.length).sum
  | z :: r, h => by
    rw [List.map_cons, List.sum_cons]
    rcases List.mem_cons.mp h with rfl | h
    · omega
    · have := mem_sum h
      omega
/-- a document that a text may be told of -/
structure Tz (d : PyData) : Prop where
  one : isOne d = true
  sm : SmN 1000 d
  iq : Iq d
  len : (wr d).length ≤ 100000
theorem Tz.key {ds : List (PyData × PyData)} (h : isOne (.dict ds) = true) {k : Str} (hk : k ∈ ds.map fun p => kS p.1) : nameB k = true ∧ ∃ p ∈ ds, kS p.1 = k ∧ lookD ds k = p.2 ∧ p.2 ∈ kids (.dict ds) := by
  obtain ⟨p, h1, h2, h3⟩ := lookD_mem hk
  have := isOne_keys h p h1
  rw [keyB_str this] at this
  rw [h2] at this
  exact ⟨this, p, h1, h2, h3, List.mem_map.mpr ⟨p, h1, rfl⟩⟩
theorem kid_len {d x : PyData} (od : isOne d = true) (sm : SmN 1000 d) (hx : x ∈ kids d) : (wr x).length + 2 ≤ (wr d).length := by
  cases d with
  | list xs =>
    have h1 := mem_sum (ys := xs.map wr) (List.mem_map.mpr ⟨x, hx, rfl⟩)
    have h2 := jn_sum (sep := [44, 32]) (xs.map wr)
    rw [wr_list, List.length_cons, List.length_append, List.length_singleton]
    omega
  | dict ds =>
    obtain ⟨p, hp, rfl⟩ := List.mem_map.mp hx
    have hk : kS p.1 ∈ fls ds := (fls_perm ds).mem_iff.mpr (List.mem_map.mpr ⟨p, hp, rfl⟩)
    have h1 := mem_sum (ys := (fls ds).map (wrow ds)) (List.mem_map.mpr ⟨_, hk, rfl⟩)
    have h2 := jn_sum (sep := [44, 32]) ((fls ds).map (wrow ds))
    have h3 : (wrow ds (kS p.1)).length = (tl (kS p.1)).length + ((wr (lookD ds (kS p.1))).length + 2) := by
      unfold wrow
      rw [List.length_append, List.length_cons, List.length_cons]
    rw [lookD_of sm.2.1 hp] at h3
    rw [wr_dictF sm.2.1, List.length_cons, List.length_append, List.length_singleton]
    omega
  | _ => cases hx
theorem Tz.kid {d x : PyData} (h : Tz d) (hx : x ∈ kids d) : Tz x := by
  refine ⟨isOne_kidsOf h.one x hx, smN_kids h.sm hx, ?_, by have := kid_len h.one h.sm hx; have := h.len; omega⟩
  have s := h.iq
  cases d with
  | list xs => exact iqL_iff.mp s x hx
  | dict ds =>
    obtain ⟨p, hp, rfl⟩ := List.mem_map.mp hx
    exact iqK_iff.mp s p hp
  | _ => cases hx
end K87
set_option Elab.async false
set_option linter.all false
set_option maxRecDepth 100000
set_option maxHeartbeats 8000000
/-! G88F: pairs, looking up. -/
namespace K00
open PySem PySem.Spec L2
open PyProof.Rows (envOfC sortedS)
theorem paired_rev {α β : Type} {F : α → β → Prop} : ∀ {xs : List α} {ys : List β}, Paired F xs ys → Paired F xs.reverse ys.reverse
  | _, _, .nil => .nil
  | _, _, .cons a t => by
    rw [List.reverse_cons, List.reverse_cons]
    exact paired_append (paired_rev t) (.cons a .nil)
theorem DaE.append {P : Program} {w : World} {H : Hp} : ∀ {xs ys : List (V × V)} {ds es : List (PyData × PyData)}, DaE P w H xs ds → DaE P w H ys es → DaE P w H (xs ++ ys) (ds ++ es)
  | _, _, _, _, .nil, q => q
  | _, _, _, _, .cons k h r, q => .cons k h (DaE.append r q)
theorem DaE.rev {P : Program} {w : World} {H : Hp} : ∀ {xs : List (V × V)} {ds : List (PyData × PyData)}, DaE P w H xs ds → DaE P w H xs.reverse ds.reverse
  | _, _, .nil => .nil
  | _, _, .cons k h r => by
    rw [List.reverse_cons, List.reverse_cons]
    exact (DaE.rev r).append (.cons k h .nil)
theorem put_new {kvs : List (Key × V)} {k : Key} {v : V} (h : k ∉ kvs.map (·.1)) : putK kvs k v = kvs ++ [(k, v)] := by
  unfold putK
  rw [if_neg]
  intro z
  obtain ⟨kv, hkv, e⟩ := List.any_eq_true.mp z
  exact h (List.mem_map.mpr ⟨kv, hkv, of_decide_eq_true e⟩)
theorem merge_new : ∀ {more kvs : List (Key × V)}, ((kvs ++ more).map (·.1)).Nodup → mergeK kvs more = kvs ++ more
  | [], kvs, _ => by simp [mergeK]
  | (k, v) :: r, kvs, h => by
    have h1 : k ∉ kvs.map (·.1) := fun z => by
      rw [List.map_append, List.map_cons] at h
      have := (List.pairwise_append.mp h).2.2 k z k List.mem_cons_self
      exact this rfl
    show mergeK (putK kvs k v) r = _
    rw [put_new h1, merge_new (by rw [List.append_assoc]; exact h), List.append_assoc]
    rfl
theorem paired_map_eq {α β γ : Type} {F : α → β → Prop} {g : α → γ} {h : β → γ} : ∀ {xs : List α} {ys : List β}, Paired F xs ys → (∀ a b, F a b → g a = h b) → xs.map g = ys.map h
  | _, _, .nil, _ => rfl
  | _, _, .cons a t, q => by rw [List.map_cons, List.map_cons, q _ _ a, paired_map_eq t q]
theorem paired_memR {α β : Type} {F : α → β → Prop} : ∀ {xs : List α} {ys : List β}, Paired F xs ys → ∀ {y : β}, y ∈ ys → ∃ x ∈ xs, F x y
  | _, _, .cons h t, y, hy => by
    rcases List.mem_cons.mp hy with e | hy
    · rw [e]; exact ⟨_, List.mem_cons_self, h⟩
    · obtain ⟨x, h1, h2⟩ := paired_memR t hy
      exact ⟨x, List.mem_cons_of_mem _ h1, h2⟩
theorem paired_memL {α β : Type} {F : α → β → Prop} : ∀ {xs : List α} {ys : List β}, Paired F xs ys → ∀ {x : α}, x ∈ xs → ∃ y ∈ ys, F x y
  | _, _, .cons h t, y, hy => by
    rcases List.mem_cons.mp hy with e | hy
    · rw [e]; exact ⟨_, List.mem_cons_self, h⟩
    · obtain ⟨x, h1, h2⟩ := paired_memL t hy
      exact ⟨x, List.mem_cons_of_mem _ h1, h2⟩
theorem look_all {P : Program} {w : World} {H : Hp} {kvs : List (Key × V)} {ds : List (PyData × PyData)} {k : Str} (r : DaE P w H (kvs.map fun p => (kV p.1, p.2)) ds) (e : kvs.map (·.1) = (ds.map fun p => kS p.1).map Sum.inr)
    (n : (ds.map fun p => kS p.1).Nodup) (hk : k ∈ ds.map fun p => kS p.1) : ∃ v p, valV kvs (Sum.inr k) = some v ∧ p ∈ ds ∧ kS p.1 = k ∧ lookD ds k = p.2 ∧ Da P w H v p.2 := by
  obtain ⟨v, h1, h2⟩ := look_val r e hk
  obtain ⟨p, h3, h4, h5⟩ := lookD_mem hk
  rw [h5] at h2
  exact ⟨v, p, h1, h3, h4, h5, h2⟩
end K00
set_option Elab.async false
set_option linter.all false
set_option maxRecDepth 100000
set_option maxHeartbeats 8000000
/-! G88G: _law_writ of any depth. -/
namespace K87
open PySem PySem.Spec L2 K00 TL
open PyProof.Rows (envOfC sortedS)
/-- a text once or not at all -/
def rMulB : R2 := fun x y H Q => ∃ (a : Str) (b : Bool), x = .str a ∧ y = .int (if b = true then 1 else 0) ∧ Q (.str (if b = true then a else mk [])) H
theorem op_mulB {X : Cx} : OpR X (binaryOp .Mult) rMulB := by
  intro pins s σ H x y v u Q I rx ry h
  obtain ⟨a, b, rfl, rfl, q⟩ := h
  obtain ⟨t, rfl⟩ := rx
  obtain ⟨t', rfl⟩ := ry
  cases b with
  | true =>
    refine PySem.P.mul_str (by decide) (fun _ h => nomatch h) (fun _ h => nomatch h) ?_
    exact ⟨.str a, H, I, ⟨_, rfl⟩, q⟩
  | false =>
    refine PySem.P.mul_str (by decide) (fun h _ => absurd (by decide) h) (fun h _ => absurd (by decide) h) ?_
    exact ⟨by decide, .str (mk []), H, I.tok _, ⟨_, rfl⟩, q⟩
def e1 (c : Nat) : List Nat := if c = 34 ∨ c = 92 then [92, c] else [c]
theorem esc_flat : ∀ l : List Nat, esc l = (l.map e1).flatten
  | [] => rfl
  | c :: r => by
    show (if c = 34 ∨ c = 92 then [92, c] else [c]) ++ esc r = _
    rw [esc_flat r, List.map_cons, List.flatten_cons]
    rfl
theorem jn_nil : ∀ xs : List (List Nat), jn [] xs = xs.flatten
  | [] => rfl
  | [x] => by simp [jn]
  | x :: y :: r => by
    show x ++ [] ++ jn [] (y :: r) = _
    rw [jn_nil (y :: r), List.append_nil]
    rfl
theorem join_mk (y : Str) (ls : List (List Nat)) : tl (Txt.join y (ls.map mk)) = jn (tl y) ls := by
  rw [join_tl, List.map_map]
  congr 1
  exact List.map_id'' (fun _ => rfl) ls
theorem sum_len {ls : List (List Nat)} {c : Nat} (h : ∀ l ∈ ls, l.length ≤ c) : ((ls.map mk).map (·.length)).sum ≤ ls.length * c := by
  have := sum_le7 (c := c) (xs := (ls.map mk).map (·.length)) fun z hz => by
    obtain ⟨s, hs, rfl⟩ := List.mem_map.mp hz
    obtain ⟨l, hl, rfl⟩ := List.mem_map.mp hs
    show (mk l).length ≤ c
    rw [len_tl]
    exact h l hl
  rwa [List.length_map, List.length_map] at this
theorem mk_len (l : List Nat) : (mk l).length = l.length := rfl
theorem e1_eq (c : Nat) : (if decide (c ∈ tl ("\"\\" : Str)) = true then ("\\" : Str) else mk []) ++ mk [c] = mk (e1 c) := by
  have hs : tl ("\"\\" : Str) = [34, 92] := by decide +kernel
  have h1 : ("\\" : Str) = mk [92] := by decide +kernel
  rw [hs, h1]
  refine ext_tl ?_
  rw [tl_append]
  show tl (if _ then mk [92] else mk []) ++ [c] = e1 c
  unfold e1
  by_cases h : c = 34 ∨ c = 92
  · rw [if_pos h, if_pos (decide_eq_true (by simpa using h))]
    rfl
  · rw [if_neg h, if_neg (by simpa using h)]
    rfl
/-- two texts and something between -/
theorem between (a b : Nat) (l : List Nat) (A B M : Str) (hA : tl A = [a]) (hB : tl B = [b]) (hM : tl M = l) : (A ++ M) ++ B = mk (a :: (l ++ [b])) := by
  refine ext_tl ?_
  rw [tl_append, tl_append, hA, hB, hM]
  rfl
theorem jn_le {sep : List Nat} {ls : List (List Nat)} {c : Nat} (h : ∀ l ∈ ls, l.length ≤ c) : (jn sep ls).length ≤ ls.length * (c + sep.length) := by
  refine Nat.le_trans (jn_len _) ?_
  have := sum_le7 (c := c + sep.length) (xs := ls.map fun x => x.length + sep.length) fun z hz => by
    obtain ⟨x, hx, rfl⟩ := List.mem_map.mp hz
    have := h x hx
    omega
  rwa [List.length_map] at this
/-- texts put together, between two signs -/
theorem wrapZ {K : PySem.W.Frag} {H : Hp} {D : Addr} {A B y : Str} {a b : Nat} {ls : List (List Nat)} {Q : VK} (hD : H D = some (.lst (ls.map fun l => V.str (mk l)))) (hA : tl A = [a]) (hB : tl B = [b]) (hJ : (jn (tl y) ls).length ≤ 100000) (hn : ls.length ≤ 1000) (hy : y.length ≤ 2)
    (q : Q (.str (mk (a :: (jn (tl y) ls ++ [b])))) H) :
    ∃ (a' : Str) (p : Addr) (ys : List Str), V.str y = .str a' ∧ [V.ref D] = [.ref p] ∧ (SqL K H p (ys.map V.str) ∨ SqT K H p (ys.map V.str)) ∧ (ys.map fun x => x.length).sum + ys.length * a'.length ≤ 16777216 ∧
      ∃ i j, V.str A = .str i ∧ V.str (Txt.join a' ys) = .str j ∧ i.length + j.length ≤ sizeLine ∧ ∃ i' j', V.str (i ++ j) = .str i' ∧ V.str B = .str j' ∧ i'.length + j'.length ≤ sizeLine ∧ Q (.str (i' ++ j')) H := by
  have eL : (ls.map fun l => V.str (mk l)) = (ls.map mk).map V.str := by rw [List.map_map]; rfl
  rw [eL] at hD
  have e2 : tl (Txt.join y (ls.map mk)) = jn (tl y) ls := join_mk y ls
  have sl := jn_sum (sep := tl y) ls
  have es : ((ls.map mk).map fun x => x.length).sum = (ls.map List.length).sum := by
    rw [List.map_map]
    rfl
  have b3 : ls.length * y.length ≤ 1000 * 2 := Nat.mul_le_mul hn hy
  have lA : A.length = 1 := by rw [len_tl, hA]; rfl
  have lB : B.length = 1 := by rw [len_tl, hB]; rfl
  have big : (1000000 : Nat) ≤ sizeLine := by decide
  have lJ : (Txt.join y (ls.map mk)).length ≤ 100000 := by rw [len_tl, e2]; exact hJ
  refine ⟨y, D, ls.map mk, rfl, rfl, .inl (SqL.of hD), by rw [List.length_map, es]; omega, _, _, rfl, rfl, by omega, _, _, rfl, rfl, ?_, ?_⟩
  · have : (A ++ Txt.join y (ls.map mk)).length = A.length + (Txt.join y (ls.map mk)).length := by rw [len_tl, tl_append, List.length_append, ← len_tl, ← len_tl]
    omega
  · rw [between a b (jn (tl y) ls) A B _ hA hB e2]
    exact q
theorem jn_all {sep : List Nat} : ∀ {ls : List (List Nat)}, ls ≠ [] → (ls.map fun x => x.length + sep.length).sum = (jn sep ls).length + sep.length
  | [], h => absurd rfl h
  | [x], _ => by
    show x.length + sep.length + 0 = x.length + sep.length
    omega
  | x :: y :: r, _ => by
    have := jn_all (sep := sep) (ls := y :: r) (by simp)
    show x.length + sep.length + (((y :: r).map fun x => x.length + sep.length)).sum = ((x ++ sep) ++ jn sep (y :: r)).length + sep.length
    rw [List.length_append, List.length_append, this]
    omega
theorem sum_ge7 {c : Nat} : ∀ {xs : List Nat}, (∀ x ∈ xs, c ≤ x) → xs.length * c ≤ xs.sum
  | [], _ => by simp
  | x :: r, h => by
    have h1 := h x List.mem_cons_self
    have h2 := sum_ge7 (c := c) (xs := r) fun y hy => h y (List.mem_cons_of_mem _ hy)
    rw [List.sum_cons, List.length_cons, Nat.add_mul]
    omega
theorem dict_few {ds : List (PyData × PyData)} (od : isOne (.dict ds) = true) (sm : SmN 1000 (.dict ds)) (h : (wr (.dict ds)).length ≤ 300) : ds.length ≤ 60 := by
  have fl : (fls ds).length = ds.length := by rw [(fls_perm ds).length_eq, List.length_map]
  rw [wr_dictF sm.2.1, List.length_cons, List.length_append, List.length_singleton] at h
  by_cases hn : (fls ds).map (wrow ds) = []
  · have := congrArg List.length hn
    rw [List.length_map] at this
    simp only [List.length_nil] at this
    omega
  · have h1 := jn_all (sep := [44, 32]) hn
    have h2 := sum_ge7 (c := 5) (xs := ((fls ds).map (wrow ds)).map fun x => x.length + ([44, 32] : List Nat).length) fun z hz => by
      obtain ⟨x, hx, rfl⟩ := List.mem_map.mp hz
      obtain ⟨k, hk, rfl⟩ := List.mem_map.mp hx
      have hm := (fls_perm ds).mem_iff.mp hk
      have hnm := (Tz.key od hm).1
      unfold nameB at hnm
      obtain ⟨a, _⟩ := He.ba hnm
      have a : 1 ≤ k.length := of_decide_eq_true a
      rw [len_tl] at a
      unfold wrow
      rw [List.length_append, List.length_cons, List.length_cons]
      show 5 ≤ _ + 2
      omega
    rw [List.length_map, List.length_map] at h2
    have l2 : ([44, 32] : List Nat).length = 2 := rfl
    omega
section
variable {P : Program} {w : World} {K : PySem.W.Frag} {mg : Str → Option Value} {base : Heap} {f g g2 g3 : Addr} {fd gd gd2 gd3 : FuncData}
def spWrit (P : Program) (w : World) (n : Nat) : Sp := fun vs H Q _ => ∃ (x : V) (d : PyData), vs = [x] ∧ Da P w H x d ∧ Tz d ∧ (wr d).length ≤ 300 ∧ d.depth < n ∧ ∀ H', Same H H' → Q (.str (mk (wr d))) H'
abbrev NgW : List Str := ["_law_document", "_law_sign", "_law_part_here", "_law_field"]
theorem scWrit : FnScope NgW ["_law_document"] (defScope (top 38)) := ⟨rfl, rfl, rfl, by decide +kernel, rfl, by decide +kernel, by decide +kernel⟩
theorem ok_writ {n : Nat} (F : FnD K "_law_writ" 38 f fd) (B : Bl mg) (GR : FnOk P w K mg base CX0 n f fd ["_law_document"] (spWrit P w n)) (bR : Binds K fd ["_law_document"] []) (gR : mg "_law_writ" = some (.ref f)) :
    FnOk P w K mg base CX0 (n + 1) f fd ["_law_document"] (spWrit P w (n + 1)) := by
  refine F.ok scWrit (fun vs H Q E h => ?_) (fun cdv A outer s H vs Q E hr h => ?_)
  · obtain ⟨x, d, rfl, _⟩ := h
    rfl
  obtain ⟨x, d, rfl, hd, tx, s60, hw, q⟩ := h
  have hu := hu_of hr
  refine ⟨_, PSs.nox (pss_cons (ps_if (pt_cmpR op_isN (pv 0) pe_non (nomark _)) (pss_one (ps_ret pe_str)) pss_nil)
    (pss_cons (ps_if (pt_val (pe_callB call_isDa (by rfl) B.isi (by decide +kernel) (pa_cons (pv 0) (pa_cons (pe_bltn (v := .ty "bool") (by rfl) B.bool (by decide +kernel) rfl) pa_nil)))) (pss_one (ps_ret (pe_ifExp (pt_val (pv 0)) pe_str pe_str))) pss_nil)
    (pss_cons (ps_if (pt_val (pe_callB call_isDa (by rfl) B.isi (by decide +kernel) (pa_cons (pv 0) (pa_cons (pe_bltn (v := .ty "int") (by rfl) B.int (by decide +kernel) rfl) pa_nil)))) (pss_one (ps_ret (pe_callTy call_str_int (by rfl) B.str (by decide +kernel) (pa_cons (pv 0) pa_nil)))) pss_nil)
    (pss_cons (ps_if (pt_val (pe_callB call_isDa (by rfl) B.isi (by decide +kernel) (pa_cons (pv 0) (pa_cons (pe_bltn (v := .ty "str") (by rfl) B.str (by decide +kernel) rfl) pa_nil)))) (pss_one (ps_ret (pe_op op_add_str (pe_op op_add_str pe_str (pe_join pe_str
        (pe_lc (own := [("_law_sign", 1)]) (g := gName 1) (tt := tYes) rfl scWrit.nd (pi_str (pv 0)) (blkOk_by (N := NgW) (sc := defScope (top 38)) (by decide +kernel))
            (fun _ _ _ _ _ => pg_name (i := 1) scWrit.nd rfl (Or.inl rfl)) (fun _ _ _ _ _ => pts_nil)
            (fun _ _ _ _ _ => pe_op op_add_str (pe_op op_mulB pe_str (pe_callTy call_int1 (by rfl) B.int (by decide +kernel) (pa_cons (pe_cmpR op_in_sign (pv 1) pe_str (by rfl)) pa_nil))) (pv 1))))) pe_str))) pss_nil)
    (pss_cons (ps_if (pt_val (pe_callB call_isDa (by rfl) B.isi (by decide +kernel) (pa_cons (pv 0) (pa_cons (pe_bltn (v := .ty "list") (by rfl) B.list (by decide +kernel) rfl) pa_nil)))) (pss_one (ps_ret (pe_op op_add_str (pe_op op_add_str pe_str (pe_join pe_str
        (pe_lc (own := [("_law_part_here", 2)]) (g := gName 2) (tt := tYes) rfl scWrit.nd (pi_list (pv 0)) (blkOk_by (N := NgW) (sc := defScope (top 38)) (by decide +kernel))
            (fun _ _ _ _ _ => pg_name (i := 2) scWrit.nd rfl (Or.inl rfl)) (fun _ _ _ _ _ => pts_nil)
            (fun _ _ _ _ _ => pe_call GR hr rfl gR F.kp bR .nil pass0 (pa_cons (pv 2) pa_nil))))) pe_str))) pss_nil)
    (pss_one (ps_ret (pe_op op_add_str (pe_op op_add_str pe_str (pe_join pe_str
        (pe_lc (own := [("_law_field", 3)]) (g := gName 3) (tt := tYes) rfl scWrit.nd (pi_list (pe_callB (call_sortedD rfl) (by rfl) B.sorted (by decide +kernel) (pa_cons (pv 0) pa_nil))) (blkOk_by (N := NgW) (sc := defScope (top 38)) (by decide +kernel))
            (fun _ _ _ _ _ => pg_name (i := 3) scWrit.nd rfl (Or.inl rfl)) (fun _ _ _ _ _ => pts_nil)
            (fun _ _ _ _ _ => pe_op op_add_str (pe_op op_add_str (pv 3) pe_str) (pe_call GR hr rfl gR F.kp bR .nil pass0 (pa_cons (pe_dget hu (pv 0) (pv 3) (fun _ _ => rfl)) pa_nil)))))) pe_str)))))))), ?_⟩
  have len2 : ∀ {a b : Str}, a.length + b.length ≤ 1000000 → a.length + b.length ≤ sizeLine := fun h => Nat.le_trans h (by decide)
  have d1 : tl ("\"" : Str) = [34] := by decide +kernel
  have l1_ : tl ("[" : Str) = [91] := by decide +kernel
  have l2 : tl ("]" : Str) = [93] := by decide +kernel
  have m1 : tl ("{" : Str) = [123] := by decide +kernel
  have m2 : tl ("}" : Str) = [125] := by decide +kernel
  have c1 : tl (", " : Str) = [44, 32] := by decide +kernel
  have z1 : tl ("" : Str) = [] := by decide +kernel
  have q0 := q H (same_refl H)
  cases hd with
  | non =>
    have e : (Str.ofString "-") = mk (wr .none) := by decide +kernel
    rw [← e] at q0
    exact ⟨_, rfl, rfl, _, rfl, iteT q0⟩
  | bl b =>
    refine ⟨_, rfl, rfl, _, rfl, iteF ⟨_, rfl, _, "bool", _, _, rfl, .bl b, kt_b _, _, rfl, iteT ⟨_, rfl, _, rfl, ?_⟩⟩⟩
    cases b with
    | true =>
      have e : (Str.ofString "yes") = mk (wr (.bool true)) := by decide +kernel
      rw [← e] at q0
      exact iteT q0
    | false =>
      have e : (Str.ofString "no") = mk (wr (.bool false)) := by decide +kernel
      rw [← e] at q0
      exact iteF q0
  | int i =>
    have e : ts i = mk (wr (.int i)) := (mk_tl (ts i)).symm
    rw [← e] at q0
    exact ⟨_, rfl, rfl, _, rfl, iteF ⟨_, rfl, _, "bool", _, _, rfl, .int i, kt_b _, _, rfl, iteF ⟨_, rfl, _, "int", _, _, rfl, .int i, kt_i _, _, rfl, iteT ⟨_, rfl, i, rfl, tx.iq, q0⟩⟩⟩⟩
  | str y =>
    refine ⟨_, rfl, rfl, _, rfl, iteF ⟨_, rfl, _, "bool", _, _, rfl, .str y, kt_b _, _, rfl, iteF ⟨_, rfl, _, "int", _, _, rfl, .str y, kt_i _, _, rfl, iteF ⟨_, rfl, _, "str", _, _, rfl, .str y, kt_s _, _, rfl, iteT ⟨⟨_, rfl⟩, _, rfl, y, rfl, fun D hD => ?_⟩⟩⟩⟩⟩
    have yl : y.length ≤ 1000 := tx.sm.1
    have yl2 : (tl y).length = y.length := (len_tl y).symm
    refine lc_it (walk_str (z := y)) (fun i H2 => Same H H2 ∧ H2 D = some (.lst ((((tl y).take i).map e1).map fun l => V.str (mk l)))) ⟨same_new hD _, by rw [upd_same]; rfl⟩ (fun _ _ _ _ => trivial) ?_ ?_
    · rintro i v H2 H2' hi ⟨k2, hD2⟩ ⟨rfl, c, hc, rfl⟩
      have hc' : (tl y)[i]? = some c := by rw [← hc]; exact Array.getElem?_toList ..
      refine ⟨rfl, ?_⟩
      simp only [tYes, if_true]
      refine ⟨_, rfl, c, _, rfl, rfl, .inr ⟨_, rfl, _, _, rfl, rfl, _, rfl, _, _, rfl, rfl, ?_, ?_⟩⟩
      · refine len2 ?_
        have e : ∀ b : Bool, (if b = true then (Str.ofString "\\") else mk []).length ≤ 1 := by intro b; cases b <;> decide
        have := e (decide (c ∈ tl ("\"\\" : Str)))
        show (if decide (c ∈ tl ("\"\\" : Str)) = true then (Str.ofString "\\") else mk []).length + (mk [c]).length ≤ _
        have : (mk [c]).length = 1 := rfl
        omega
      · refine ⟨_, hD2, K00.small1000 (by rw [List.length_map, List.length_map, List.length_take]; omega), fun b o e => ?_, ?_⟩
        · rw [upd_ne (ne_of_none e hD)]
          exact k2 _ _ e
        · rw [upd_same, List.take_add_one, hc']
          simp only [Option.toList_some, List.map_append, List.map_cons, List.map_nil]
          congr 4
          exact congrArg V.str (e1_eq c)
    · rintro H2 ⟨k2, hD2⟩
      have et : (tl y).take y.cps.size = tl y := List.take_of_length_le (Nat.le_refl _)
      rw [et] at hD2
      refine wrapZ (ls := (tl y).map e1) (by rw [hD2]) d1 d1 (by rw [z1, jn_nil, ← esc_flat]; have := esc_len (tl y); omega) (by rw [List.length_map]; omega) (by rw [len_tl, z1]; decide) ?_
      · rw [z1, jn_nil, ← esc_flat, ← wr_str]
        exact q _ k2
  | tup h r => exact (Bool.false_ne_true (show false = true from tx.one)).elim
  | @lst a o xs ds h r =>
    refine ⟨_, rfl, rfl, _, rfl, iteF ⟨_, rfl, _, "bool", _, _, rfl, .lst h r, kt_b _, _, rfl, iteF ⟨_, rfl, _, "int", _, _, rfl, .lst h r, kt_i _, _, rfl, iteF ⟨_, rfl, _, "str", _, _, rfl, .lst h r, kt_s _, _, rfl, iteF
      ⟨_, rfl, _, "list", _, _, rfl, .lst h r, kt_l _, _, rfl, iteT ⟨⟨_, rfl⟩, _, rfl, a, rfl, ⟨_, .inl (.inr ⟨o, h⟩)⟩, fun D hD => ?_⟩⟩⟩⟩⟩⟩
    have hl := r.length
    have l1 : ds.length ≤ 1000 := tx.sm.1
    have hJ : (jn (tl (", " : Str)) (ds.map wr)).length ≤ 100000 := by
      have h1 := tx.len
      rw [wr_list, List.length_cons, List.length_append] at h1
      rw [c1]
      omega
    refine lc_it (walk_list (K := K) (a := a) (xs := xs)) (fun i H2 => Same H H2 ∧ H2 D = some (.lst (((ds.take i).map wr).map fun l => V.str (mk l)))) ⟨same_new hD _, upd_same⟩ (fun _ H2 _ z => .inl (.inr ⟨o, z.1 _ _ h⟩)) ?_ ?_
    · rintro i v H2 H2' hi ⟨k2, hD2⟩ ⟨rfl, hv⟩
      obtain ⟨p, hpi, hvp⟩ := r.get hv
      have hm := List.mem_of_getElem? hpi
      refine ⟨rfl, ?_⟩
      simp only [tYes, if_true]
      refine ⟨_, rfl, v, p, rfl, hvp.kp (.same k2), tx.kid (d := .list ds) hm, by have := kid_len tx.one tx.sm (d := .list ds) hm; omega, by have := depth_kids7 (d := .list ds) hm; omega, fun H3 k3 => ⟨_, k3 _ _ hD2, K00.small1000 (by rw [List.length_map, List.length_map, List.length_take]; omega), fun b o' e => ?_, ?_⟩⟩
      · rw [upd_ne (ne_of_none e hD)]
        exact k3 _ _ (k2 _ _ e)
      · rw [upd_same, List.take_add_one, hpi]
        simp only [Option.toList_some, List.map_append, List.map_cons, List.map_nil]
    · rintro H2 ⟨k2, hD2⟩
      rw [hl, List.take_length] at hD2
      refine wrapZ hD2 l1_ l2 hJ (by rw [List.length_map]; exact l1) (by rw [len_tl, c1]; decide) ?_
      · rw [c1, ← wr_list]
        exact q _ k2
  | @dic a o es ds h r =>
    have hk := isOne_keys tx.one
    obtain ⟨kvs, hf, rfl, hks⟩ := doc_dict h r hk
    have s2 := tx.sm.2.1
    have s1 := dict_few tx.one tx.sm s60
    have hJ : (jn (tl (", " : Str)) ((fls ds).map (wrow ds))).length ≤ 100000 := by
      have h1 := tx.len
      rw [wr_dictF s2, List.length_cons, List.length_append] at h1
      rw [c1]
      omega
    refine ⟨_, rfl, rfl, _, rfl, iteF ⟨_, rfl, _, "bool", _, _, rfl, .dic h r, kt_b _, _, rfl, iteF ⟨_, rfl, _, "int", _, _, rfl, .dic h r, kt_i _, _, rfl, iteF ⟨_, rfl, _, "str", _, _, rfl, .dic h r, kt_s _, _, rfl, iteF
      ⟨_, rfl, _, "list", _, _, rfl, .dic h r, kt_l _, _, rfl, iteF ⟨⟨_, rfl⟩, _, rfl, a, kvs, _, rfl, .inr ⟨o, hf⟩, hks, by rw [List.length_map]; omega, fun ys lp hp1 hs1 hlp => ⟨lp, rfl, ⟨_, SqL.of upd_same⟩, fun D hD => ?_⟩⟩⟩⟩⟩⟩⟩
    have kL := same_new hlp (.lst (ys.map V.str))
    have hyl : ys.length ≤ 60 := by rw [hp1.length_eq, List.length_map]; exact s1
    have eys : ys = fls ds := sorted_same (hp1.trans (fls_perm ds).symm) (sorted_pair hs1) (isort_keys_sorted ds)
    refine lc_it (walk_list (K := K) (a := lp) (xs := ys.map V.str)) (fun i H2 => Same (upd H lp (.lst (ys.map V.str))) H2 ∧ H2 D = some (.lst (((ys.take i).map (wrow ds)).map fun l => V.str (mk l)))) ⟨same_new hD _, upd_same⟩ (fun _ H2 _ z => SqL.of (z.1 _ _ upd_same)) ?_ ?_
    · rintro i v H2 H2' hi ⟨k2, hD2⟩ ⟨rfl, hv⟩
      rw [List.length_map] at hi
      rw [List.getElem?_map, List.getElem?_eq_getElem hi] at hv
      cases hv
      have hy : ys[i]? = some ys[i] := List.getElem?_eq_getElem hi
      have hkm := hp1.mem_iff.mp (List.getElem_mem hi)
      generalize ys[i] = k at hy hkm
      obtain ⟨u, p, hu1, hpm, hpk, hpl, hpd⟩ := look_all r hks s2 hkm
      have hm : p.2 ∈ kids (.dict ds) := List.mem_map.mpr ⟨p, hpm, rfl⟩
      have kn := name_len (Tz.key tx.one hkm).1
      rw [← len_tl] at kn
      have kk := kL.trans k2
      have big : (1000000 : Nat) ≤ sizeLine := by decide
      have wp := (tx.kid hm).len
      refine ⟨rfl, ?_⟩
      simp only [tYes, if_true]
      have n1 : (": " : Str).length = 2 := by decide
      have n2 : (k ++ (": " : Str)).length = k.length + 2 := by rw [len_tl, tl_append, List.length_append, ← len_tl, ← len_tl, n1]
      refine ⟨_, rfl, _, _, rfl, rfl, by show k.length + (": " : Str).length ≤ _; omega, _, rfl, _, rfl, a, u, rfl, .inl ⟨kvs, Sum.inr k, .inr ⟨o, kk _ _ hf⟩, rfl, hu1.symm⟩, u, p.2, rfl, hpd.kp (.same kk), tx.kid hm, by have := kid_len tx.one tx.sm hm; omega, by have := depth_kids7 hm; omega, fun H3 k3 => ⟨_, _, rfl, rfl, ?_, _, k3 _ _ hD2, K00.small1000 (by rw [List.length_map, List.length_map, List.length_take]; omega), fun b o' e => ?_, ?_⟩⟩
      · rw [n2]
        show k.length + 2 + (wr p.2).length ≤ _
        omega
      · rw [upd_ne (ne_of_none e hD)]
        exact k3 _ _ (k2 _ _ e)
      · rw [upd_same, List.take_add_one, hy]
        simp only [Option.toList_some, List.map_append, List.map_cons, List.map_nil]
        congr 4
        refine congrArg V.str (ext_tl ?_)
        rw [tl_append, tl_append]
        show (tl k ++ tl (": " : Str)) ++ wr p.2 = tl k ++ (58 :: 32 :: wr (lookD ds k))
        have e58 : tl (": " : Str) = [58, 32] := by decide +kernel
        rw [hpl, e58, List.append_assoc]
        rfl
    · rintro H2 ⟨k2, hD2⟩
      rw [List.length_map, List.take_length] at hD2
      refine wrapZ hD2 m1 m2 (by rw [eys]; exact hJ) (by rw [List.length_map]; omega) (by rw [len_tl, c1]; decide) ?_
      · rw [c1, ← wr_dict s2 hp1 hs1]
        exact q _ (kL.trans k2)
end
end K87
set_option Elab.async false
set_option linter.all false
set_option maxRecDepth 100000
set_option maxHeartbeats 8000000
/-! G88H: leaf_text. -/
namespace K87
open PySem PySem.Spec L2 K00 TL CwR
open PyProof.Rows (envOfC sortedS)
theorem repl1 (c : Nat) (z : List Nat) : ∀ l : List Nat, PySem.StrLaws.replL [c] z l = (l.map fun x => if x = c then z else [x]).flatten
  | [] => PySem.StrLaws.replL_nil
  | x :: r => by
    rw [List.map_cons, List.flatten_cons, ← repl1 c z r]
    by_cases h : x = c
    · subst h
      rw [if_pos rfl, PySem.StrLaws.replL_hit (by simp) (by simp)]
      rfl
    · rw [if_neg h, PySem.StrLaws.replL_miss (by simpa using h)]
      rfl
theorem repl_esc (y : Str) : tl (Txt.replace (Txt.replace y ("\\" : Str) ("\\\\" : Str)) ("\"" : Str) ("\\\"" : Str)) = esc (tl y) := by
  have a1 : tl ("\\" : Str) = [92] := by decide +kernel
  have a2 : tl ("\\\\" : Str) = [92, 92] := by decide +kernel
  have a3 : tl ("\"" : Str) = [34] := by decide +kernel
  have a4 : tl ("\\\"" : Str) = [92, 34] := by decide +kernel
  have r1 := PySem.StrLaws.replace_list (x := Txt.replace y ("\\" : Str) ("\\\\" : Str)) (y := ("\"" : Str)) (z := ("\\\"" : Str)) (by decide)
  have r2 := PySem.StrLaws.replace_list (x := y) (y := ("\\" : Str)) (z := ("\\\\" : Str)) (by decide)
  have r1' : tl (Txt.replace (Txt.replace y ("\\" : Str) ("\\\\" : Str)) ("\"" : Str) ("\\\"" : Str)) = PySem.StrLaws.replL (tl ("\"" : Str)) (tl ("\\\"" : Str)) (tl (Txt.replace y ("\\" : Str) ("\\\\" : Str))) := r1
  have r2' : tl (Txt.replace y ("\\" : Str) ("\\\\" : Str)) = PySem.StrLaws.replL (tl ("\\" : Str)) (tl ("\\\\" : Str)) (tl y) := r2
  rw [r1', r2', a1, a2, a3, a4, repl1, repl1]
  generalize tl y = l
  induction l with
  | nil => rfl
  | cons c r ih =>
    rw [List.map_cons, List.flatten_cons, List.map_append, List.flatten_append, ih]
    show _ = (if c = 34 ∨ c = 92 then [92, c] else [c]) ++ esc r
    congr 1
    by_cases h1 : c = 92
    · subst h1
      decide
    · by_cases h2 : c = 34
      · subst h2
        decide
      · rw [if_neg h1, if_neg (by omega : ¬ (c = 34 ∨ c = 92)), List.map_cons, List.map_nil, if_neg h2]
        rfl
section
variable {X : Cx} {pos : Pos}
theorem pst_set {i : Nat} {x : Str} {e : Expr} {te : TE} {pos' : Pos} (hN : X.N.Nodup) (hi : X.N[i]? = some x) (hx : Loc X.env.scope x) (he : PET X e te) (hs : swapsWith e (some (.Name x pos')) pos.line X.env = pure false := by rfl) (hf : X.fn x = true ∨ X.env.scope.names.lookup x = some .local := by exact Or.inr rfl) :
    PST X (.Assign [.Name x pos'] e pos) (tAsg te (gName i)) := by
  intro pins s σ H D h0 I h
  refine wpAny_Assign_Name (thn (he pins s σ H _ h0 I h) fun v s1 ⟨y, H1, I1, r1, q1⟩ => ?_) hs
  exact store_ok I1 hN hi hx r1 (fun s2 I2 => ⟨_, H1, I2, q1⟩) hf
end
section
variable {P : Program} {w : World} {K : PySem.W.Frag} {mg : Str → Option Value} {base : Heap} {f g g2 g3 : Addr} {fd gd gd2 gd3 : FuncData}
def spLeaf (P : Program) (w : World) : Sp := fun vs H Q _ => ∃ (x : V) (d : PyData), vs = [x] ∧ Da P w H x d ∧ Tz d ∧ isL d = false ∧ isK d = false ∧ ∀ H', Same H H' → Q (.str (mk (wr d))) H'
theorem scLeaf : FnScope ["leaf", "inner"] ["leaf"] (defScope (top 18)) := ⟨rfl, rfl, rfl, by decide +kernel, rfl, by decide +kernel, by decide +kernel⟩
theorem ok_leaf (F : FnD K "leaf_text" 18 f fd) (B : Bl mg) : FnOk P w K mg base CX0 1 f fd ["leaf"] (spLeaf P w) := by
  obtain ⟨oc, od, dV, kV, doc, pm, an, cdv, ct, osl, rfl, lk, hcd, _, _⟩ := F.ex
  refine fn_ofT lk hcd scLeaf (by decide +kernel) (by decide) (fun vs H Q E h => ?_) fun A outer s H vs Q E hr h => ?_
  · obtain ⟨x, d, rfl, _⟩ := h
    rfl
  obtain ⟨x, d, rfl, hd, tx, nL, nK, q⟩ := h
  refine ⟨_, psst_cons (pst_if (pt_cmpR op_isN (pv 0) pe_non (nomark _)) (psst_one (PST.of (ps_ret pe_str))) psst_nil)
    (psst_cons (pst_if (pt_val (pe_callB call_isDa (by rfl) B.isi (by decide +kernel) (pa_cons (pv 0) (pa_cons (pe_bltn (v := .ty "bool") (by rfl) B.bool (by decide +kernel) rfl) pa_nil)))) (psst_one (PST.of (ps_ret (pe_ifExp (pt_val (pv 0)) pe_str pe_str)))) psst_nil)
    (psst_cons (pst_if (pt_val (pe_callB call_isDa (by rfl) B.isi (by decide +kernel) (pa_cons (pv 0) (pa_cons (pe_bltn (v := .ty "int") (by rfl) B.int (by decide +kernel) rfl) pa_nil)))) (psst_one (PST.of (ps_ret (pe_callTy call_str_int (by rfl) B.str (by decide +kernel) (pa_cons (pv 0) pa_nil))))) psst_nil)
    (psst_cons (pst_set (i := 1) scLeaf.nd rfl (Or.inl rfl) (pet_replT (pet_replC (pv 0))))
    (psst_one (PST.of (ps_ret (pe_joined (PJ.cons pe_str (PJ.cons (pe_fmt (pv 1)) (PJ.cons pe_str PJ.nil)))))))))), ?_⟩
  have q0 := q H (same_refl H)
  cases hd with
  | non =>
    have e : (Str.ofString "-") = mk (wr .none) := by decide +kernel
    rw [← e] at q0
    exact ⟨_, rfl, rfl, _, rfl, iteT q0⟩
  | bl b =>
    refine ⟨_, rfl, rfl, _, rfl, iteF ⟨_, rfl, _, "bool", _, _, rfl, .bl b, kt_b _, _, rfl, iteT ⟨_, rfl, _, rfl, ?_⟩⟩⟩
    cases b with
    | true =>
      have e : (Str.ofString "yes") = mk (wr (.bool true)) := by decide +kernel
      rw [← e] at q0
      exact iteT q0
    | false =>
      have e : (Str.ofString "no") = mk (wr (.bool false)) := by decide +kernel
      rw [← e] at q0
      exact iteF q0
  | int i =>
    have e : ts i = mk (wr (.int i)) := (mk_tl (ts i)).symm
    rw [← e] at q0
    exact ⟨_, rfl, rfl, _, rfl, iteF ⟨_, rfl, _, "bool", _, _, rfl, .int i, kt_b _, _, rfl, iteF ⟨_, rfl, _, "int", _, _, rfl, .int i, kt_i _, _, rfl, iteT ⟨_, rfl, i, rfl, tx.iq, q0⟩⟩⟩⟩
  | str y =>
    have yl : y.length ≤ 1000 := tx.sm.1
    have e2 := repl_esc y
    have l0 := TK.replace_len y ("\\" : Str) ("\\\\" : Str)
    have a2 : ("\\\\" : Str).length = 2 := by decide
    have a4 : ("\\\"" : Str).length = 2 := by decide
    have l2 : (Txt.replace (Txt.replace y ("\\" : Str) ("\\\\" : Str)) ("\"" : Str) ("\\\"" : Str)).length ≤ 2000 := by
      rw [len_tl, e2]
      have := esc_len (tl y)
      rw [← len_tl] at this
      omega
    rw [a2] at l0
    have big : (1000000 : Nat) ≤ sizeLine := by decide
    refine ⟨_, rfl, rfl, _, rfl, iteF ⟨_, rfl, _, "bool", _, _, rfl, .str y, kt_b _, _, rfl, iteF ⟨_, rfl, _, "int", _, _, rfl, .str y, kt_i _, _, rfl, iteF ⟨_, rfl, y, rfl, by rw [a2]; omega, _, rfl, by rw [a4]; omega, ?_⟩⟩⟩⟩
    have d0 : (Str.empty ++ ("\"" : Str)) = ("\"" : Str) := by decide +kernel
    have d1 : tl ("\"" : Str) = [34] := by decide +kernel
    have dl : ("\"" : Str).length = 1 := by decide
    refine ⟨_, rfl, by show (Str.empty ++ ("\"" : Str)).length ≤ _; rw [d0]; omega, _, rfl, .inl ⟨_, rfl, by omega, _, rfl, ?_, _, rfl, ?_, ?_⟩⟩
    · rw [d0, len_tl, tl_append, List.length_append, ← len_tl, ← len_tl]
      omega
    · rw [d0, len_tl, tl_append, tl_append, List.length_append, List.length_append, ← len_tl, ← len_tl]
      omega
    · rw [d0, between 34 34 (esc (tl y)) _ _ _ d1 d1 e2, ← wr_str]
      exact q0
  | tup h r => exact (Bool.false_ne_true (show false = true from tx.one)).elim
  | lst h r => cases nL
  | dic h r => cases nK
end
end K87
set_option Elab.async false
set_option linter.all false
set_option maxRecDepth 100000
set_option maxHeartbeats 4000000
/-! G87I: sorted(zip(a, b)) of two lists of texts, up to the rule. -/
namespace K87S
open PySem PySem.Calls PyProof.Rows SrtO K00Z
section
variable {prog : Program} {w : World} {A : Around} {E : Value → Shared → Prop} {s : Shared}
/-- a tuple of two texts -/
def IsTx (h : Heap) (v : Value) (x y : Str) : Prop := ∃ a o t u n, v = .ref a ∧ h.get? a = some o ∧ o.cls = .type "tuple" ∧ o.data = .seq #[.str x t, .str y u] n
theorem IsTx.keeps {h h' : Heap} {v : Value} {x y : Str} (p : IsTx h v x y) (k : ∀ b o, h.get? b = some o → o.cls = .type "tuple" → h'.get? b = some o) : IsTx h' v x y := by
  obtain ⟨a, o, t, u, n, e, ho, hc, hd⟩ := p
  exact ⟨a, o, t, u, n, e, k _ _ ho hc, hc, hd⟩
def ltT (k : Value → Str) (v u : Value) : Bool := decide ((k v).cps.toList < (k u).cps.toList)
theorem swoT (k : Value → Str) : Swo (ltT k) := by
  refine ⟨fun x y h => ?_, fun x y z h1 h2 => ?_⟩
  · have a := of_decide_eq_true h
    exact decide_eq_false (List.lt_asymm a)
  · have a := List.not_lt.mp (of_decide_eq_false h1)
    have b := List.not_lt.mp (of_decide_eq_false h2)
    exact decide_eq_false (List.not_lt.mpr (List.le_trans a b))
theorem tx_cmp {vs : List Value} {k m : Value → Str} (hp : ∀ v ∈ vs, IsTx s.heap v (k v) (m v)) (inj : ∀ v ∈ vs, ∀ u ∈ vs, k v = k u → m v = m u) : Cmp prog w A s (tuples' true) (fun p => p.1 ∈ vs) (lt2 (ltT k)) := by
  intro p q hm hm'
  have h1 := hp _ hm
  have h2 := hp _ hm'
  have hi := inj _ hm _ hm'
  show wpAny (model prog w) A (keyLt' (tuples' true) p.1 q.1) (fun r s' => s' = s ∧ r = decide ((k p.1).cps.toList < (k q.1).cps.toList)) (fun _ _ => False) s
  generalize k p.1 = x at h1 hi ⊢
  generalize m p.1 = y at h1 hi ⊢
  generalize k q.1 = x' at h2 hi ⊢
  generalize m q.1 = y' at h2 hi ⊢
  obtain ⟨a, o, t, u, n, e, ho, hc, hd⟩ := h1
  obtain ⟨a', o', t', u', n', e', ho', hc', hd'⟩ := h2
  rw [e, e']
  refine PySem.W.kat_lt ho hd ho' hd' ?_
  show PySem.W.KatLex prog w A true (decide (2 < 2)) _ [(.str x t, .str x' t'), (.str y u, .str y' u')] 0 s
  refine PySem.W.kat_cons (SeqAt.EqAt.str_str x t x' t' prog w _ _ ?_)
  refine PySem.W.kat_go (fun e1 => ?_) (fun e1 => ?_)
  · have ex : x = x' := by simpa using e1
    have ey := hi ex
    subst ex
    subst ey
    refine PySem.W.kat_yes (PySem.W.kat_cons (SeqAt.EqAt.str_str y u y u' prog w _ _ ?_))
    refine PySem.W.kat_go (fun e2 => ?_) (fun e2 => ?_)
    · exact PySem.W.kat_yes (PySem.W.kat_nil ⟨rfl, (decide_eq_false (List.lt_irrefl _)).symm⟩)
    · simp at e2
  · exact PySem.W.kat_no (oneLt_str ⟨rfl, rfl⟩)
theorem tx_firsts {h : Heap} {k m : Value → Str} : ∀ {vs : List Value}, (∀ v ∈ vs, IsTx h v (k v) (m v)) → ∃ fs : List Value, PySem.W.KatTups h vs fs ∧ fs.length = vs.length ∧ ∀ f ∈ fs, ∃ x t, f = Value.str x t
  | [], _ => ⟨[], PySem.W.KatTups.nil, rfl, fun _ hm => by simp at hm⟩
  | v :: vs, hp => by
    obtain ⟨fs, h1, h2, h3⟩ := tx_firsts (vs := vs) fun v' hm => hp v' (List.mem_cons_of_mem _ hm)
    obtain ⟨a, o, t, u, n, e, ho, hc, hd⟩ := hp v (List.mem_cons_self ..)
    generalize k v = x at hd
    generalize m v = y at hd
    subst e
    refine ⟨.str x t :: fs, PySem.W.KatTups.cons ho hc hd rfl h1, by rw [List.length_cons, List.length_cons, h2], fun f hm => ?_⟩
    rcases List.mem_cons.mp hm with rfl | hm
    · exact ⟨x, t, rfl⟩
    · exact h3 f hm
theorem tx_sortable {a : Addr} {vs : List Value} {k m : Value → Str} (h0 : 0 < vs.length) (hp : ∀ v ∈ vs, IsTx s.heap v (k v) (m v)) (inj : ∀ v ∈ vs, ∀ u ∈ vs, k v = k u → m v = m u) (ha : ∀ o, s.heap.get? a = some o → o.cls ≠ .type "tuple") : SortableO prog w A s a vs (ltT k) := by
  intro h' keep
  have hp' : ∀ v ∈ vs, IsTx h' v (k v) (m v) := fun v hm => (hp v hm).keeps fun b o e c => keep b o (fun z => by subst z; exact ha o e c) e
  obtain ⟨fs, h1, h2, h3⟩ := tx_firsts hp'
  refine ⟨tuples' true, fun Q E hq => ?_, tx_cmp hp' inj⟩
  refine PySem.W.kat_kind (T := .type "str") h1 (by omega) (fun f hm => ?_) (by rfl) ?_
  · obtain ⟨x, t, rfl⟩ := h3 f hm
    exact PySem.W.Looks.now
  · have e : (Value.type "str" != Value.type "tuple") = true := by first | decide +kernel | rfl | decide
    rw [e]
    exact hq
end
section
variable {prog : Program} {w : World} {A : Around} {E : Value → Shared → Prop} {s : Shared} {z TI TO i1 i2 l1 l2 S : Addr} {xs ys : Array Value}
theorem extZ {R : Result → Shared → Prop} (hh : A.handled = none) (D : ZipApart z TI TO i1 i2 l1 l2) (B : Below z TI TO i1 i2 l1 l2 S) (st : ZSt s.heap z TI TO i1 i2 l1 l2 S 0 xs ys) (hxy : xs.size = ys.size) (hn : xs.size ≤ sizeLine) (res : Value) (c₀ : Nat)
    (hS : s.heap.get? S = some { cls := .type "list", data := .seq #[] c₀ })
    (hR : ∀ h' tk acc c as, (∀ b o, b ≠ S → b ≠ z → b ≠ TO → b ≠ i1 → b ≠ i2 → s.heap.get? b = some o → h'.get? b = some o) → h'.get? S = some { cls := .type "list", dict := none, data := .seq acc c, slots := #[] } → as.length = xs.size → ZG xs ys S h' as →
      acc.toList = as.map Value.ref → R (.ok (.ret res)) { s with heap := h', toks := tk }) :
    wpAny (model prog w) A.in1 (Builtin.List.listExtendWith (.ref S) (.ref z) res)
      (fun fin s' => match fin with | .done f => R (.ok f) s' | .again c' => c'.quiet = true ∧ codeAny (model prog w) A c' R s') (fun e s' => R (.error e) s') s := by
  have O := B.off
  have tyz : ∀ {h : Heap} {S i}, ZSt h z TI TO i1 i2 l1 l2 S i xs ys → ∃ o, h.get? z = some o ∧ o.cls = .type "zip" := fun st => by
    rcases st.zz with ⟨hz, _⟩ | ⟨T, f, oT, hz, _⟩
    · exact ⟨_, hz, rfl⟩
    · exact ⟨_, hz, rfl⟩
  unfold Builtin.List.listExtendWith
  refine wpAny_bind (wpAny_typeOf (T := "zip") (tyz st) ?_)
  have h1 : Builtin.List.listSameRef (.ref S) (.ref z) = false := by simp [Builtin.List.listSameRef, Ne.symm O.z]
  have h2 : (Value.type "zip" == Value.type "list") = false := by decide
  have h3 : (Value.type "zip" == Value.type "tuple") = false := by decide
  simp only [h1, h2, h3, Bool.or_false, Bool.false_eq_true, if_false]
  have hT := tyz st
  refine wpAny_bind (wpAny_pyIter_slot hT PySem.F.slot_zip_iter (wpAny_call_entry PySem.F.slot_zip_iter hT PySem.F.entry_zip_iter ?_ (PySem.F.args_zip_iter_1 _)))
  show wpAny _ _ (ret (.ref z)) _ _ _
  refine wpAny_pure ⟨_, rfl, "zip", _, hT, PySem.F.slot_zip_next.lookup, ?_⟩
  refine wpAny_bind (wpAny_holding ?_)
  unfold Builtin.List.listLengthHint
  refine wpAny_bind (wpAny_specialOf hT zip_no_len ?_)
  show wpAny _ _ (specialOf (Value.ref z) (Str.ofString "__length_hint__") >>= _) _ _ _
  refine wpAny_bind (wpAny_specialOf hT zip_no_hint ?_)
  refine wpAny_pure ?_
  show wpAny _ _ (rule "list.extend.makes-room" >>= fun _ => Builtin.List.listTouch (.ref S) >>= fun _ =>
    again (.builtin "list.extend.loop" ⟨[.ref S, .ref z, res], []⟩)) _ _ _
  refine wpAny_bind (wpAny_rule ?_)
  refine wpAny_bind ?_
  show wpAny _ _ (updateSeq S (·.push .none) >>= fun _ => updateSeq S (·.pop)) _ _ _
  refine wpAny_bind (wpAny_updateSeq hS rfl ?_)
  have hS₃ := Heap.get?_update_self (Obj.mapSeq (·.push Value.none)) hS rfl
  refine wpAny_updateSeq (hz := by seq_fits) hS₃ rfl ?_
  have hS₄ := Heap.get?_update_self (Obj.mapSeq (·.pop)) hS₃ rfl
  refine wpAny_pure ⟨plainId_quiet PySem.F.plain_extend_loop _, ?_⟩
  refine zl_loop (A := A) (s := s) (h₁ := s.heap) hh D B hxy hn res (fun h' tk acc c as hk hS' hl hG hacc => hR h' tk acc c as hk hS' hl hG hacc) xs.size 0 _ _ _ _ [] (Nat.sub_zero _) (Nat.zero_le _)
    (st.keep O fun b o hb e => (Heap.get?_update_other _ _ (Ne.symm hb)).trans ((Heap.get?_update_other _ _ (Ne.symm hb)).trans e))
    (fun b o hb _ _ _ _ e => (Heap.get?_update_other _ _ (Ne.symm hb)).trans ((Heap.get?_update_other _ _ (Ne.symm hb)).trans e)) hS₄ rfl rfl
    ⟨List.Pairwise.nil, (fun _ ha => nomatch ha), (fun j a hj => by simp at hj)⟩
theorem collectZ {R : List Value → Shared → Prop} (hh : A.handled = none) (D : ZipApart z TI TO i1 i2 l1 l2) (B : Below z TI TO i1 i2 l1 l2 s.heap.objs.size) (hst : ∀ S, s.heap.objs.size ≤ S → ZSt s.heap z TI TO i1 i2 l1 l2 S 0 xs ys) (hxy : xs.size = ys.size) (hn : xs.size ≤ sizeLine)
    (h : ∀ (h' : Heap) (tk : Nat) (as : List Addr), (∀ b o, b ≠ z → b ≠ TO → b ≠ i1 → b ≠ i2 → s.heap.get? b = some o → h'.get? b = some o) → s.heap.objs.size < h'.objs.size → as.length = xs.size → ZG xs ys s.heap.objs.size h' as → R (as.map Value.ref) { s with heap := h', toks := tk }) :
    wpAny (model prog w) A (collect (.ref z)) R E s := by
  have O := B.off
  unfold collect
  refine wpAny_bind (wpAny_runValue (codeAny_builtin entry_proto_collect' ?_))
  rw [Around.under_plainId PySem.F.plain_proto_collect _]
  show wpAny _ A.in1 (newList [] >>= fun l => again (.builtin "list.__iadd__" ⟨[l, .ref z], []⟩)) _ _ s
  refine wpAny_bind (wpAny_newObj_type ?_)
  refine wpAny_pure ⟨plainId_quiet PySem.F.plain_list_iadd _, codeAny_builtin entry_list_iadd' ?_⟩
  rw [Around.under_plainId PySem.F.plain_list_iadd _]
  have hS₁ : (s.heap.push { cls := .type "list", data := .seq ([] : List Value).toArray }).get? s.heap.objs.size = some { cls := .type "list", data := .seq #[] } := Heap.get?_push_size _ rfl
  show wpAny _ A.in1 (Builtin.List.listExtendWith (.ref s.heap.objs.size) (.ref z) (.ref s.heap.objs.size)) _ _ _
  have key := extZ (prog := prog) (w := w) (A := A) (s := { s with heap := s.heap.push { cls := .type "list", data := .seq ([] : List Value).toArray } }) (S := s.heap.objs.size) (xs := xs) (ys := ys)
    (R := fun (q : Result) (s' : Shared) => ∃ (h' : Heap) (tk : Nat) (acc' : Array Value) (c' : Nat) (as : List Addr), q = .ok (.ret (.ref s.heap.objs.size)) ∧ s' = { s with heap := h', toks := tk } ∧
      (∀ b o, b ≠ z → b ≠ TO → b ≠ i1 → b ≠ i2 → s.heap.get? b = some o → h'.get? b = some o) ∧ h'.get? s.heap.objs.size = some { cls := .type "list", dict := none, data := .seq acc' c', slots := #[] } ∧ as.length = xs.size ∧ ZG xs ys s.heap.objs.size h' as ∧ acc'.toList = as.map Value.ref)
    hh D B ((hst _ (Nat.le_refl _)).keep O fun b o _ e => Heap.get?_push_of_some _ e) hxy hn (.ref s.heap.objs.size) 0 hS₁
    (fun h' tk acc' c' as hk hS' hl hG hacc => ⟨h', tk, acc', c', as, rfl, rfl, fun b o b1 b2 b3 b4 e => hk b o (Nat.ne_of_lt (Heap.lt_size e)) b1 b2 b3 b4 (Heap.get?_push_of_some _ e), hS', hl, hG, hacc⟩)
  refine wpAny_mono key (fun fin s' x => ?_) fun e s' x => ?_
  · cases fin with
    | done f =>
      obtain ⟨h', tk, acc', c', as, e, rfl, hk, hS', hl, hG, hacc⟩ := x
      cases e
      show wpAny _ A (load s.heap.objs.size >>= _) _ _ _
      refine wpAny_bind (wpAny_load hS' ?_)
      refine wpAny_pure ?_
      show R acc'.toList _
      rw [hacc]
      exact h h' tk as hk (Heap.lt_size hS') hl hG
    | again c₁ =>
      refine ⟨x.1, codeAny_mono x.2 fun q s₂ y => ?_⟩
      obtain ⟨h', tk, acc', c', as, rfl, rfl, hk, hS', hl, hG, hacc⟩ := y
      show wpAny _ A (load s.heap.objs.size >>= _) _ _ _
      refine wpAny_bind (wpAny_load hS' ?_)
      refine wpAny_pure ?_
      show R acc'.toList _
      rw [hacc]
      exact h h' tk as hk (Heap.lt_size hS') hl hG
  · obtain ⟨_, _, _, _, _, e', _⟩ := x
    cases e'
/-- sorted(zip(..)) up to the sort of the pairs -/
theorem sortedZ {Q : Value → Shared → Prop} (hh : A.handled = none) (D : ZipApart z TI TO i1 i2 l1 l2) (B : Below z TI TO i1 i2 l1 l2 s.heap.objs.size) (hst : ∀ S, s.heap.objs.size ≤ S → ZSt s.heap z TI TO i1 i2 l1 l2 S 0 xs ys) (hxy : xs.size = ys.size) (hn : xs.size ≤ sizeLine)
    (h : ∀ (h' : Heap) (tk : Nat) (as : List Addr), (∀ b o, b ≠ z → b ≠ TO → b ≠ i1 → b ≠ i2 → s.heap.get? b = some o → h'.get? b = some o) → s.heap.objs.size < h'.objs.size → as.length = xs.size → ZG xs ys s.heap.objs.size h' as →
      wpAny (model prog w) A.in1 (call (.builtin "list.sort") [.ref h'.objs.size]) (fun _ s' => Q (.ref h'.objs.size) s') E { s with heap := h'.push { cls := .type "list", data := .seq (as.map Value.ref).toArray }, toks := tk }) :
    wpAny (model prog w) A (call (.builtin "sorted") [.ref z]) Q E s := by
  refine call_function_entry kind_sorted plain_sorted entry_sorted (args_sorted1 _) ?_
  unfold Builtin.«sorted»
  refine wpAny_bind (m := checkCount "sorted" 1 1 _) (wpAny_pure ?_)
  refine wpAny_bind (collectZ (A := A.in1) hh D B hst hxy hn fun h' tk as hk hlt hl hG => ?_)
  refine wpAny_bind (wpAny_newList ?_ (by rw [List.length_map, hl]; exact hn))
  have hg := h h' tk as hk hlt hl hG
  refine wpAny_bind (wpAny_holding (wpAny_mono hg (fun _ s' x => ?_) fun _ _ e => e))
  exact wpAny_pure ⟨_, rfl, x⟩
end
end K87S
set_option Elab.async false
set_option linter.all false
set_option maxRecDepth 100000
set_option maxHeartbeats 4000000
/-! G87J: the rule for sorted(zip(a, b)) of two lists of texts, the first ones unlike. -/
namespace K87
open PySem PySem.Spec PyProof.Rows L2 K00 K00Z K87S
theorem lookup_zip {α β : Type} [BEq α] [LawfulBEq α] : ∀ {as : List α} {ks : List β} {j : Nat} {a : α} {k : β}, as.Nodup → as[j]? = some a → ks[j]? = some k → (as.zip ks).lookup a = some k
  | [], _, _, _, _, _, h, _ => by simp at h
  | _ :: _, [], _, _, _, _, _, h => by simp at h
  | x :: as, y :: ks, 0, a, k, _, h, h' => by
    have e1 : x = a := by simpa using h
    have e2 : y = k := by simpa using h'
    subst e1
    subst e2
    simp
  | x :: as, y :: ks, j + 1, a, k, n, h, h' => by
    have n' := List.nodup_cons.mp n
    have h1 : as[j]? = some a := by simpa using h
    have h2 : ks[j]? = some k := by simpa using h'
    have ne : (a == x) = false := beq_eq_false_iff_ne.mpr fun z => n'.1 (by rw [← z]; exact List.mem_of_getElem? h1)
    rw [List.zip_cons_cons, List.lookup_cons, ne]
    exact lookup_zip n'.2 h1 h2
theorem nodup_ix {α : Type} {x : α} : ∀ {l : List α} {i j : Nat}, l.Nodup → l[i]? = some x → l[j]? = some x → i = j
  | [], _, _, _, h, _ => by simp at h
  | a :: r, 0, 0, _, _, _ => rfl
  | a :: r, 0, j + 1, n, h, h' => by
    have e : a = x := by simpa using h
    have h2 : r[j]? = some x := by simpa using h'
    exact absurd (by rw [e]; exact List.mem_of_getElem? h2) (List.nodup_cons.mp n).1
  | a :: r, i + 1, 0, n, h', h => by
    have e : a = x := by simpa using h
    have h2 : r[i]? = some x := by simpa using h'
    exact absurd (by rw [e]; exact List.mem_of_getElem? h2) (List.nodup_cons.mp n).1
  | a :: r, i + 1, j + 1, n, h, h' => by
    have h1 : r[i]? = some x := by simpa using h
    have h2 : r[j]? = some x := by simpa using h'
    exact congrArg (· + 1) (nodup_ix (List.nodup_cons.mp n).2 h1 h2)
def unref : Value → Addr
  | .ref a => a
  | _ => 0
def rSortZip (K : PySem.W.Frag) : List V → Hp → VK → Prop := fun vs H Q => ∃ (a b : Addr) (ks ts : List Str), vs = [.ref a, .ref b] ∧ SqL K H a (ks.map V.str) ∧ SqL K H b (ts.map V.str) ∧ ks.length = ts.length ∧ ks.Nodup ∧
  ∀ (H' : Hp) (p : Addr) (os : List Addr) (out : List (Str × Str)), Same H H' → H p = none → out.Perm (ks.zip ts) → (out.map (·.1)).Pairwise LeS → H' p = some (.lst (os.map V.ref)) → Paired (fun (t : Addr) (q : Str × Str) => H' t = some (.tup [.str q.1, .str q.2])) os out → Q (.ref p) H'
def tSortZip (K : PySem.W.Frag) (ta : TA) : TE := fun σ H Q => ta σ H fun vs H1 => rSortZip K vs H1 Q
theorem sort_laid {X : Cx} {pins : List (Addr × Obj)} {σ : L2.St} {H : Hp} {s : Shared} {h' : Heap} {tk : Nat} {xs ys : List V} {us vs : List Value} {as os : List Addr} {S : Addr} (I : Inv X pins σ H s) (hxy : xs.length = ys.length) (rx : Vals xs us) (ry : Vals ys vs)
    (hk : ∀ b o, s.heap.get? b = some o → h'.get? b = some o) (hnew : ∀ t ∈ as, s.heap.objs.size ≤ t) (nd : as.Nodup) (hSs : s.heap.objs.size ≤ S) (hSn : S ∉ as) (hl : as.length = us.length) (hos : os.length ≤ sizeLine) (hS : ∃ n, h'.get? S = some (seqObj "list" (os.map Value.ref).toArray n))
    (hG : ∀ (j : Nat) (a : Addr), as[j]? = some a → ∃ x y, us.toArray[j]? = some x ∧ vs.toArray[j]? = some y ∧ IsPair h' a x y) :
    ∃ H' : Hp, Same H H' ∧ H S = none ∧ (∀ t ∈ as, H t = none) ∧ H' S = some (.lst (os.map V.ref)) ∧ Paired (fun (t : Addr) (q : V × V) => H' t = some (.tup [q.1, q.2])) as (xs.zip ys) ∧ Inv X pins σ H' { s with heap := h', toks := tk } := by
  have lx : xs.length = us.length := rx.length
  have ly : ys.length = vs.length := ry.length
  have lz : (xs.zip ys).length = xs.length := by rw [List.length_zip, ← hxy, Nat.min_self]
  have new : ∀ t ∈ as, H t = none := fun t ht => I.hok.fresh (hnew t ht)
  have newS : H S = none := I.hok.fresh hSs
  have atP := putP_at as (xs.zip ys) (upd H S (.lst (os.map V.ref))) (by omega) nd
  have off : ∀ b, b ∉ as → b ≠ S → putP (upd H S (.lst (os.map V.ref))) as (xs.zip ys) b = H b := fun b h1 h2 => by rw [putP_off as _ _ h1, upd_ne h2]
  have low : ∀ b o, s.heap.get? b = some o → b ∉ as ∧ b ≠ S := fun b o e => ⟨fun z => absurd (Heap.lt_size e) (Nat.not_lt.mpr (hnew b z)), Nat.ne_of_lt (Nat.lt_of_lt_of_le (Heap.lt_size e) hSs)⟩
  have kp : ∀ b u, H b = some u → (putP (upd H S (.lst (os.map V.ref))) as (xs.zip ys)) b = some u := fun b u e => by
    rw [off b (fun z => by rw [new b z] at e; cases e) (fun z => by rw [z, newS] at e; cases e)]
    exact e
  have eS : putP (upd H S (.lst (os.map V.ref))) as (xs.zip ys) S = some (.lst (os.map V.ref)) := by rw [putP_off as _ _ hSn, upd_same]
  refine ⟨putP (upd H S (.lst (os.map V.ref))) as (xs.zip ys), kp, newS, new, eS, atP, ?_⟩
  refine I.call' (ch := []) rfl ⟨fun b o q _ _ _ => hk b o q, fun b o q _ _ _ => ⟨o.slots, hk b o q⟩, fun b o q n _ => ?_, fun b o q _ => ⟨o, hk b o q⟩, fun b xs q => kp b _ q, fun b o u q => kp b _ q, fun b ps q => ⟨#[], by rw [kp b _ q]; simp⟩⟩ (fun b u q => ?_) I.bare fun b z => by simp at z
  · obtain ⟨z1, z2⟩ := low b o q
    rw [off b z1 z2]
    exact n
  · by_cases hb : b ∈ as
    · obtain ⟨j, pk, e1, e2, e3⟩ := LiI.paired_ix atP hb
      rw [e3] at q
      cases q
      obtain ⟨x, y, f1, f2, f3⟩ := hG j b e1
      have hzip := List.getElem?_zip_eq_some.mp (show (xs.zip ys)[j]? = some (pk.1, pk.2) from e2)
      obtain ⟨u1, hu1, r1⟩ := rx.get hzip.1
      obtain ⟨u2, hu2, r2⟩ := ry.get hzip.2
      have g1 : us[j]? = some x := by simpa using f1
      have g2 : vs[j]? = some y := by simpa using f2
      rw [g1] at hu1
      rw [g2] at hu2
      cases hu1
      cases hu2
      exact ⟨by show 2 ≤ sizeLine; decide, [x, y], .cons r1 (.cons r2 .nil), ⟨_, f3, rfl, _, rfl⟩⟩
    · by_cases hb2 : b = S
      · rw [hb2] at q ⊢
        rw [eS] at q
        cases q
        obtain ⟨n, hS⟩ := hS
        exact ⟨by rw [List.length_map]; omega, os.map Value.ref, n, LiI.vals_refs os, hS⟩
      · rw [off b hb hb2] at q
        exact (I.hok b u q).stay (fun d v _ y => hk d v y) (fun d y => kp d _ y) fun d xs y => kp d _ y
theorem paired_selfmap {α β : Type} {F : α → β → Prop} {g : α → β} : ∀ {xs : List α}, (∀ x ∈ xs, F x (g x)) → Paired F xs (xs.map g)
  | [], _ => .nil
  | x :: r, h => .cons (h x List.mem_cons_self) (paired_selfmap fun y hy => h y (List.mem_cons_of_mem _ hy))
section
variable {X : Cx} {e e2 : Expr} {ta : TA} {p p2 cpos pos : Pos}
/-- sorted(zip(e, e2)) -/
theorem pe_sortedzip (hc : X.calm = true) (hg : Gl X "sorted") (hm : X.mg "sorted" = none) (hv : bootBuiltins "sorted" = some (.builtin "sorted")) (hg2 : Gl X "zip") (hm2 : X.mg "zip" = none) (ha : PA X [e, e2] ta)
    (hs2 : starEach [e, e2] X.env = (false, eval e X.env) :: starEach [e2] X.env := by rfl) (hpl2 : (backTo cpos (starEach [e2] X.env)).any (·.1) = false := by rfl)
    (hs : starEach [.Call (.Name "zip" p2) [e, e2] [] cpos] X.env = (false, eval (.Call (.Name "zip" p2) [e, e2] [] cpos) X.env) :: starEach [] X.env := by rfl) :
    PE X (.Call (.Name "sorted" p) [.Call (.Name "zip" p2) [e, e2] [] cpos] [] pos) (tSortZip X.K ta) := by
  refine ⟨fun pins s σ H Q I hq => ?_⟩
  refine wpAny_Call_Name_kw (ld_blt I hg hm hv ?_)
  refine Calls.callWith_builtin rfl ?_
  refine Calls.evalArgs_plain ?_
  refine Calls.spliced_cons ?_
  refine wpAny_Call_Name_kw (ld_blt I hg2 hm2 PyProof.Rows.boot_zip (PyProof.Rows.callWith_type1 (thn (ha.run cpos pins s σ H _ I hq) fun us s1 ⟨vs, H1, I1, r1, q1⟩ => ?_) hs2 hpl2))
  obtain ⟨a, b, ks, ts, ex, hqx, hqy, hxy, knd, q⟩ := q1
  subst ex
  cases r1 with
  | cons r rr =>
    cases rr with
    | cons r' rr =>
      cases rr
      cases r
      cases r'
      obtain ⟨its, rv, p1, hz1⟩ := I1.list hqx
      obtain ⟨its2, rv2, p2', hz2⟩ := I1.list hqy
      have la : a < s1.heap.objs.size := let ⟨_, ho, _⟩ := p1.isList; Heap.lt_size ho
      have lb : b < s1.heap.objs.size := let ⟨_, ho, _⟩ := p2'.isList; Heap.lt_size ho
      have lx : ks.length = its.length := by rw [← rv.length, List.length_map]
      have ly : ts.length = its2.length := by rw [← rv2.length, List.length_map]
      rw [List.length_map] at hz1
      refine call_zip_2 p1.isList p2'.isList fun h' hz hTI hTO h1 h2 hsz hk => ?_
      refine Calls.spliced_nil ?_
      have D : ZipApart (s1.heap.objs.size + 4) (s1.heap.objs.size + 2) (s1.heap.objs.size + 3) s1.heap.objs.size (s1.heap.objs.size + 1) a b := apartN la lb
      refine sortedZ (s := { s1 with heap := h' }) (xs := its.toArray) (ys := its2.toArray) (I1.ok.hd hc) D ?_ (fun S _ => ⟨hTI, h1, h2, p1.isList.at fun o e => hk _ o e, p2'.isList.at fun o e => hk _ o e, .inl ⟨hz, _, _, hTO⟩⟩) (by simp only [List.size_toArray]; omega) (by simp only [List.size_toArray]; omega) fun h'' tk as hk2 hlt hl hG => ?_
      · show Below _ _ _ _ _ _ _ h'.objs.size
        rw [hsz]
        exact belowN la lb
      have hlow : ∀ b' o, s1.heap.get? b' = some o → h''.get? b' = some o := fun b' o e => by
        have lt := Heap.lt_size e
        exact hk2 b' o (neN (Nat.lt_add_right 4 lt)) (neN (Nat.lt_add_right 3 lt)) (neN lt) (neN (Nat.lt_add_right 1 lt)) (hk b' o e)
      have hsz' : h'.objs.size = s1.heap.objs.size + 5 := hsz
      have lal : as.length = its.length := by simpa using hl
      have nd : as.Nodup := List.Pairwise.imp (fun {a b} (h : a < b) => Nat.ne_of_lt h) hG.rise
      have above : ∀ t ∈ as, s1.heap.objs.size ≤ t := fun t ht => by
        have z : h'.objs.size < t := hG.above t ht
        omega
      have lz : (ks.zip ts).length = ks.length := by rw [List.length_zip, ← hxy, Nat.min_self]
      -- the texts at each address
      have fact : ∀ (j : Nat) (t : Addr), as[j]? = some t → ∃ k u tk1 tk2, ks[j]? = some k ∧ ts[j]? = some u ∧ its[j]? = some (.str k tk1) ∧ its2[j]? = some (.str u tk2) ∧ IsPair h'' t (.str k tk1) (.str u tk2) := by
        intro j t hj
        obtain ⟨x, y, f1, f2, f3⟩ := hG.pairs j t hj
        have g1 : its[j]? = some x := by simpa using f1
        have g2 : its2[j]? = some y := by simpa using f2
        have hj1 : j < ks.length := by rw [lx]; exact (List.getElem?_eq_some_iff.mp g1).1
        have hj2 : j < ts.length := by rw [ly]; exact (List.getElem?_eq_some_iff.mp g2).1
        have k1 : ks[j]? = some ks[j] := List.getElem?_eq_getElem hj1
        have k2 : ts[j]? = some ts[j] := List.getElem?_eq_getElem hj2
        obtain ⟨u1, hu1, r1⟩ := rv.get (i := j) (x := V.str ks[j]) (by rw [List.getElem?_map, k1]; rfl)
        obtain ⟨u2, hu2, r2⟩ := rv2.get (i := j) (x := V.str ts[j]) (by rw [List.getElem?_map, k2]; rfl)
        obtain ⟨t1, rfl⟩ := r1
        obtain ⟨t2, rfl⟩ := r2
        rw [g1] at hu1
        rw [g2] at hu2
        cases hu1
        cases hu2
        exact ⟨_, _, t1, t2, k1, k2, g1, g2, f3⟩
      generalize hg_ : (fun t => ((as.zip (ks.zip ts)).lookup t).getD (Str.empty, Str.empty)) = g
      have gat : ∀ (j : Nat) (t : Addr) (k u : Str), as[j]? = some t → ks[j]? = some k → ts[j]? = some u → g t = (k, u) := by
        intro j t k u h1 h2 h3
        rw [← hg_]
        show ((as.zip (ks.zip ts)).lookup t).getD _ = _
        rw [lookup_zip nd h1 (List.getElem?_zip_eq_some.mpr ⟨h2, h3⟩ : (ks.zip ts)[j]? = some (k, u))]
        rfl
      have gmap : as.map g = ks.zip ts := by
        refine List.ext_getElem? fun j => ?_
        rw [List.getElem?_map]
        cases ej : as[j]? with
        | none =>
          have := List.getElem?_eq_none_iff.mp ej
          rw [List.getElem?_eq_none (by omega)]
          rfl
        | some t =>
          obtain ⟨k, u, _, _, h1, h2, _⟩ := fact j t ej
          rw [(List.getElem?_zip_eq_some.mpr ⟨h1, h2⟩ : (ks.zip ts)[j]? = some (k, u))]
          show some (g t) = _
          rw [gat j t k u ej h1 h2]
      generalize hkf : (fun v : Value => (g (unref v)).1) = kf
      generalize hmf : (fun v : Value => (g (unref v)).2) = mf
      have hoL : (h''.push (seqObj "list" (as.map Value.ref).toArray 0)).get? h''.objs.size = some (seqObj "list" (as.map Value.ref).toArray 0) := Heap.get?_push_size _ rfl
      have isTx : ∀ v ∈ as.map Value.ref, IsTx (h''.push (seqObj "list" (as.map Value.ref).toArray 0)) v (kf v) (mf v) := by
        intro v hv'
        obtain ⟨t, ht, rfl⟩ := List.mem_map.mp hv'
        obtain ⟨j, hj⟩ := List.mem_iff_getElem?.mp ht
        obtain ⟨k, u, t1, t2, h1, h2, _, _, h5⟩ := fact j t hj
        have e := gat j t k u hj h1 h2
        refine ⟨t, _, t1, t2, 0, rfl, Heap.get?_push_of_some _ h5, rfl, ?_⟩
        rw [← hkf, ← hmf]
        show Data.seq #[.str k t1, .str u t2] 0 = .seq #[.str (g t).1 t1, .str (g t).2 t2] 0
        rw [e]
      have inj : ∀ v ∈ as.map Value.ref, ∀ u ∈ as.map Value.ref, kf v = kf u → mf v = mf u := by
        intro v hv' u hu' he
        obtain ⟨t, ht, rfl⟩ := List.mem_map.mp hv'
        obtain ⟨t', ht', rfl⟩ := List.mem_map.mp hu'
        obtain ⟨j, hj⟩ := List.mem_iff_getElem?.mp ht
        obtain ⟨j', hj'⟩ := List.mem_iff_getElem?.mp ht'
        obtain ⟨k, u, _, _, h1, h2, _⟩ := fact j t hj
        obtain ⟨k', u', _, _, h1', h2', _⟩ := fact j' t' hj'
        have e1 := gat j t k u hj h1 h2
        have e2 := gat j' t' k' u' hj' h1' h2'
        rw [← hkf] at he
        have he' : (g t).1 = (g t').1 := he
        rw [e1, e2] at he'
        have he2 : k = k' := he'
        subst he2
        obtain ⟨q1, q2⟩ := List.getElem?_eq_some_iff.mp h1
        obtain ⟨q3, q4⟩ := List.getElem?_eq_some_iff.mp h1'
        have ejj : j = j' := nodup_ix knd h1 h1'
        subst ejj
        rw [hj] at hj'
        cases hj'
        rfl
      refine wpAny_call_entry slot_list_sort ⟨_, hoL, rfl⟩ entry_list_sort (SrtO.list_sort_ord (ltv := ltT kf) (swoT kf) hoL (by rw [List.length_map]; omega) (fun h2 => tx_sortable (k := kf) (m := mf) (by omega) isTx inj fun o ho hcl => ?_) fun out hs hb => ⟨_, rfl, ?_⟩) (args_list_sort _)
      · rw [hoL] at ho
        cases ho
        exact absurd (show Value.type "list" = Value.type "tuple" from hcl) (by decide)
      have lout : out.length = as.length := by rw [hb.len, List.length_map]
      have mem : ∀ v ∈ out, ∃ t ∈ as, v = Value.ref t := fun v hv' => by
        obtain ⟨t, ht, rfl⟩ := List.mem_map.mp (hb.perm.mem_iff.mp hv')
        exact ⟨t, ht, rfl⟩
      have eout : (out.map unref).map Value.ref = out := by
        rw [List.map_map]
        refine (List.map_congr_left fun v hv' => ?_).trans (List.map_id out)
        obtain ⟨t, _, rfl⟩ := mem v hv'
        rfl
      have pos : (out.map unref).Perm as := by
        have := hb.perm.map unref
        rw [List.map_map] at this
        refine this.trans (.of_eq ((List.map_congr_left fun t _ => rfl).trans (List.map_id as)))
      have notas : h''.objs.size ∉ as := fun z => Nat.lt_irrefl _ (hG.there z)
      have oldat : ∀ b' o, h''.get? b' = some o → (sortedHeap (h''.push (seqObj "list" (as.map Value.ref).toArray 0)) h''.objs.size (as.map Value.ref) out.toArray).get? b' = some o := fun b' o e => by
        rw [sortedHeap_old (Nat.ne_of_lt (Heap.lt_size e)) (by rw [Heap.size_push]; exact Nat.lt_succ_of_lt (Heap.lt_size e))]
        exact Heap.get?_push_of_some _ e
      have hkeep : ∀ b' o, s1.heap.get? b' = some o → (sortedHeap (h''.push (seqObj "list" (as.map Value.ref).toArray 0)) h''.objs.size (as.map Value.ref) out.toArray).get? b' = some o := fun b' o e => oldat _ _ (hlow _ _ e)
      obtain ⟨nn, hnn⟩ := sortedHeap_at (out := out.toArray) hoL
      obtain ⟨H', k1, k2, k3, k5, k6, J⟩ := sort_laid (X := X) (tk := tk) (os := out.map unref) (S := h''.objs.size) I1 (by rw [List.length_map, List.length_map]; exact hxy) rv rv2 hkeep above nd (by have : h'.objs.size < h''.objs.size := hlt; omega) notas lal (by rw [List.length_map]; omega) ⟨_, by rw [eout]; exact hnn⟩ fun j t hj => by
        obtain ⟨k, u, t1, t2, _, _, h3, h4, h5⟩ := fact j t hj
        exact ⟨_, _, by simpa using h3, by simpa using h4, oldat _ _ h5⟩
      refine ⟨.ref _, H', J, rfl, q H' _ (out.map unref) ((out.map unref).map g) k1 k2 ?_ ?_ k5 ?_⟩
      · rw [← gmap]
        exact pos.map g
      · rw [List.map_map, List.pairwise_map, List.pairwise_map]
        refine hs.imp fun {x y} h => ?_
        show ltCps (g (unref y)).1.cps.toList (g (unref x)).1.cps.toList = false
        rw [← PyProof.Rows.lt_meets]
        rw [← hkf] at h
        exact h
      · refine paired_selfmap fun t ht => ?_
        have hta := pos.mem_iff.mp ht
        obtain ⟨j, q, e1, e2, e3⟩ := LiI.paired_ix k6 hta
        obtain ⟨k, u, _, _, h1, h2, _⟩ := fact j t e1
        have eg := gat j t k u e1 h1 h2
        obtain ⟨z1, z2⟩ := List.getElem?_zip_eq_some.mp (show ((ks.map V.str).zip (ts.map V.str))[j]? = some (q.1, q.2) from e2)
        rw [List.getElem?_map, h1] at z1
        rw [List.getElem?_map, h2] at z2
        rw [e3, eg, ← Option.some.inj z1, ← Option.some.inj z2]
end
end K87
set_option Elab.async false
set_option linter.all false
set_option maxRecDepth 100000
set_option maxHeartbeats 8000000
/-! G88K: outer_text. -/
namespace K87
open PySem PySem.Spec L2 K00 TL
open PyProof.Rows (envOfC sortedS)
theorem keys_of {kvs : List (Key × V)} {ds : List (PyData × PyData)} (h : kvs.map (·.1) = (ds.map fun p => kS p.1).map Sum.inr) : (kvs.map fun kv => kV kv.1) = (ds.map fun p => kS p.1).map V.str := by
  have e1 : (kvs.map fun kv => kV kv.1) = (kvs.map (·.1)).map kV := by rw [List.map_map]; rfl
  rw [e1, h, List.map_map]
  rfl
def tJn (ts : List TE) : TE := fun σ H Q => tJs ts Str.empty σ H fun out H1 => Q (.str out) H1
theorem pe_joinedN {X : Cx} {v1 v2 : Expr} {rest : List Expr} {ts : List TE} {pos : Pos} (h : PJ X (v1 :: v2 :: rest) ts) : PE X (.JoinedStr (v1 :: v2 :: rest) pos) (tJn ts) := pe_joined h
/-- the sorted rows are those of the sorted fields -/
theorem rows_of {ds : List (PyData × PyData)} {out : List (Str × Str)} (n : (ds.map fun p => kS p.1).Nodup) (hp : out.Perm ((ds.map fun p => kS p.1).zip (ds.map fun p => mk (wr p.2)))) (hs : (out.map (·.1)).Pairwise LeS) :
    out.map (·.1) = fls ds ∧ ∀ q ∈ out, q.1 ∈ ds.map (fun p => kS p.1) ∧ q.2 = mk (wr (lookD ds q.1)) := by
  have e0 : (ds.map fun p => kS p.1).zip (ds.map fun p => mk (wr p.2)) = ds.map fun p => (kS p.1, mk (wr p.2)) := by
    rw [List.zip_map']
  rw [e0] at hp
  refine ⟨?_, fun q hq => ?_⟩
  · have h1 := hp.map (·.1)
    rw [List.map_map] at h1
    exact sorted_same (h1.trans (fls_perm ds).symm) hs (isort_keys_sorted ds)
  · obtain ⟨p, hpm, rfl⟩ := List.mem_map.mp (hp.mem_iff.mp hq)
    exact ⟨List.mem_map.mpr ⟨p, hpm, rfl⟩, by rw [lookD_of n hpm]⟩
section
variable {P : Program} {w : World} {K : PySem.W.Frag} {mg : Str → Option Value} {base : Heap} {f g g2 g3 : Addr} {fd gd gd2 gd3 : FuncData}
/-- the texts of what is in it -/
def insT (d : PyData) : List V := (kids d).map fun p => V.str (mk (wr p))
def spOuter (P : Program) (w : World) : Sp := fun vs H Q _ => ∃ (x : V) (d : PyData) (ih : Addr), vs = [x, .ref ih] ∧ Da P w H x d ∧ Tz d ∧ H ih = some (.lst (insT d)) ∧ ∀ H', Same H H' → Q (.str (mk (wr d))) H'
abbrev NgO : List Str := ["part", "inner", "rows", "field", "told"]
theorem scOuter : FnScope NgO ["part", "inner"] (defScope (top 19)) := ⟨rfl, rfl, rfl, by decide +kernel, rfl, by decide +kernel, by decide +kernel⟩
theorem ok_outer (F : FnD K "outer_text" 19 f fd) (B : Bl mg) (GL : FnOk P w K mg base CX0 1 g gd ["leaf"] (spLeaf P w)) (bL : Binds K gd ["leaf"] []) (kL : PySem.W.keepIn K (.ref g) = true) (gL : mg "leaf_text" = some (.ref g)) :
    FnOk P w K mg base CX0 2 f fd ["part", "inner"] (spOuter P w) := by
  refine F.ok scOuter (fun vs H Q E h => ?_) (fun cdv A outer s H vs Q E hr h => ?_)
  · obtain ⟨x, d, ih, rfl, _⟩ := h
    rfl
  obtain ⟨x, d, ih, rfl, hd, tx, hih, q⟩ := h
  refine ⟨_, PSs.nox (pss_cons (ps_if (pt_val (pe_callB call_isDa (by rfl) B.isi (by decide +kernel) (pa_cons (pv 0) (pa_cons (pe_bltn (v := .ty "list") (by rfl) B.list (by decide +kernel) rfl) pa_nil)))) (pss_one (ps_ret (pe_op op_add_str (pe_op op_add_str pe_str (pe_join pe_str (pv 1))) pe_str))) pss_nil)
    (pss_cons (ps_if (pt_val (pe_callB call_isDa (by rfl) B.isi (by decide +kernel) (pa_cons (pv 0) (pa_cons (pe_bltn (v := .ty "dict") (by rfl) B.dict (by decide +kernel) rfl) pa_nil)))) 
      (pss_cons (ps_set (i := 2) scOuter.nd rfl (Or.inl rfl) (pe_sortedzip rfl (by rfl) B.sorted (by decide +kernel) (by rfl) B.zip (pa_cons (pe_callTy (call_listD rfl) (by rfl) B.list (by decide +kernel) (pa_cons (pv 0) pa_nil)) (pa_cons (pv 1) pa_nil))))
      (pss_one (ps_ret (pe_op op_add_str (pe_op op_add_str pe_str (pe_join pe_str
        (pe_lc (own := [("field", 3), ("told", 4)]) (g := gTup K 2 (gCons (gName 3) (gCons (gName 4) gNil))) (tt := tYes) rfl scOuter.nd (pi_list (pv 2)) (blkOk_by (N := NgO) (sc := defScope (top 19)) (by decide +kernel))
            (fun _ _ _ _ _ => pg_tup (by rfl) (pgs_cons (pg_name (i := 3) scOuter.nd rfl (Or.inl rfl)) (pgs_cons (pg_name (i := 4) scOuter.nd rfl (Or.inl rfl)) pgs_nil))) (fun _ _ _ _ _ => pts_nil)
            (fun _ _ _ _ _ => pe_joinedN (PJ.cons (pe_fmt (pv 3)) (PJ.cons pe_str (PJ.cons (pe_fmt (pv 4)) PJ.nil))))))) pe_str)))) pss_nil)
    (pss_one (ps_ret (pe_call GL hr rfl gL kL bL .nil pass0 (pa_cons (pv 0) pa_nil)))))), ?_⟩
  have l1_ : tl ("[" : Str) = [91] := by decide +kernel
  have l2 : tl ("]" : Str) = [93] := by decide +kernel
  have m1 : tl ("{" : Str) = [123] := by decide +kernel
  have m2 : tl ("}" : Str) = [125] := by decide +kernel
  have c1 : tl (", " : Str) = [44, 32] := by decide +kernel
  have q0 := q H (same_refl H)
  cases hd with
  | non => exact ⟨_, rfl, _, "list", _, _, rfl, .non, kt_l _, _, rfl, iteF ⟨_, rfl, _, "dict", _, _, rfl, .non, kt_k _, _, rfl, iteF ⟨_, rfl, _, _, rfl, .non, tx, rfl, rfl, q⟩⟩⟩
  | bl b => exact ⟨_, rfl, _, "list", _, _, rfl, .bl b, kt_l _, _, rfl, iteF ⟨_, rfl, _, "dict", _, _, rfl, .bl b, kt_k _, _, rfl, iteF ⟨_, rfl, _, _, rfl, .bl b, tx, rfl, rfl, q⟩⟩⟩
  | int b => exact ⟨_, rfl, _, "list", _, _, rfl, .int b, kt_l _, _, rfl, iteF ⟨_, rfl, _, "dict", _, _, rfl, .int b, kt_k _, _, rfl, iteF ⟨_, rfl, _, _, rfl, .int b, tx, rfl, rfl, q⟩⟩⟩
  | str b => exact ⟨_, rfl, _, "list", _, _, rfl, .str b, kt_l _, _, rfl, iteF ⟨_, rfl, _, "dict", _, _, rfl, .str b, kt_k _, _, rfl, iteF ⟨_, rfl, _, _, rfl, .str b, tx, rfl, rfl, q⟩⟩⟩
  | tup h r => exact (Bool.false_ne_true (show false = true from tx.one)).elim
  | @lst a o xs ds h r =>
    refine ⟨_, rfl, _, "list", _, _, rfl, .lst h r, kt_l _, _, rfl, iteT ⟨⟨_, rfl⟩, _, rfl, ?_⟩⟩
    have e : insT (.list ds) = (ds.map wr).map fun l => V.str (mk l) := by rw [List.map_map]; rfl
    rw [e] at hih
    refine wrapZ hih l1_ l2 (by have h1 := tx.len; rw [wr_list, List.length_cons, List.length_append] at h1; rw [c1]; omega) (by rw [List.length_map]; exact tx.sm.1) (by rw [len_tl, c1]; decide) ?_
    · rw [c1, ← wr_list]
      exact q0
  | @dic a o es ds h r =>
    have hk := isOne_keys tx.one
    obtain ⟨kvs, hf, rfl, hks⟩ := doc_dict h r hk
    obtain ⟨s1, s2, s3⟩ := tx.sm
    have big : (1000000 : Nat) ≤ sizeLine := by decide
    refine ⟨_, rfl, _, "list", _, _, rfl, .dic h r, kt_l _, _, rfl, iteF ⟨_, rfl, _, "dict", _, _, rfl, .dic h r, kt_k _, _, rfl, iteT ⟨_, rfl, a, kvs, rfl, .inr ⟨o, hf⟩, fun l hl => ⟨_, rfl, ?_⟩⟩⟩⟩
    have k1 := same_new hl (.lst (kvs.map fun kv => kV kv.1))
    have eI : insT (.dict ds) = (ds.map fun p => mk (wr p.2)).map V.str := by
      show ((ds.map (·.2)).map fun p => V.str (mk (wr p))) = _
      rw [List.map_map, List.map_map]
      rfl
    rw [eI] at hih
    refine ⟨l, ih, ds.map (fun p => kS p.1), ds.map (fun p => mk (wr p.2)), rfl, SqL.of (by rw [upd_same, keys_of hks]), SqL.of (k1 _ _ hih), by rw [List.length_map, List.length_map], s2, fun H1 rh os out k2 hrh hp hs h1 hpr => ?_⟩
    obtain ⟨f1, f2⟩ := rows_of s2 hp hs
    have lo : out.length ≤ 1000 := by
      have := congrArg List.length f1
      rw [List.length_map, (fls_perm ds).length_eq, List.length_map] at this
      omega
    have los : os.length = out.length := Paired.length hpr
    refine ⟨⟨_, rfl⟩, _, rfl, rh, rfl, ⟨_, SqL.of h1⟩, fun D hD => ?_⟩
    refine lc_it (walk_list (K := K) (a := rh) (xs := os.map V.ref)) (fun i H2 => Same H1 H2 ∧ H2 D = some (.lst (((out.take i).map fun q => wrow ds q.1).map fun l => V.str (mk l)))) ⟨same_new hD _, upd_same⟩ (fun _ H2 _ z => SqL.of (z.1 _ _ h1)) ?_ ?_
    · rintro i v H2 H2' hi ⟨k3, hD2⟩ ⟨rfl, hv⟩
      rw [List.length_map] at hi
      rw [List.getElem?_map, List.getElem?_eq_getElem hi] at hv
      have hv' : V.ref os[i] = v := Option.some.inj hv
      subst hv'
      obtain ⟨qq, hq, htq⟩ := LiI.paired_get hpr (List.getElem?_eq_getElem hi)
      obtain ⟨g1, g2⟩ := f2 qq (List.mem_of_getElem? hq)
      obtain ⟨hn, p, hpm, hpk, hpl, hm⟩ := Tz.key tx.one g1
      have kn := name_len hn
      rw [← len_tl] at kn
      have wp := (tx.kid hm).len
      have e2l : qq.2.length = (wr (lookD ds qq.1)).length := by rw [g2]; rfl
      rw [hpl] at e2l
      have n1 : (": " : Str).length = 2 := by decide
      have e58 : tl (": " : Str) = [58, 32] := by decide +kernel
      have z0 : tl Str.empty = [] := by decide +kernel
      refine ⟨_, _, rfl, SqT.of (k3 _ _ htq), rfl, V.str qq.1, [V.str qq.2], rfl, V.str qq.2, [], rfl, rfl, rfl, ?_⟩
      simp only [tYes, if_true]
      refine ⟨_, rfl, .inl ⟨_, rfl, by omega, _, rfl, ?_, _, rfl, ?_, _, rfl, .inl ⟨_, rfl, by omega, _, rfl, ?_, _, hD2, K00.small1000 (by rw [List.length_map, List.length_map, List.length_take]; omega), fun b o' e => ?_, ?_⟩⟩⟩
      · rw [len_tl, tl_append, z0, List.nil_append, ← len_tl]
        omega
      · show ((Str.empty ++ qq.1) ++ (": " : Str)).length ≤ _
        rw [len_tl, tl_append, tl_append, z0, List.nil_append, List.length_append, ← len_tl, ← len_tl]
        omega
      · show (((Str.empty ++ qq.1) ++ (": " : Str)) ++ qq.2).length ≤ _
        rw [len_tl, tl_append, tl_append, tl_append, z0, List.nil_append, List.length_append, List.length_append, ← len_tl, ← len_tl, ← len_tl]
        omega
      · rw [upd_ne (ne_of_none e hD)]
        exact k3 _ _ e
      · rw [upd_same, List.take_add_one, hq]
        simp only [Option.toList_some, List.map_append, List.map_cons, List.map_nil]
        congr 4
        refine congrArg V.str (ext_tl ?_)
        show tl (((Str.empty ++ qq.1) ++ (": " : Str)) ++ qq.2) = tl qq.1 ++ (58 :: 32 :: wr (lookD ds qq.1))
        rw [tl_append, tl_append, tl_append, z0, e58, g2, List.nil_append, List.append_assoc]
        rfl
    · rintro H2 ⟨k3, hD2⟩
      rw [List.length_map, los, List.take_length] at hD2
      have eF : (out.map fun q => wrow ds q.1) = (fls ds).map (wrow ds) := by rw [← f1, List.map_map]; rfl
      rw [eF] at hD2
      refine wrapZ hD2 m1 m2 (by have h1 := tx.len; rw [wr_dictF s2, List.length_cons, List.length_append] at h1; rw [c1]; omega) (by rw [List.length_map, (fls_perm ds).length_eq, List.length_map]; omega) (by rw [len_tl, c1]; decide) ?_
      · rw [c1, ← wr_dictF s2]
        exact q _ ((k1.trans k2).trans k3)
end
end K87
set_option Elab.async false
set_option linter.all false
set_option maxRecDepth 100000
set_option maxHeartbeats 8000000
/-! G88L: parts_of, in their sequence; text_of. -/
namespace K87
open PySem PySem.Spec L2 K00 TL
open PyProof.Rows (envOfC sortedS)
def off (ps : List PyData) (i : Nat) : Nat := 1 + ((ps.take i).map kids).flatten.length
/-- the parts, each one's own behind all that came before -/
structure Bfs (d : PyData) (i : Nat) (ps : List PyData) : Prop where
  le : i ≤ ps.length
  eq : ps = d :: ((ps.take i).map kids).flatten
  lt : ∀ j, j < i → j < off ps j
theorem Bfs.start (d : PyData) : Bfs d 0 [d] := ⟨Nat.zero_le _, rfl, fun _ h => absurd h (Nat.not_lt_zero _)⟩
theorem Bfs.step {root d : PyData} {i : Nat} {ps : List PyData} (w : Bfs root i ps) (h : ps[i]? = some d) : Bfs root (i + 1) (ps ++ kids d) := by
  obtain ⟨hi, hd⟩ := List.getElem?_eq_some_iff.mp h
  have e4 : ∀ j, j ≤ i + 1 → (ps ++ kids d).take j = ps.take j := fun j hj => List.take_append_of_le_length (by omega)
  have e2 : ps.take (i + 1) = ps.take i ++ [d] := by rw [← List.take_append_getElem hi, hd]
  have lo : off ps i = ps.length := by
    have := congrArg List.length w.eq
    rw [List.length_cons] at this
    unfold off
    omega
  refine ⟨by rw [List.length_append]; omega, ?_, fun j hj => ?_⟩
  · rw [e4 _ (Nat.le_refl _), e2, List.map_append, List.flatten_append]
    have : ps ++ kids d = (root :: ((ps.take i).map kids).flatten) ++ kids d := congrArg (· ++ kids d) w.eq
    rw [this]
    simp
  · have : off (ps ++ kids d) j = off ps j := by
      unfold off
      rw [e4 j (by omega)]
    rw [this]
    by_cases hji : j = i
    · subst hji
      omega
    · exact w.lt j (by omega)
theorem off_succ {ps : List PyData} {j : Nat} {p : PyData} (h : ps[j]? = some p) : off ps (j + 1) = off ps j + (kids p).length := by
  obtain ⟨hi, hd⟩ := List.getElem?_eq_some_iff.mp h
  have e2 : ps.take (j + 1) = ps.take j ++ [p] := by rw [← List.take_append_getElem hi, hd]
  unfold off
  rw [e2, List.map_append, List.flatten_append, List.length_append]
  simp
  omega
/-- the inner parts stand behind each other -/
theorem Bfs.slice {d p : PyData} {ps : List PyData} {j : Nat} (w : Bfs d ps.length ps) (h : ps[j]? = some p) : (ps.drop (off ps j)).take (kids p).length = kids p := by
  obtain ⟨hi, hd⟩ := List.getElem?_eq_some_iff.mp h
  have e := w.eq
  rw [List.take_length] at e
  have e1 : ps = ps.take j ++ p :: ps.drop (j + 1) := by
    rw [← hd, ← List.drop_eq_getElem_cons hi, List.take_append_drop]
  have e3 : (ps.map kids).flatten = ((ps.take j).map kids).flatten ++ (kids p ++ ((ps.drop (j + 1)).map kids).flatten) := by
    have := congrArg (fun l => (List.map kids l).flatten) e1
    simpa using this
  have e5 : ps.drop (off ps j) = kids p ++ ((ps.drop (j + 1)).map kids).flatten := by
    unfold off
    generalize hL : ((ps.take j).map kids).flatten = L at e3 ⊢
    generalize hM : ((ps.drop (j + 1)).map kids).flatten = M at e3 ⊢
    rw [e, e3, Nat.add_comm 1, List.drop_succ_cons, List.drop_left]
  rw [e5, List.take_left]
theorem Bfs.full {d : PyData} {ps : List PyData} (w : Bfs d ps.length ps) : off ps ps.length = ps.length := by
  have := congrArg List.length w.eq
  rw [List.length_cons] at this
  unfold off
  omega
theorem ixN_nat7 {n j : Nat} (hj : j < n) : ixN n (j : Int) = some j := by
  unfold ixN
  rw [if_pos (by omega), if_pos (by omega)]
  simp
theorem cut_mid {xs : List V} {lo hi : Nat} (h1 : lo ≤ hi) (h2 : hi ≤ xs.length) : cutV xs (some (lo : Int)) (some (hi : Int)) = (xs.drop lo).take (hi - lo) := by
  unfold cutV
  rw [HT.sIx_nat, HT.sIx_nat, Nat.min_eq_left h2, Nat.min_eq_left (by omega)]
section
variable {P : Program} {w : World} {K : PySem.W.Frag} {mg : Str → Option Value} {base : Heap} {f g g2 g3 : Addr} {fd gd gd2 gd3 : FuncData}
def spInner7 (P : Program) (w : World) : Sp := fun vs H Q _ => ∃ (x : V) (d : PyData), vs = [x] ∧ Da P w H x d ∧ ∀ l ys, H l = none → DaL P w H ys (kids d) → Q (.ref l) (upd H l (.lst ys))
theorem ok_inner7 (F : FnD K "inner_parts" 9 f fd) (B : Bl mg) : FnOk P w K mg base CX0 1 f fd ["value"] (spInner7 P w) := by
  refine F.ok scInner (fun vs H Q E h => ?_) (fun cdv A outer s H vs Q E hr h => ?_)
  · obtain ⟨x, d, rfl, _⟩ := h
    rfl
  obtain ⟨x, d, rfl, hd, q⟩ := h
  refine ⟨_, PSs.nox (pss_cons (ps_if (pt_val (pe_callB call_isDa (by rfl) B.isi (by decide +kernel) (pa_cons (pv 0) (pa_cons (pe_bltn (v := .ty "list") (by rfl) B.list (by decide +kernel) rfl) pa_nil)))) (pss_one (ps_ret
        (pe_callTy call_list_of (by rfl) B.list (by decide +kernel) (pa_cons (pv 0) pa_nil)))) pss_nil)
    (pss_cons (ps_if (pt_val (pe_callB call_isDa (by rfl) B.isi (by decide +kernel) (pa_cons (pv 0) (pa_cons (pe_bltn (v := .ty "dict") (by rfl) B.dict (by decide +kernel) rfl) pa_nil)))) (pss_one (ps_ret
        (pe_listVals rfl (pv 0) rfl B.list (by decide +kernel)))) pss_nil)
    (pss_one (ps_ret (pe_lst pa_nil))))), ?_⟩
  cases hd with
  | non => exact ⟨_, rfl, _, "list", _, _, rfl, .non, kt_l _, _, rfl, iteF ⟨_, rfl, _, "dict", _, _, rfl, .non, kt_k _, _, rfl, iteF ⟨(by show 0 ≤ sizeLine; decide), fun l hl => q l [] hl .nil⟩⟩⟩
  | bl b => exact ⟨_, rfl, _, "list", _, _, rfl, .bl b, kt_l _, _, rfl, iteF ⟨_, rfl, _, "dict", _, _, rfl, .bl b, kt_k _, _, rfl, iteF ⟨(by show 0 ≤ sizeLine; decide), fun l hl => q l [] hl .nil⟩⟩⟩
  | int i => exact ⟨_, rfl, _, "list", _, _, rfl, .int i, kt_l _, _, rfl, iteF ⟨_, rfl, _, "dict", _, _, rfl, .int i, kt_k _, _, rfl, iteF ⟨(by show 0 ≤ sizeLine; decide), fun l hl => q l [] hl .nil⟩⟩⟩
  | str y => exact ⟨_, rfl, _, "list", _, _, rfl, .str y, kt_l _, _, rfl, iteF ⟨_, rfl, _, "dict", _, _, rfl, .str y, kt_k _, _, rfl, iteF ⟨(by show 0 ≤ sizeLine; decide), fun l hl => q l [] hl .nil⟩⟩⟩
  | tup h r => exact ⟨_, rfl, _, "list", _, _, rfl, .tup h r, kt_l _, _, rfl, iteF ⟨_, rfl, _, "dict", _, _, rfl, .tup h r, kt_k _, _, rfl, iteF ⟨(by show 0 ≤ sizeLine; decide), fun l hl => q l [] hl .nil⟩⟩⟩
  | @lst a o xs ds h r =>
    exact ⟨_, rfl, _, "list", _, _, rfl, .lst h r, kt_l _, _, rfl, iteT ⟨_, rfl, a, xs, rfl, .inl (.inl (.inr ⟨o, h⟩)), fun l hl => q l xs hl r⟩⟩
  | @dic a o es ds h r =>
    exact ⟨_, rfl, _, "list", _, _, rfl, .dic h r, kt_l _, _, rfl, iteF ⟨_, rfl, _, "dict", _, _, rfl, .dic h r, kt_k _, _, rfl, iteT ⟨_, rfl, a, o, es, rfl, h, fun l hl => q l _ hl r.values⟩⟩⟩
def spParts7 (P : Program) (w : World) : Sp := fun vs H Q _ => ∃ (x : V) (d : PyData), vs = [x] ∧ Da P w H x d ∧ Tz d ∧ cnt d ≤ 1000000 ∧
  ∀ l H' ys ps, Same H H' → H l = none → H' l = some (.lst ys) → DaL P w H' ys ps → (∀ p ∈ ps, Tz p) → Bfs d ps.length ps → ps.length = cnt d → Q (.ref l) H'
theorem ok_parts7 (F : FnD K "parts_of" 10 f fd) (B : Bl mg) (G : FnOk P w K mg base CX0 1 g gd ["value"] (spInner7 P w)) (bG : Binds K gd ["value"] []) (kG : PySem.W.keepIn K (.ref g) = true) (gG : mg "inner_parts" = some (.ref g)) :
    FnOk P w K mg base CX0 2 f fd ["value"] (spParts7 P w) := by
  refine F.ok scParts (fun vs H Q E h => ?_) (fun cdv A outer s H vs Q E hr h => ?_)
  · obtain ⟨x, d, rfl, _⟩ := h
    rfl
  obtain ⟨x, d, rfl, hd, tx, hc, q⟩ := h
  refine ⟨_, PSs.nox (pss_cons (ps_set (i := 1) scParts.nd rfl (Or.inl rfl) (pe_lst (pa_cons (pv 0) pa_nil)))
    (pss_cons (ps_set (i := 2) scParts.nd rfl (Or.inl rfl) pe_int)
    (pss_cons (ps_while PassesOwn.never (pt_cmpR op_lt (pv 2) (pe_callB call_len_seq (by rfl) B.len PySem.boot_len (pa_cons (pv 1) pa_nil)) (nomark _))
      (pss_cons (ps_expr (pe_bm PySem.F.plainAttrs_list PySem.F.slot_list_extend PySem.F.type_list_extend mt_extend (pv 1)
        (pa_cons (pe_call G hr rfl gG kG bG .nil pass0 (pa_cons (pe_ix ix_list (pv 1) (pv 2) (fun _ _ => rfl)) pa_nil)) pa_nil)))
      (pss_one (ps_aug (i := 2) scParts.nd rfl (Or.inl rfl) pe_int ip_add))))
    (pss_one (ps_ret (pv 1)))))), ?_⟩
  refine ⟨_, rfl, (by show 1 ≤ sizeLine; decide), fun l hl => ?_⟩
  refine ⟨fun m σ H' => ∃ (n_1 : Nat) (ys : List V) (ps : List PyData), m + n_1 = cnt d ∧ σ = [some x, some (.ref l), some (.int n_1)] ∧ H' l = some (.lst ys) ∧ Same H H' ∧ DaL P w H' ys ps ∧ (∀ p ∈ ps, Tz p) ∧ Wide d n_1 ps ∧ Bfs d n_1 ps,
    ⟨cnt d, 0, [x], [d], rfl, rfl, upd_same, same_new hl _, .cons (hd.kp (.new hl _)) .nil, fun p hp => by rw [List.mem_singleton.mp hp]; exact tx, .start d, .start d⟩, ?_⟩
  rintro m σ H' ⟨i, ys, ps, hmn, rfl, hH, k, hD, hS, W, Bf⟩
  have hlen := hD.length
  refine ⟨_, rfl, _, rfl, l, _, rfl, .inl (SqL.of hH), _, _, rfl, rfl, _, rfl, ?_⟩
  refine ite2 (fun c => ?_) (fun c => ?_)
  · have c' : (i : Int) < (ys.length : Int) := of_decide_eq_true c
    have hn : i < ys.length := by omega
    have hnp : i < ps.length := by omega
    have hlt := W.lt hnp
    obtain ⟨y, hy⟩ : ∃ y, ys[i]? = some y := ⟨ys[i], List.getElem?_eq_getElem hn⟩
    obtain ⟨p, hp, hyp⟩ := hD.get hy
    have W2 := W.step hp
    have B2 := Bf.step hp
    have hl2 := W2.len
    have txp := hS p (List.mem_of_getElem? hp)
    refine ⟨fun σ' H'' => ∃ (ys' : List V) (ps' : List PyData), σ' = [some x, some (.ref l), some (.int ((i + 1 : Nat) : Int))] ∧ H'' l = some (.lst ys') ∧ Same H H'' ∧ DaL P w H'' ys' ps' ∧ (∀ p ∈ ps', Tz p) ∧ Wide d (i + 1) ps' ∧ Bfs d (i + 1) ps',
      fun σ' H'' ⟨ys', ps', z⟩ => ⟨m - 1, by omega, i + 1, ys', ps', by omega, z⟩, ?_⟩
    refine ⟨_, rfl, .inl ⟨rfl, _, SqL.of hH⟩, _, rfl, _, rfl, l, _, _, _, rfl, rfl, SqL.of hH, atI_nat hy, ?_⟩
    refine ⟨y, p, rfl, hyp, fun b zs hb hz => ?_⟩
    have nlb : l ≠ b := ne_of_none hH hb
    have hzl := hz.length
    rw [List.length_append] at hl2
    refine ⟨l, b, ys, zs, rfl, rfl, ?_, upd_same, Nat.le_of_lt (smallM (by omega)), ?_⟩
    · rw [upd_ne nlb]
      exact hH
    · have k2 : Kp H' (upd (upd H' b (.lst zs)) l (.lst (ys ++ zs))) := (Kp.new hb _).trans (.lst (by rw [upd_ne nlb]; exact hH) _)
      refine ⟨_, rfl, _, _, rfl, rfl, ys ++ zs, ps ++ kids p, rfl, upd_same, fun c o e => ?_, (hD.kp k2).append (hz.kp k2), fun p' hp' => ?_, W2, B2⟩
      · by_cases ec : c = l
        · rw [ec, hl] at e
          cases e
        · rw [upd_ne ec]
          exact (k.trans (same_new hb _)) c o e
      · rcases List.mem_append.mp hp' with h1 | h1
        · exact hS p' h1
        · exact txp.kid h1
  · have c' : ¬ (i : Int) < (ys.length : Int) := fun z => c (decide_eq_true z)
    obtain ⟨e1, e2⟩ := W.done (by omega)
    have ei : i = ps.length := by have := Bf.le; omega
    subst ei
    exact ⟨_, rfl, q l H' ys ps k hl hH hD hS Bf e1⟩
/-! ### text_of -/
def spText (P : Program) (w : World) : Sp := fun vs H Q _ => ∃ (x : V) (d : PyData), vs = [x] ∧ Da P w H x d ∧ Tz d ∧ cnt d ≤ 900 ∧ ∀ H', Same H H' → Q (.str (mk (wr d))) H'
abbrev NgX : List Str := ["document", "parts", "told", "_", "end", "at", "start"]
theorem scText : FnScope NgX ["document"] (defScope (top 20)) := ⟨rfl, rfl, rfl, by decide +kernel, rfl, by decide +kernel, by decide +kernel⟩
theorem ok_text (F : FnD K "text_of" 20 f fd) (B : Bl mg) (hrev : mg "reversed" = none)
    (GP : FnOk P w K mg base CX0 2 g gd ["value"] (spParts7 P w)) (bP : Binds K gd ["value"] []) (kP : PySem.W.keepIn K (.ref g) = true) (gP : mg "parts_of" = some (.ref g))
    (GI : FnOk P w K mg base CX0 1 g2 gd2 ["value"] (spInner7 P w)) (bI : Binds K gd2 ["value"] []) (kI : PySem.W.keepIn K (.ref g2) = true) (gI : mg "inner_parts" = some (.ref g2))
    (GO : FnOk P w K mg base CX0 2 g3 gd3 ["part", "inner"] (spOuter P w)) (bO : Binds K gd3 ["part", "inner"] []) (kO : PySem.W.keepIn K (.ref g3) = true) (gO : mg "outer_text" = some (.ref g3)) :
    FnOk P w K mg base CX0 3 f fd ["document"] (spText P w) := by
  refine F.ok scText (fun vs H Q E h => ?_) (fun cdv A outer s H vs Q E hr h => ?_)
  · obtain ⟨x, d, rfl, _⟩ := h
    rfl
  obtain ⟨x, d, rfl, hd, tx, hc, q⟩ := h
  have hr1 : Room 1 _ := hr.mono (by decide)
  refine ⟨_, PSs.nox (pss_cons (ps_set (i := 1) scText.nd rfl (Or.inl rfl) (pe_call GP hr rfl gP kP bP .nil pass0 (pa_cons (pv 0) pa_nil)))
    (pss_cons (ps_setLc (i := 2) (own := [("_", 3)]) (g := gName 3) (tt := tYes) rfl scText.nd rfl rfl (sw_true rfl rfl rfl (by decide +kernel)) (pi_list (pv 1)) (blkOk_by (N := NgX) (sc := defScope (top 20)) (by decide +kernel))
        (fun _ _ _ _ _ => pg_name (i := 3) scText.nd rfl (Or.inl rfl)) (fun _ _ _ _ _ => pts_nil) (fun _ _ _ _ _ => pe_str))
    (pss_cons (ps_set (i := 4) scText.nd rfl (Or.inl rfl) (pe_callB call_len_seq (by rfl) B.len PySem.boot_len (pa_cons (pv 1) pa_nil)))
    (pss_cons (ps_for PassesOwn.never rfl (pi_revR (by rfl) hrev (prg_1 (by rfl) B.range (pe_callB call_len_seq (by rfl) B.len PySem.boot_len (pa_cons (pv 1) pa_nil)))) (pg_name (i := 5) scText.nd rfl (Or.inl rfl))
      (pss_cons (ps_set (i := 6) scText.nd rfl (Or.inl rfl) (pe_op op_sub (pv 4) (pe_callB call_len_seq (by rfl) B.len PySem.boot_len (pa_cons (pe_call GI hr1 rfl gI kI bI .nil pass0 (pa_cons (pe_ix ix_list (pv 1) (pv 5) (fun _ _ => rfl)) pa_nil)) pa_nil))))
      (pss_cons (ps_asg (pe_call GO hr rfl gO kO bO .nil pass0 (pa_cons (pe_ix ix_list (pv 1) (pv 5) (fun _ _ => rfl)) (pa_cons (pe_slice sl_list (pv 2) (po_some (pv 6)) (po_some (pv 4))) pa_nil))) (pg_sub (pv 2) (pv 5) set_list))
      (pss_one (ps_set (i := 4) scText.nd rfl (Or.inl rfl) (pv 6))))))
    (pss_one (ps_ret (pe_ix ix_list (pv 2) pe_int (fun _ _ => rfl)))))))), ?_⟩
  have two : (2 : Nat) ≤ sizeLine := by decide
  refine ⟨_, rfl, x, d, rfl, hd, tx, by omega, fun l H1 ys ps k1 hl hl1 hD hT Bf hc1 => ?_⟩
  have hlen := hD.length
  have lys : ys.length ≤ 900 := by omega
  refine ⟨_, rfl, l, rfl, ⟨_, SqL.of hl1⟩, fun D hDn => ?_⟩
  have nDl : l ≠ D := ne_of_none hl1 hDn
  refine lc_it (walk_list (K := K) (a := l) (xs := ys)) (fun i H2 => Same H1 H2 ∧ H2 D = some (.lst (List.replicate i (.str "")))) ⟨same_new hDn _, upd_same⟩ (fun _ H2 _ z => SqL.of (z.1 _ _ hl1)) ?_ ?_
  · rintro i v H2 H2' hi ⟨k2, hD2⟩ ⟨rfl, hv⟩
    refine ⟨rfl, ?_⟩
    simp only [tYes, if_true]
    refine ⟨_, hD2, K00.small1000 (by rw [List.length_replicate]; omega), fun b o e => ?_, ?_⟩
    · rw [upd_ne (ne_of_none e hDn)]
      exact k2 _ _ e
    · rw [upd_same, List.replicate_succ']
  rintro H2 ⟨k2, hD2⟩
  have eN : ys.length = ps.length := hlen
  rw [eN] at hD2
  have hl2 := k2 _ _ hl1
  refine ⟨_, rfl, l, _, rfl, .inl (SqL.of hl2), ?_⟩
  refine ⟨_, rfl, l, _, rfl, .inl (SqL.of hl2), _, rfl, by omega, by omega, by omega, by omega, ?_⟩
  have eT : ((ys.length : Int) - 0).toNat = ps.length := by omega
  rw [eT]
  have kH : Same H H2 := k1.trans k2
  refine for_it walk_rangeC (fun i σ H3 => ∃ (tv sv : Option V) (r : Nat), r + i = ps.length ∧ σ = [some x, some (.ref l), some (.ref D), none, some (.int (off ps r : Nat)), tv, sv] ∧ H3 l = some (.lst ys) ∧
      H3 D = some (.lst (List.replicate r (.str "") ++ (ps.drop r).map fun p => V.str (mk (wr p)))) ∧ Same H H3 ∧ DaL P w H3 ys ps)
    ⟨none, none, ps.length, rfl, by rw [Bf.full, ← eN]; rfl, hl2, by rw [hD2, List.drop_length]; simp, kH, hD.kp (.same k2)⟩ (fun _ _ _ _ _ => trivial) ?turn ?after
  case turn =>
    rintro i v σ H3 H3' hi ⟨tv, sv, r, hri, rfl, h3l, h3D, k3, hD3⟩ ⟨rfl, rfl⟩
    obtain ⟨j, rfl⟩ : ∃ j, r = j + 1 := ⟨r - 1, by omega⟩
    have hj : j < ys.length := by omega
    obtain ⟨y, hy⟩ : ∃ y, ys[j]? = some y := ⟨ys[j], List.getElem?_eq_getElem hj⟩
    obtain ⟨p, hp, hyp⟩ := hD3.get hy
    have txp := hT p (List.mem_of_getElem? hp)
    have ej : (0 + (ps.length : Nat) - 1 + (i : Nat) * -1 : Int) = (j : Nat) := by omega
    show gName 5 (V.int (0 + (ps.length : Nat) - 1 + (i : Nat) * -1 : Int)) _ _ _
    rw [ej]
    have oS := off_succ hp
    have oj : j < off ps j := Bf.lt j (by omega)
    refine ⟨_, rfl, _, rfl, _, rfl, l, _, _, _, rfl, rfl, SqL.of h3l, atI_nat hy, y, p, rfl, hyp, fun b zs hb hz => ⟨b, zs, rfl, .inl (SqL.of upd_same), _, _, rfl, rfl, ?_⟩⟩
    have k4 := same_new hb (.lst zs)
    have hzl := hz.length
    have eS : ((off ps (j + 1) : Nat) : Int) - (zs.length : Nat) = (off ps j : Nat) := by omega
    show gName 6 (V.int (((off ps (j + 1) : Nat) : Int) - (zs.length : Nat))) _ _ _
    rw [eS]
    have h4l : upd H3' b (.lst zs) l = some (.lst ys) := k4 _ _ h3l
    have h4D := k4 _ _ h3D
    have offle : off ps (j + 1) ≤ ps.length := by
      have := Bf.full
      have hm : off ps (j + 1) ≤ off ps ps.length := by
        unfold off
        have : ((ps.take (j + 1)).map kids).flatten.length ≤ ((ps.take ps.length).map kids).flatten.length := by
          have e : ps.take ps.length = ps.take (j + 1) ++ ps.drop (j + 1) := by rw [List.take_length, List.take_append_drop]
          rw [e, List.map_append, List.flatten_append, List.length_append]
          omega
        omega
      omega
    have eC : cutV (List.replicate (j + 1) (V.str "") ++ (ps.drop (j + 1)).map fun p => V.str (mk (wr p))) (some (off ps j : Nat)) (some (off ps (j + 1) : Nat)) = insT p := by
      rw [cut_mid (by omega) (by rw [List.length_append, List.length_replicate, List.length_map, List.length_drop]; omega), oS, Nat.add_sub_cancel_left]
      have e1 : (List.replicate (j + 1) (V.str "") ++ (ps.drop (j + 1)).map fun p => V.str (mk (wr p))).drop (off ps j) = (ps.drop (off ps j)).map fun p => V.str (mk (wr p)) := by
        rw [List.drop_append, List.drop_eq_nil_of_le (by rw [List.length_replicate]; omega), List.nil_append, List.length_replicate, ← List.map_drop, List.drop_drop]
        congr 2
        omega
      rw [e1, ← List.map_take, Bf.slice hp]
      rfl
    refine ⟨_, rfl, _, rfl, l, _, _, _, rfl, rfl, SqL.of h4l, atI_nat hy, _, rfl, _, rfl, _, rfl, _, rfl, _, rfl, D, _, rfl, SqL.of h4D, fun ih hih => ⟨y, p, ih, rfl, ?_, txp, ?_, fun H5 k5 => ⟨_, rfl, _, rfl, D, _, _, j, rfl, rfl, k5 _ _ ((same_new hih _) _ _ h4D), ?_, ?_⟩⟩⟩
    · exact hyp.kp (.same (k4.trans (same_new hih _)))
    · rw [upd_same, eC]
    · rw [List.length_append, List.length_replicate, List.length_map, List.length_drop]
      exact ixN_nat7 (by omega)
    · refine ⟨_, rfl, _, _, j, by omega, rfl, ?_, ?_, ?_, ?_⟩
      · rw [upd_ne nDl]
        exact k5 _ _ ((same_new hih _) _ _ h4l)
      · rw [upd_same]
        congr 2
        have e5 : ps.drop j = p :: ps.drop (j + 1) := by
          obtain ⟨z1, z2⟩ := List.getElem?_eq_some_iff.mp hp
          rw [← z2]
          exact List.drop_eq_getElem_cons z1
        rw [List.set_append_left _ _ (by rw [List.length_replicate]; omega), e5, List.map_cons, List.replicate_succ', List.set_append_right _ _ (by rw [List.length_replicate]; omega), List.length_replicate, Nat.sub_self, List.append_assoc]
        rfl
      · intro c o e
        rw [upd_ne (ne_of_none e (Same.free k1 hDn))]
        exact k5 _ _ ((same_new hih _) _ _ (k4 _ _ (k3 _ _ e)))
      · exact hD3.kp ((((Kp.same k4).trans (.same (same_new hih _))).trans (.same k5)).trans (.lst (k5 _ _ ((same_new hih _) _ _ h4D)) _))
  case after =>
    rintro σ H3 ⟨tv, sv, r, hri, rfl, h3l, h3D, k3, hD3⟩
    have r0 : r = 0 := by omega
    subst r0
    rw [List.replicate_zero, List.nil_append, List.drop_zero] at h3D
    have e0 : (ps.map fun p => V.str (mk (wr p)))[0]? = some (V.str (mk (wr d))) := by
      have := Bf.eq
      rw [this]
      rfl
    exact ⟨_, rfl, D, _, 0, _, rfl, rfl, SqL.of h3D, atI_nat e0, q _ k3⟩
end
end K87
set_option Elab.async false
set_option linter.all false
set_option maxRecDepth 100000
set_option maxHeartbeats 8000000
/-! G88M: check_document, show_document, of any data. -/
namespace K87
open PySem PySem.Spec L2 K00 TL
open PyProof.Rows (envOfC sortedS)
theorem ps_no {X : Cx} {s : Stmt} : PS X s (fun _ _ _ => False) := ⟨fun _ _ _ _ _ _ h => h.elim⟩
section
variable {P : Program} {w : World} {K : PySem.W.Frag} {mg : Str → Option Value} {base : Heap} {f g g2 g3 C fI : Addr} {fd gd gd2 gd3 : FuncData}
def spCheck (P : Program) (w : World) (C : Addr) : Sp := fun vs H Q E => ∃ (x : V) (d : PyData), vs = [x] ∧ Da P w H x d ∧ Sm d ∧ cnt d ≤ 1000000 ∧
  (isOne d = false → ∀ dd H', Same H H' → H' dd = some (.xd [(("value" : Str), x)]) → E (.ref C) (some dd) H') ∧ (isOne d = true → ∀ H', Same H H' → Q .non H')
theorem scCheck : FnScope ["document"] ["document"] (defScope (top 14)) := ⟨rfl, rfl, rfl, by decide +kernel, rfl, by decide +kernel, by decide +kernel⟩
theorem ok_check (F : FnD K "check_document" 14 f fd) (GD : FnOk P w K mg base CX0 3 g gd ["value"] (spIsDoc P w)) (bD : Binds K gd ["value"] []) (kD : PySem.W.keepIn K (.ref g) = true) (gD : mg "is_document" = some (.ref g))
    (T : ErrT K C fI) (T0 : InitT K fI) (gC : mg "NoDocument" = some (.ref C)) : FnOk P w K mg base (L2.CX P w) 4 f fd ["document"] (spCheck P w C) := by
  refine F.ok scCheck (fun vs H Q E h => ?_) (fun cdv A outer s H vs Q E hr h => ?_)
  · obtain ⟨x, d, rfl, _⟩ := h
    rfl
  obtain ⟨x, d, rfl, hd, sm, hc, q1, q2⟩ := h
  refine ⟨_, pss_one (ps_if (pt_not (pt_val (pe_call GD hr rfl gD kD bD .nil pass0 (pa_cons (pv 0) pa_nil)))) (pss_one (ps_raise rfl (takes_of rfl rfl rfl rfl) (pmk_err T T0 gC hr (pa_cons (pv 0) pa_nil)))) pss_nil), ?_⟩
  refine ⟨_, rfl, x, d, rfl, hd, sm, hc, fun H1 k1 => ⟨_, rfl, ?_⟩⟩
  cases o : isOne d with
  | false =>
    refine iteT ⟨_, rfl, _, rfl, fun dd hdd => ?_⟩
    exact q1 o dd _ (k1.trans (same_new hdd _)) upd_same
  | true => exact q2 o H1 k1
def spShow (P : Program) (w : World) (C : Addr) : Sp := fun vs H Q E => ∃ (x : V) (d : PyData), vs = [x] ∧ Da P w H x d ∧ Sm d ∧ cnt d ≤ 900 ∧
  (isOne d = false → ∀ dd H', Same H H' → H' dd = some (.xd [(("value" : Str), x)]) → E (.ref C) (some dd) H') ∧ (isOne d = true → Tz d ∧ ∀ H', Same H H' → Q (.str (mk (wr d))) H')
theorem scShow : FnScope ["document"] ["document"] (defScope (top 21)) := ⟨rfl, rfl, rfl, by decide +kernel, rfl, by decide +kernel, by decide +kernel⟩
theorem ok_show (F : FnD K "show_document" 21 f fd) (GC : FnOk P w K mg base (L2.CX P w) 4 g gd ["document"] (spCheck P w C)) (bC : Binds K gd ["document"] []) (kC : PySem.W.keepIn K (.ref g) = true) (gC : mg "check_document" = some (.ref g))
    (GT : FnOk P w K mg base CX0 3 g2 gd2 ["document"] (spText P w)) (bT : Binds K gd2 ["document"] []) (kT : PySem.W.keepIn K (.ref g2) = true) (gT : mg "text_of" = some (.ref g2)) :
    FnOk P w K mg base (L2.CX P w) 5 f fd ["document"] (spShow P w C) := by
  refine F.ok scShow (fun vs H Q E h => ?_) (fun cdv A outer s H vs Q E hr h => ?_)
  · obtain ⟨x, d, rfl, _⟩ := h
    rfl
  obtain ⟨x, d, rfl, hd, sm, hc, q1, q2⟩ := h
  have hr3 : Room 3 _ := hr.mono (by decide)
  refine ⟨_, pss_cons (ps_expr (pe_call GC hr rfl gC kC bC .nil (passes_call (takes_of rfl rfl rfl rfl) (fun _ _ _ _ z => z)) (pa_cons (pv 0) pa_nil))) (pss_one (ps_ret (pe_call GT hr3 rfl gT kT bT .nil pass0 (pa_cons (pv 0) pa_nil)))), ?_⟩
  refine ⟨_, rfl, x, d, rfl, hd, sm, by omega, q1, fun od H1 k1 => ?_⟩
  obtain ⟨tz, q3⟩ := q2 od
  exact ⟨_, rfl, x, d, rfl, hd.kp (.same k1), tz, hc, fun H2 k2 => q3 H2 (k1.trans k2)⟩
end
end K87
set_option Elab.async false
set_option linter.all false
set_option maxRecDepth 100000
set_option maxHeartbeats 8000000
/-! G87N: string_end, token_end. -/
namespace K87
open PySem PySem.Spec L2 K00 TL
open PyProof.Rows (envOfC sortedS)
/-- how far a string goes, its quotes aside -/
def sE : List Nat → Nat
  | [] => 0
  | [c] => if c = 34 then 0 else if c = 92 then 2 else 1
  | c :: d :: r => if c = 34 then 0 else if c = 92 then 2 + sE r else 1 + sE (d :: r)
theorem sE_quote (r : List Nat) : sE (34 :: r) = 0 := by cases r <;> rfl
theorem sE_stroke (l : List Nat) (r : List Nat) (h : l = 92 :: r) : sE l = 2 + sE (r.drop 1) := by
  subst h
  cases r <;> rfl
theorem sE_other {c : Nat} (r : List Nat) (h1 : c ≠ 34) (h2 : c ≠ 92) : sE (c :: r) = 1 + sE r := by
  cases r with
  | nil => simp [sE, h1, h2]
  | cons d t => simp [sE, h1, h2]
def marksW : List Nat := [91, 93, 123, 125, 44, 58, 32]
/-- how far a word goes -/
def wE : List Nat → Nat
  | [] => 0
  | c :: r => if c ∈ marksW ∨ c = 34 then 0 else 1 + wE r
/-- how far a token goes -/
def tE : List Nat → Nat
  | [] => 1
  | c :: r => if c = 34 then 2 + sE r else if c ∈ marksW then 1 else 1 + wE r
theorem one_eq (c n : Nat) (s : Str) (h : tl s = [n]) : decide (V.str ⟨#[c]⟩ = V.str s) = decide (c = n) := by
  by_cases e : c = n
  · subst e
    rw [decide_eq_true rfl, decide_eq_true]
    exact congrArg V.str (ext_tl h.symm)
  · rw [decide_eq_false e, decide_eq_false]
    intro z
    have z2 := congrArg tl (V.str.inj z)
    rw [h] at z2
    exact e (List.cons.inj z2).1
section
variable {P : Program} {w : World} {K : PySem.W.Frag} {mg : Str → Option Value} {base : Heap} {f g g2 g3 : Addr} {fd gd gd2 gd3 : FuncData}
def spStrEnd : Sp := fun vs H Q _ => ∃ (s : Str) (a : Nat), vs = [.str s, .int (a : Nat)] ∧ s.length ≤ 1000000 ∧ ∀ H', Same H H' → Q (.int ((a + 2 + sE ((tl s).drop (a + 1)) : Nat) : Int)) H'
theorem scStrEnd : FnScope ["text", "at", "end"] ["text", "at"] (defScope (top 22)) := ⟨rfl, rfl, rfl, by decide +kernel, rfl, by decide +kernel, by decide +kernel⟩
theorem ok_strEnd (F : FnD K "string_end" 22 f fd) (B : Bl mg) : FnOk P w K mg base CX0 1 f fd ["text", "at"] spStrEnd := by
  refine F.ok scStrEnd (fun vs H Q E h => ?_) (fun cdv A outer s H vs Q E hr h => ?_)
  · obtain ⟨z, a, rfl, _⟩ := h
    rfl
  obtain ⟨z, a, rfl, hz, q⟩ := h
  refine ⟨_, PSs.nox (pss_cons (ps_set (i := 2) scStrEnd.nd rfl (Or.inl rfl) (pe_op op_add (pv 1) pe_int))
    (pss_cons (ps_while PassesOwn.never (PW.pt (pw_and (pt_cmpR op_lt (pv 2) (pe_callB call_len_str (by rfl) B.len PySem.boot_len (pa_cons (pv 0) pa_nil)) (nomark _)) (pw_and1 (pt_cmpR op_ne (pe_ix ix_str (pv 0) (pv 2) (fun _ _ => rfl)) pe_str (nomark _)))))
      (pss_one (ps_set (i := 2) scStrEnd.nd rfl (Or.inl rfl) (pe_op op_add (pv 2) (pe_ifExp (pt_cmpR op_eq (pe_ix ix_str (pv 0) (pv 2) (fun _ _ => rfl)) pe_str (nomark _)) pe_int pe_int)))))
    (pss_one (ps_ret (pe_op op_add (pv 2) pe_int))))), ?_⟩
  have big : (1000000 : Nat) ≤ sizeLine := by decide
  have d1 : tl ("\"" : Str) = [34] := by decide +kernel
  have d2 : tl ("\\" : Str) = [92] := by decide +kernel
  have zl : z.length = (tl z).length := len_tl z
  refine ⟨_, rfl, _, _, rfl, rfl, ?_⟩
  refine ⟨fun m σ H' => H' = H ∧ ∃ e : Nat, m + e = z.length + e - min e z.length ∧ σ = [some (.str z), some (.int (a : Nat)), some (.int (e : Nat))] ∧ a + 1 + sE ((tl z).drop (a + 1)) = e + sE ((tl z).drop e),
    ⟨z.length - min (a + 1) z.length, rfl, a + 1, by omega, rfl, rfl⟩, ?_⟩
  rintro m σ H' ⟨rfl, e, hm, rfl, he⟩
  refine ⟨_, rfl, _, rfl, z, rfl, by omega, _, _, rfl, rfl, _, rfl, ?_⟩
  have fin : sE ((tl z).drop e) = 0 → Q (.int ((e : Int) + 1)) H' := fun h0 => by
    have := q H' (same_refl H')
    have e1 : ((a + 2 + sE ((tl z).drop (a + 1)) : Nat) : Int) = (e : Nat) + 1 := by omega
    rw [e1] at this
    exact this
  refine ite2 (fun c => ?_) (fun c => ?_)
  · have c' : (e : Int) < (z.length : Int) := of_decide_eq_true c
    have hlt : e < (tl z).length := by omega
    have hg : (tl z)[e]? = some (tl z)[e] := List.getElem?_eq_getElem hlt
    have hdr : (tl z).drop e = (tl z)[e] :: (tl z).drop (e + 1) := List.drop_eq_getElem_cons hlt
    generalize (tl z)[e] = ch at hg hdr
    refine ⟨_, rfl, _, rfl, z, _, ch, rfl, rfl, by omega, atI_nat hg, rfl, _, rfl, ?_⟩
    rw [one_eq ch 34 _ d1]
    by_cases h34 : ch = 34
    · rw [decide_eq_true h34]
      refine iteF ⟨_, rfl, _, _, rfl, rfl, fin ?_⟩
      rw [hdr, h34]
      exact sE_quote _
    · rw [decide_eq_false h34]
      refine iteT ⟨fun σ' H'' => H'' = H' ∧ ∃ e' : Nat, e < e' ∧ σ' = [some (.str z), some (.int (a : Nat)), some (.int (e' : Nat))] ∧ a + 1 + sE ((tl z).drop (a + 1)) = e' + sE ((tl z).drop e'), fun σ' H'' ⟨h1, e', h2, h3, h4⟩ => ⟨z.length - min e' z.length, by omega, h1, e', by omega, h3, h4⟩, ?_⟩
      refine ⟨_, rfl, _, rfl, _, rfl, z, _, ch, rfl, rfl, by omega, atI_nat hg, rfl, _, rfl, ?_⟩
      rw [one_eq ch 92 _ d2]
      by_cases h92 : ch = 92
      · rw [decide_eq_true h92]
        refine iteT ⟨_, _, rfl, rfl, rfl, e + 2, by omega, rfl, ?_⟩
        have := sE_stroke _ _ (by rw [hdr, h92] : (tl z).drop e = 92 :: (tl z).drop (e + 1))
        rw [List.drop_drop] at this
        have e2 : e + 1 + 1 = e + 2 := rfl
        rw [e2] at this
        rw [he, this]
        omega
      · rw [decide_eq_false h92]
        refine iteF ⟨_, _, rfl, rfl, rfl, e + 1, by omega, rfl, ?_⟩
        rw [he, hdr, sE_other _ h34 h92]
        omega
  · have c' : ¬ (e : Int) < (z.length : Int) := fun h => c (decide_eq_true h)
    refine iteF ⟨_, rfl, _, _, rfl, rfl, fin ?_⟩
    rw [List.drop_eq_nil_of_le (by omega)]
    rfl
end
end K87
set_option Elab.async false
set_option linter.all false
set_option maxRecDepth 100000
set_option maxHeartbeats 8000000
/-! G87O: token_end. -/
namespace K87
open PySem PySem.Spec L2 K00 TL
open PyProof.Rows (envOfC sortedS)
def MK : Str := "[]{},: "
theorem tl_MK : tl MK = marksW := by decide +kernel
theorem wE_go {c : Nat} (r : List Nat) (h1 : c ∉ marksW) (h2 : c ≠ 34) : wE (c :: r) = 1 + wE r := by
  show (if c ∈ marksW ∨ c = 34 then 0 else 1 + wE r) = _
  rw [if_neg (by simp [h1, h2])]
theorem wE_stop {c : Nat} (r : List Nat) (h : c ∈ marksW ∨ c = 34) : wE (c :: r) = 0 := by
  show (if c ∈ marksW ∨ c = 34 then 0 else 1 + wE r) = _
  rw [if_pos h]
section
variable {P : Program} {w : World} {K : PySem.W.Frag} {mg : Str → Option Value} {base : Heap} {f g g2 g3 : Addr} {fd gd gd2 gd3 : FuncData}
def spTokEnd : Sp := fun vs H Q _ => ∃ (s : Str) (a : Nat), vs = [.str s, .int (a : Nat)] ∧ s.length ≤ 1000000 ∧ a < s.length ∧ ∀ H', Same H H' → Q (.int ((a + tE ((tl s).drop a) : Nat) : Int)) H'
theorem scTokEnd : FnScope ["text", "at", "end"] ["text", "at"] (defScope (top 23)) := ⟨rfl, rfl, rfl, by decide +kernel, rfl, by decide +kernel, by decide +kernel⟩
theorem ok_tokEnd {t1 : Tok} (F : FnD K "token_end" 23 f fd) (B : Bl mg) (gM : mg "MARKS" = some (.str MK t1)) (G : FnOk P w K mg base CX0 1 g gd ["text", "at"] spStrEnd) (bG : Binds K gd ["text", "at"] []) (kG : PySem.W.keepIn K (.ref g) = true) (gG : mg "string_end" = some (.ref g)) :
    FnOk P w K mg base CX0 2 f fd ["text", "at"] spTokEnd := by
  refine F.ok scTokEnd (fun vs H Q E h => ?_) (fun cdv A outer s H vs Q E hr h => ?_)
  · obtain ⟨z, a, rfl, _⟩ := h
    rfl
  obtain ⟨z, a, rfl, hz, ha, q⟩ := h
  refine ⟨_, PSs.nox (pss_cons (ps_if (pt_cmpR op_eq (pe_ix ix_str (pv 0) (pv 1) (fun _ _ => rfl)) pe_str (nomark _)) (pss_one (ps_ret (pe_call G hr rfl gG kG bG .nil pass0 (pa_cons (pv 0) (pa_cons (pv 1) pa_nil))))) pss_nil)
    (pss_cons (ps_set (i := 2) scTokEnd.nd rfl (Or.inl rfl) (pe_op op_add (pv 1) pe_int))
    (pss_cons (ps_if (pt_cmpR op_notIn_sign (pe_ix ix_str (pv 0) (pv 1) (fun _ _ => rfl)) (pe_glob (v := .str MK) rfl gM ⟨_, rfl⟩) (by rfl))
      (pss_one (ps_while PassesOwn.never (PW.pt (pw_and (pt_cmpR op_lt (pv 2) (pe_callB call_len_str (by rfl) B.len PySem.boot_len (pa_cons (pv 0) pa_nil)) (nomark _))
          (pw_and (pt_cmpR op_notIn_sign (pe_ix ix_str (pv 0) (pv 2) (fun _ _ => rfl)) (pe_glob (v := .str MK) rfl gM ⟨_, rfl⟩) (by rfl)) (pw_and1 (pt_cmpR op_ne (pe_ix ix_str (pv 0) (pv 2) (fun _ _ => rfl)) pe_str (nomark _))))))
        (pss_one (ps_aug (i := 2) scTokEnd.nd rfl (Or.inl rfl) pe_int ip_add)))) pss_nil)
    (pss_one (ps_ret (pv 2)))))), ?_⟩
  have big : (1000000 : Nat) ≤ sizeLine := by decide
  have d1 : tl ("\"" : Str) = [34] := by decide +kernel
  have zl : z.length = (tl z).length := len_tl z
  have hlt : a < (tl z).length := by omega
  have hg : (tl z)[a]? = some (tl z)[a] := List.getElem?_eq_getElem hlt
  have hdr : (tl z).drop a = (tl z)[a] :: (tl z).drop (a + 1) := List.drop_eq_getElem_cons hlt
  generalize (tl z)[a] = ch at hg hdr
  refine ⟨_, rfl, _, rfl, z, _, ch, rfl, rfl, by omega, atI_nat hg, rfl, _, rfl, ?_⟩
  rw [one_eq ch 34 _ d1]
  by_cases h34 : ch = 34
  · rw [decide_eq_true h34]
    refine iteT ⟨_, rfl, _, rfl, z, a, rfl, hz, fun H' k => ?_⟩
    have := q H' k
    rw [hdr, h34] at this
    have e : a + tE (34 :: (tl z).drop (a + 1)) = a + 2 + sE ((tl z).drop (a + 1)) := by
      have e0 : tE (34 :: (tl z).drop (a + 1)) = 2 + sE ((tl z).drop (a + 1)) := by simp [tE]
      omega
    rw [e] at this
    exact this
  rw [decide_eq_false h34]
  refine iteF ⟨_, rfl, _, _, rfl, rfl, ?_⟩
  refine ⟨_, rfl, _, rfl, z, _, ch, rfl, rfl, by omega, atI_nat hg, ch, MK, rfl, rfl, _, rfl, ?_⟩
  have eM : decide (ch ∈ MK.cps.toList) = decide (ch ∈ marksW) := by rw [show MK.cps.toList = marksW from tl_MK]
  rw [eM]
  have tEo : tE ((tl z).drop a) = if ch ∈ marksW then 1 else 1 + wE ((tl z).drop (a + 1)) := by
    rw [hdr]
    simp [tE, h34]
  by_cases hm : ch ∈ marksW
  · rw [decide_eq_true hm]
    rw [if_pos hm] at tEo
    have := q H (same_refl H)
    rw [tEo] at this
    exact iteF ⟨_, rfl, this⟩
  rw [decide_eq_false hm]
  rw [if_neg hm] at tEo
  refine iteT ⟨fun m σ H' => H' = H ∧ ∃ e : Nat, m + e = z.length + e - min e z.length ∧ σ = [some (.str z), some (.int (a : Nat)), some (.int (e : Nat))] ∧ a + 1 + wE ((tl z).drop (a + 1)) = e + wE ((tl z).drop e),
    ⟨z.length - min (a + 1) z.length, rfl, a + 1, by omega, rfl, rfl⟩, ?_⟩
  rintro m σ H' ⟨rfl, e, hm2, rfl, he⟩
  refine ⟨_, rfl, _, rfl, z, rfl, by omega, _, _, rfl, rfl, _, rfl, ?_⟩
  have fin : wE ((tl z).drop e) = 0 → Q (.int (e : Int)) H' := fun h0 => by
    have := q H' (same_refl H')
    rw [tEo] at this
    have e1 : ((a + (1 + wE ((tl z).drop (a + 1))) : Nat) : Int) = (e : Nat) := by omega
    rw [e1] at this
    exact this
  refine ite2 (fun c => ?_) (fun c => ?_)
  · have c' : (e : Int) < (z.length : Int) := of_decide_eq_true c
    have hlt2 : e < (tl z).length := by omega
    have hg2 : (tl z)[e]? = some (tl z)[e] := List.getElem?_eq_getElem hlt2
    have hdr2 : (tl z).drop e = (tl z)[e] :: (tl z).drop (e + 1) := List.drop_eq_getElem_cons hlt2
    generalize (tl z)[e] = ch2 at hg2 hdr2
    refine ⟨_, rfl, _, rfl, z, _, ch2, rfl, rfl, by omega, atI_nat hg2, ch2, MK, rfl, rfl, _, rfl, ?_⟩
    have eM2 : decide (ch2 ∈ MK.cps.toList) = decide (ch2 ∈ marksW) := by rw [show MK.cps.toList = marksW from tl_MK]
    rw [eM2]
    by_cases hm3 : ch2 ∈ marksW
    · rw [decide_eq_true hm3]
      refine iteF (iteF ⟨_, rfl, fin ?_⟩)
      rw [hdr2]
      exact wE_stop _ (.inl hm3)
    · rw [decide_eq_false hm3]
      refine iteT ⟨_, rfl, _, rfl, z, _, ch2, rfl, rfl, by omega, atI_nat hg2, rfl, _, rfl, ?_⟩
      rw [one_eq ch2 34 _ d1]
      by_cases h342 : ch2 = 34
      · rw [decide_eq_true h342]
        refine iteF ⟨_, rfl, fin ?_⟩
        rw [hdr2]
        exact wE_stop _ (.inr h342)
      · rw [decide_eq_false h342]
        refine iteT ⟨fun σ' H'' => H'' = H' ∧ ∃ e' : Nat, e < e' ∧ σ' = [some (.str z), some (.int (a : Nat)), some (.int (e' : Nat))] ∧ a + 1 + wE ((tl z).drop (a + 1)) = e' + wE ((tl z).drop e'), fun σ' H'' ⟨h1, e', h2, h3, h4⟩ => ⟨z.length - min e' z.length, by omega, h1, e', by omega, h3, h4⟩, ?_⟩
        refine ⟨_, rfl, _, _, rfl, rfl, rfl, e + 1, by omega, rfl, ?_⟩
        rw [he, hdr2, wE_go _ hm3 h342]
        omega
  · have c' : ¬ (e : Int) < (z.length : Int) := fun h => c (decide_eq_true h)
    refine iteF ⟨_, rfl, fin ?_⟩
    rw [List.drop_eq_nil_of_le (by omega)]
    rfl
end
end K87
set_option Elab.async false
set_option linter.all false
set_option maxRecDepth 100000
set_option maxHeartbeats 8000000
/-! G87P: tokens_of. -/
namespace K87
open PySem PySem.Spec L2 K00 TL
open PyProof.Rows (envOfC sortedS)
theorem inV_strs {a : Str} {ws : List Str} : inV (.str a) (ws.map V.str) = decide (a ∈ ws) := by
  unfold inV
  rw [List.any_map]
  by_cases h : a ∈ ws
  · rw [decide_eq_true h]
    exact List.any_eq_true.mpr ⟨a, h, by show (a == a) = true; exact beq_iff_eq.mpr rfl⟩
  · rw [decide_eq_false h]
    refine List.any_eq_false.mpr fun y hy => ?_
    show ¬ (y == a) = true
    intro z
    exact h (beq_iff_eq.mp z ▸ hy)
theorem tl_cut (z : Str) {a e : Nat} (h1 : a ≤ z.length) : tl (cutS z (some (a : Int)) (some (e : Int))) = ((tl z).drop a).take (e - a) := by
  show ((z.cps.toList.drop (HT.sIx z.length 0 (some (a : Int)))).take (HT.sIx z.length z.length (some (e : Int)) - HT.sIx z.length 0 (some (a : Int)))) = _
  rw [HT.sIx_nat, HT.sIx_nat, Nat.min_eq_left h1]
  show ((tl z).drop a).take (min e z.length - a) = _
  rcases Nat.le_total e z.length with h | h
  · rw [Nat.min_eq_left h]
  · rw [Nat.min_eq_right h, List.take_of_length_le (by rw [List.length_drop, ← len_tl]; omega), List.take_of_length_le (by rw [List.length_drop, ← len_tl]; omega)]
/-- a text's tokens -/
inductive Lex : List Nat → List (List Nat) → Prop where
  | nil : Lex [] []
  | cons {l : List Nat} {ts : List (List Nat)} (h : l ≠ []) (r : Lex (l.drop (tE l)) ts) : Lex l (l.take (tE l) :: ts)
theorem tE_pos {l : List Nat} (h : l ≠ []) : 1 ≤ tE l := by
  cases l with
  | nil => exact absurd rfl h
  | cons c r =>
    unfold tE
    simp only
    split
    · omega
    · split <;> omega
theorem Lex.len {l : List Nat} {ts : List (List Nat)} (h : Lex l ts) : ts.length ≤ l.length := by
  induction h with
  | nil => exact Nat.le_refl _
  | @cons l ts h r ih =>
    have := tE_pos h
    rw [List.length_drop] at ih
    have hl : l.length ≠ 0 := fun z => h (List.eq_nil_of_length_eq_zero z)
    rw [List.length_cons]
    omega
def keepN (t : List Nat) : Bool := !decide (t ∈ ([[44], [58], [32]] : List (List Nat)))
theorem keep_eq (t : List Nat) : (!inV (.str (mk t)) [.str ",", .str ":", .str " "]) = keepN t := by
  show (!inV (.str (mk t)) (([",", ":", " "] : List Str).map V.str)) = _
  rw [inV_strs]
  unfold keepN
  congr 2
  have e1 : (("," : Str)) = mk [44] := by decide +kernel
  have e2 : ((":" : Str)) = mk [58] := by decide +kernel
  have e3 : ((" " : Str)) = mk [32] := by decide +kernel
  rw [e1, e2, e3]
  have inj : ∀ u : List Nat, mk t = mk u ↔ t = u := fun u => ⟨fun h => congrArg tl h, fun h => congrArg mk h⟩
  simp only [List.mem_cons, List.not_mem_nil, or_false, inj]
section
variable {P : Program} {w : World} {K : PySem.W.Frag} {mg : Str → Option Value} {base : Heap} {f g g2 g3 : Addr} {fd gd gd2 gd3 : FuncData}
def spTokens : Sp := fun vs H Q _ => ∃ (s : Str) (ts : List (List Nat)), vs = [.str s] ∧ s.length ≤ 1000000 ∧ Lex (tl s) ts ∧
  ∀ l H', Same H H' → H l = none → H' l = some (.lst ((ts.filter keepN).map fun t => V.str (mk t))) → Q (.ref l) H'
abbrev NgTk : List Str := ["text", "tokens", "at", "end", "token"]
abbrev ttTk (K : PySem.W.Frag) : TT := tTest (tOp (rIn K true) (tVar 4) (tTup (tCons (tC (.str ",")) (tCons (tC (.str ":")) (tCons (tC (.str " ")) tNil)))))
theorem scTokens : FnScope NgTk ["text"] (defScope (top 24)) := ⟨rfl, rfl, rfl, by decide +kernel, rfl, by decide +kernel, by decide +kernel⟩
theorem ok_tokens (F : FnD K "tokens_of" 24 f fd) (B : Bl mg) (G : FnOk P w K mg base CX0 2 g gd ["text", "at"] spTokEnd) (bG : Binds K gd ["text", "at"] []) (kG : PySem.W.keepIn K (.ref g) = true) (gG : mg "token_end" = some (.ref g)) :
    FnOk P w K mg base CX0 3 f fd ["text"] spTokens := by
  refine F.ok scTokens (fun vs H Q E h => ?_) (fun cdv A outer s H vs Q E hr h => ?_)
  · obtain ⟨z, ts, rfl, _⟩ := h
    rfl
  obtain ⟨z, ts, rfl, hz, hx, q⟩ := h
  refine ⟨_, PSs.nox (pss_cons (ps_set (i := 1) scTokens.nd rfl (Or.inl rfl) (pe_lst pa_nil))
    (pss_cons (ps_set (i := 2) scTokens.nd rfl (Or.inl rfl) pe_int)
    (pss_cons (ps_while PassesOwn.never (pt_cmpR op_lt (pv 2) (pe_callB call_len_str (by rfl) B.len PySem.boot_len (pa_cons (pv 0) pa_nil)) (nomark _))
      (pss_cons (ps_set (i := 3) scTokens.nd rfl (Or.inl rfl) (pe_call G hr rfl gG kG bG .nil pass0 (pa_cons (pv 0) (pa_cons (pv 2) pa_nil))))
      (pss_cons (ps_expr (pe_bm PySem.F.plainAttrs_list PySem.F.slot_list_append PySem.F.type_list_append mt_append (pv 1) (pa_cons (pe_slice sl_str (pv 0) (po_some (pv 2)) (po_some (pv 3))) pa_nil)))
      (pss_one (ps_set (i := 2) scTokens.nd rfl (Or.inl rfl) (pv 3))))))
    (pss_one (ps_ret (pe_lc (own := [("token", 4)]) (g := gName 4) (tt := ttTk K) (te := tVar 4) rfl scTokens.nd (pi_list (pv 1)) (blkOk_by (N := NgTk) (sc := defScope (top 24)) (by decide +kernel))
        (fun _ _ _ _ _ => pg_name (i := 4) scTokens.nd rfl (Or.inl rfl)) (fun _ _ _ _ _ => pts_one (pt_cmpR op_notIn_seq (pv 4) (pe_tup (pa_cons pe_str (pa_cons pe_str (pa_cons pe_str pa_nil)))) (by rfl))) (fun _ _ _ _ _ => pv 4))))))), ?_⟩
  have big : (1000000 : Nat) ≤ sizeLine := by decide
  have zl : z.length = (tl z).length := len_tl z
  have tlen := hx.len
  refine ⟨(by show 0 ≤ sizeLine; decide), fun L hL => ?_⟩
  have k0 := same_new hL (.lst [])
  refine ⟨fun m σ H' => ∃ (a : Nat) (ev : Option V) (done rest : List (List Nat)), m = rest.length ∧ done ++ rest = ts ∧ Lex ((tl z).drop a) rest ∧ σ = [some (.str z), some (.ref L), some (.int (a : Nat)), ev, none] ∧ H' L = some (.lst (done.map fun t => V.str (mk t))) ∧ Same H H',
    ⟨ts.length, 0, none, [], ts, rfl, rfl, hx, rfl, upd_same, k0⟩, ?_⟩
  rintro m σ H' ⟨a, ev, done, rest, rfl, hdr, hrest, rfl, hL2, k2⟩
  refine ⟨_, rfl, _, rfl, z, rfl, by omega, _, _, rfl, rfl, _, rfl, ?_⟩
  have dl : done.length + rest.length = ts.length := by rw [← hdr, List.length_append]
  refine ite2 (fun c => ?_) (fun c => ?_)
  · have c' : (a : Int) < (z.length : Int) := of_decide_eq_true c
    have ne : (tl z).drop a ≠ [] := fun h => by
      have := congrArg List.length h
      rw [List.length_drop] at this
      simp only [List.length_nil] at this
      omega
    generalize hd : (tl z).drop a = l at hrest ne
    cases hrest with
    | nil => exact absurd rfl ne
    | @cons _ rest' hne hr' =>
      rw [← hd] at hr'
      rw [List.drop_drop, hd] at hr'
      refine ⟨fun σ' H'' => ∃ (a' : Nat) (ev' : Option V) (done' : List (List Nat)), done' ++ rest' = ts ∧ Lex ((tl z).drop a') rest' ∧ σ' = [some (.str z), some (.ref L), some (.int (a' : Nat)), ev', none] ∧ H'' L = some (.lst (done'.map fun t => V.str (mk t))) ∧ Same H H'',
        fun σ' H'' ⟨a', ev', done', z1, z2, z3, z4, z5⟩ => ⟨rest'.length, by rw [List.length_cons]; omega, a', ev', done', rest', rfl, z1, z2, z3, z4, z5⟩, ?_⟩
      refine ⟨_, rfl, _, rfl, z, a, rfl, hz, by omega, fun H3 k3 => ?_⟩
      have h3L := k3 _ _ hL2
      rw [hd]
      refine ⟨_, rfl, .inl ⟨rfl, _, SqL.of h3L⟩, _, rfl, _, rfl, _, rfl, _, rfl, _, rfl, z, rfl, by omega, L, _, _, rfl, rfl, h3L, Nat.lt_of_lt_of_le (by rw [List.length_map]; rw [List.length_cons] at dl; omega : _ < 1000000) big, ?_⟩
      refine ⟨_, rfl, a + tE l, _, done ++ [l.take (tE l)], by rw [List.append_assoc]; exact hdr, hr', rfl, ?_, fun b o e => ?_⟩
      · rw [upd_same, List.map_append]
        congr 3
        refine congrArg (fun t => [V.str t]) (ext_tl ?_)
        rw [tl_cut z (by omega), hd, Nat.add_sub_cancel_left]
      · rw [upd_ne (ne_of_none e hL)]
        exact k3 _ _ (k2 _ _ e)
  · have c' : ¬ (a : Int) < (z.length : Int) := fun h => c (decide_eq_true h)
    have e0 : (tl z).drop a = [] := List.drop_eq_nil_of_le (by omega)
    rw [e0] at hrest
    have hn : rest = [] := by
      cases hrest with
      | nil => rfl
      | cons h _ => exact absurd rfl h
    subst hn
    rw [List.append_nil] at hdr
    subst hdr
    refine ⟨_, rfl, L, rfl, ⟨_, SqL.of hL2⟩, fun D hD => ?_⟩
    refine lc_it (tt := ttTk K) (te := tVar 4) (walk_list (K := K) (a := L) (xs := done.map fun t => V.str (mk t))) (fun i H3 => Same H' H3 ∧ H3 D = some (.lst (((done.take i).filter keepN).map fun t => V.str (mk t)))) ⟨same_new hD _, upd_same⟩ (fun _ H3 _ y => SqL.of (y.1 _ _ hL2)) ?_ ?_
    · rintro i v H3 H3' hi ⟨k3, hD3⟩ ⟨rfl, hv⟩
      rw [List.length_map] at hi
      rw [List.getElem?_map, List.getElem?_eq_getElem hi] at hv
      have hv' : V.str (mk done[i]) = v := Option.some.inj hv
      subst hv'
      have ht : done[i]? = some done[i] := List.getElem?_eq_getElem hi
      generalize done[i] = t at ht
      refine ⟨rfl, _, rfl, (by show 3 ≤ sizeLine; decide), fun p hp => ⟨p, _, rfl, .inr (SqT.of upd_same), rfl, rfl, _, rfl, ?_⟩⟩
      have k4 := same_new hp (.tup [.str ",", .str ":", .str " "])
      show if (!inV (.str (mk t)) [.str ",", .str ":", .str " "]) = true then _ else _
      rw [keep_eq]
      have e5 : ((done.take (i + 1)).filter keepN).map (fun t => V.str (mk t)) = ((done.take i).filter keepN).map (fun t => V.str (mk t)) ++ (if keepN t = true then [V.str (mk t)] else []) := by
        rw [List.take_add_one, ht]
        simp only [Option.toList_some, List.filter_append, List.map_append]
        congr 1
        by_cases hk : keepN t = true
        · rw [if_pos hk, List.filter_cons_of_pos hk]
          rfl
        · rw [if_neg hk, List.filter_cons_of_neg hk]
          rfl
      by_cases hk : keepN t = true
      · rw [if_pos hk] at e5
        refine ite_t hk ⟨_, rfl, _, k4 _ _ hD3, Nat.lt_of_lt_of_le (by rw [List.length_map]; have := List.length_filter_le keepN (done.take i); rw [List.length_take] at this; omega : _ < 1000000) big, fun b o e => ?_, ?_⟩
        · rw [upd_ne (ne_of_none e hD)]
          exact k4 _ _ (k3 _ _ e)
        · rw [upd_same, e5]
      · rw [if_neg hk, List.append_nil] at e5
        refine ite_f (by simpa using hk) ⟨k3.trans k4, ?_⟩
        rw [e5]
        exact k4 _ _ hD3
    · rintro H3 ⟨k3, hD3⟩
      rw [List.length_map, List.take_length] at hD3
      exact q D H3 (k2.trans k3) (Same.free k2 hD) hD3
end
end K87
set_option Elab.async false
set_option linter.all false
set_option maxRecDepth 100000
set_option maxHeartbeats 8000000
/-! L88A: what is drawn: bounds of its text; _law_flat, _law_any. -/
namespace K87
open PySem PySem.Spec L2 K00 TL
open PyProof.Rows (envOfC sortedS)
/-- how many signs open a part -/
def opn (l : List Nat) : Nat := l.countP fun c => c == 91 || c == 123
theorem opn_app (a b : List Nat) : opn (a ++ b) = opn a + opn b := List.countP_append ..
theorem opn_cons (c : Nat) (l : List Nat) : opn (c :: l) ≤ opn l + 1 := by
  unfold opn
  rw [List.countP_cons]
  split <;> omega
theorem opn_le (l : List Nat) : opn l ≤ l.length := List.countP_le_length
theorem opn_jn : ∀ {c : Nat} (ls : List (List Nat)), (∀ l ∈ ls, opn l ≤ c) → opn (jn [44, 32] ls) ≤ ls.length * c
  | c, [], _ => by show 0 ≤ _; omega
  | c, [x], h => by
    have := h x (by simp)
    show opn x ≤ _
    rw [List.length_singleton]
    omega
  | c, x :: y :: r, h => by
    have h1 := h x (by simp)
    have h2 := opn_jn (y :: r) fun l hl => h l (List.mem_cons_of_mem _ hl)
    show opn ((x ++ [44, 32]) ++ jn [44, 32] (y :: r)) ≤ _
    rw [opn_app, opn_app, List.length_cons, Nat.add_mul]
    have : opn [44, 32] = 0 := rfl
    omega
theorem name_low {k : Str} (h : nameB k = true) : ∀ c ∈ tl k, 97 ≤ c ∧ c ≤ 122 := by
  unfold nameB at h
  obtain ⟨_, h⟩ := He.ba h
  obtain ⟨_, h⟩ := He.ba h
  intro c hc
  have h1 := List.all_eq_true.mp h c hc
  have h2 : c ∈ LET.cps.toList := by simpa using h1
  have h3 : LET.cps.toList.all (fun c => Nat.ble 97 c && Nat.ble c 122) = true := by decide +kernel
  obtain ⟨a, b⟩ := He.ba (List.all_eq_true.mp h3 c h2)
  exact ⟨Nat.le_of_ble_eq_true a, Nat.le_of_ble_eq_true b⟩
theorem opn_name {k : Str} (h : nameB k = true) : opn (tl k) = 0 := by
  unfold opn
  rw [List.countP_eq_zero]
  intro c hc
  have := name_low h c hc
  simp
  omega
/-- names of fields that are drawn -/
def KPn (s : Str) : Prop := nameB s = true ∧ s.length ≤ 1000 ∧ PyData.strOk s = true ∧ (reprText s).length ≤ 10
def kpB (s : Str) : Bool := nameB s && (Nat.ble s.length 1000 && (PyData.strOk s && Nat.ble (reprText s).length 10))
theorem kp_of {s : Str} (h : kpB s = true) : KPn s := by
  unfold kpB at h
  obtain ⟨h1, h⟩ := He.ba h
  obtain ⟨h2, h⟩ := He.ba h
  obtain ⟨h3, h4⟩ := He.ba h
  exact ⟨h1, Nat.le_of_ble_eq_true h2, h3, Nat.le_of_ble_eq_true h4⟩
theorem five_ok : (["x", "y", "k", "t", "abcdefgh"] : List Str).all kpB = true := by decide +kernel
def wA : Nat → Nat
  | 0 => 9
  | n + 1 => 8 + 3 * (wA n + 12)
def oA : Nat → Nat
  | 0 => 1
  | n + 1 => 1 + 3 * oA n
def cA : Nat → Nat
  | 0 => 1
  | n + 1 => 1 + 3 * cA n
def lA : Nat → Nat
  | 0 => 200
  | n + 1 => 2 + 3 * (lA n + 14)
def potA : Nat → Nat
  | 0 => 1
  | n + 1 => 6 + 3 * potA n
theorem potA_pos : ∀ n, 1 ≤ potA n
  | 0 => Nat.le_refl _
  | n + 1 => by unfold potA; omega
theorem wA_pos : ∀ n, 9 ≤ wA n
  | 0 => Nat.le_refl _
  | n + 1 => by have := wA_pos n; unfold wA; omega
theorem oA_pos : ∀ n, 1 ≤ oA n
  | 0 => Nat.le_refl _
  | n + 1 => by have := oA_pos n; unfold oA; omega
theorem cA_pos : ∀ n, 1 ≤ cA n
  | 0 => Nat.le_refl _
  | n + 1 => by have := cA_pos n; unfold cA; omega
theorem lA_pos : ∀ n, 200 ≤ lA n
  | 0 => Nat.le_refl _
  | n + 1 => by have := lA_pos n; unfold lA; omega
/-- drawn, and its text so long, with so many parts opened -/
structure Aw (n : Nat) (d : PyData) : Prop where
  th : Th n (cA n) (lA n) d
  wl : (wr d).length ≤ wA n
  op : opn (wr d) ≤ oA n
  lo : ∀ c ∈ wr d, c < 128
theorem Aw.flat {n : Nat} {d : PyData} (h : Aw 0 d) : Aw n d :=
  ⟨⟨h.th.1, h.th.2.1.mono (by omega) (cA_pos n) (lA_pos n), h.th.2.2⟩, Nat.le_trans h.wl (wA_pos n), Nat.le_trans h.op (oA_pos n), h.lo⟩
theorem aw_list {n : Nat} {xs : List PyData} (hm : xs.length ≤ 3) (h : ∀ x ∈ xs, Aw n x) : Aw (n + 1) (.list xs) := by
  refine ⟨⟨K00.isOne_list fun x hx => (h x hx).th.1, (dr_list hm (by omega) fun x hx => (h x hx).th.2.1).mono (Nat.le_refl _) (Nat.le_refl _) (by show _ ≤ 2 + 3 * (lA n + 14); omega), tqL_iff.mpr fun x hx => (h x hx).th.2.2⟩, ?_, ?_, fun c hc => ?_⟩
  · have := jn_le (sep := [44, 32]) (ls := xs.map wr) (c := wA n) fun l hl => by
      obtain ⟨x, hx, rfl⟩ := List.mem_map.mp hl
      exact (h x hx).wl
    rw [List.length_map] at this
    have l2 : ([44, 32] : List Nat).length = 2 := rfl
    rw [l2] at this
    have h2 : xs.length * (wA n + 2) ≤ 3 * (wA n + 2) := Nat.mul_le_mul_right _ hm
    rw [wr_list, List.length_cons, List.length_append, List.length_singleton]
    show _ ≤ 8 + 3 * (wA n + 12)
    omega
  · have := opn_jn (c := oA n) (xs.map wr) fun l hl => by
      obtain ⟨x, hx, rfl⟩ := List.mem_map.mp hl
      exact (h x hx).op
    rw [List.length_map] at this
    have h2 : xs.length * oA n ≤ 3 * oA n := Nat.mul_le_mul_right _ hm
    rw [wr_list]
    refine Nat.le_trans (opn_cons _ _) ?_
    rw [opn_app]
    have : opn [93] = 0 := rfl
    show _ ≤ 1 + 3 * oA n
    omega
  · rw [wr_list] at hc
    rcases List.mem_cons.mp hc with rfl | hc
    · decide
    rcases List.mem_append.mp hc with hc | hc
    · rcases jn_mem hc with hc | ⟨l, hl, hc⟩
      · simp only [List.mem_cons, List.not_mem_nil, or_false] at hc
        omega
      · obtain ⟨x, hx, rfl⟩ := List.mem_map.mp hl
        exact (h x hx).lo c hc
    · rw [List.mem_singleton.mp hc]
      decide
theorem aw_dict {n : Nat} {ds : List (PyData × PyData)} (hm : ds.length ≤ 3) (nd : (ds.map fun p => kS p.1).Nodup) (h : ∀ p ∈ ds, (∃ s, p.1 = .str s ∧ KPn s) ∧ Aw n p.2) : Aw (n + 1) (.dict ds) := by
  have od : isOne (.dict ds) = true := K00.isOne_dict fun p hp => by
    obtain ⟨⟨s, e, hs⟩, ha⟩ := h p hp
    exact ⟨⟨s, e, hs.1⟩, ha.th.1⟩
  have row : ∀ l ∈ (fls ds).map (wrow ds), l.length ≤ wA n + 10 ∧ opn l ≤ oA n := fun l hl => by
    obtain ⟨k, hk, rfl⟩ := List.mem_map.mp hl
    obtain ⟨hn, p, hp, _, hpl, _⟩ := Tz.key od ((fls_perm ds).mem_iff.mp hk)
    have ha := (h p hp).2
    have n8 := name_len hn
    have n0 := opn_name hn
    unfold wrow
    rw [hpl]
    refine ⟨?_, ?_⟩
    · have := ha.wl
      rw [List.length_append, List.length_cons, List.length_cons]
      omega
    · have := ha.op
      have e : opn (58 :: 32 :: wr p.2) = opn (wr p.2) := rfl
      rw [opn_app, e]
      omega
  have fl : (fls ds).length = ds.length := by rw [(fls_perm ds).length_eq, List.length_map]
  refine ⟨⟨od, (dr_dict (n := n) (c := cA n) (L := lA n) hm (by omega) nd fun p hp => ?_).mono (Nat.le_refl _) (Nat.le_refl _) (by show _ ≤ 2 + 3 * (lA n + 14); omega), tqK_iff.mpr fun p hp => (h p hp).2.th.2.2⟩, ?_, ?_, fun c hc => ?_⟩
  · obtain ⟨⟨s, e, hs⟩, ha⟩ := h p hp
    exact ⟨⟨s, e, hs.2.1, hs.2.2.1, hs.2.2.2⟩, ha.th.2.1⟩
  · have := jn_le (sep := [44, 32]) (ls := (fls ds).map (wrow ds)) (c := wA n + 10) fun l hl => (row l hl).1
    rw [List.length_map, fl] at this
    have l2 : ([44, 32] : List Nat).length = 2 := rfl
    rw [l2] at this
    have h2 : ds.length * (wA n + 10 + 2) ≤ 3 * (wA n + 10 + 2) := Nat.mul_le_mul_right _ hm
    rw [wr_dictF nd, List.length_cons, List.length_append, List.length_singleton]
    show _ ≤ 8 + 3 * (wA n + 12)
    omega
  · have := opn_jn (c := oA n) ((fls ds).map (wrow ds)) fun l hl => (row l hl).2
    rw [List.length_map, fl] at this
    have h2 : ds.length * oA n ≤ 3 * oA n := Nat.mul_le_mul_right _ hm
    rw [wr_dictF nd]
    refine Nat.le_trans (opn_cons _ _) ?_
    rw [opn_app]
    have : opn [125] = 0 := rfl
    show _ ≤ 1 + 3 * oA n
    omega
  · rw [wr_dictF nd] at hc
    rcases List.mem_cons.mp hc with rfl | hc
    · decide
    rcases List.mem_append.mp hc with hc | hc
    · rcases jn_mem hc with hc | ⟨l, hl, hc⟩
      · simp only [List.mem_cons, List.not_mem_nil, or_false] at hc
        omega
      · obtain ⟨k, hk, rfl⟩ := List.mem_map.mp hl
        obtain ⟨hn, p, hp, _, hpl, _⟩ := Tz.key od ((fls_perm ds).mem_iff.mp hk)
        unfold wrow at hc
        rw [hpl] at hc
        rcases List.mem_append.mp hc with hc | hc
        · have := name_low hn c hc
          omega
        · rcases List.mem_cons.mp hc with rfl | hc
          · decide
          rcases List.mem_cons.mp hc with rfl | hc
          · decide
          exact (h p hp).2.lo c hc
    · rw [List.mem_singleton.mp hc]
      decide
end K87
set_option Elab.async false
set_option linter.all false
set_option maxRecDepth 100000
set_option maxHeartbeats 8000000
/-! L88B: _law_flat, _law_any. -/
namespace K87
open PySem PySem.Spec L2 K00 TL
open PyProof.Rows (envOfC sortedS)
theorem flats_ok8 : flats.all (fun x => flatV' x && (flatB 200 (vD x) && (tqB (vD x) && (Nat.ble (wr (vD x)).length 9 && (Nat.ble (opn (wr (vD x))) 1 && (wr (vD x)).all fun c => Nat.blt c 128))))) = true := by decide +kernel
section
variable {P : Program} {w : World} {K : PySem.W.Frag} {mg : Str → Option Value} {base : Heap} {f g g2 g3 : Addr} {fd gd gd2 gd3 : FuncData}
def spFlat8 (P : Program) (w : World) : Sp := fun vs H Q _ => ∃ (p : Addr) (c : Nat), vs = [.ref p] ∧ PotAt H p c ∧ c + 1 ≤ 60000 ∧ ∀ x d H', Aw 0 d → Da P w H' x d → Ch p H H' → PotAt H' p (c + 1) → Q x H'
theorem ok_flat8 (F : FnD K "_law_flat" 36 f fd) (GO : FnOk P w K mg base CX0 2 g gd ["_law_pot_here", "_law_some"] spOf) (bO : Binds K gd ["_law_pot_here", "_law_some"] []) (kO : PySem.W.keepIn K (.ref g) = true) (gO : mg "_law_of" = some (.ref g)) :
    FnOk P w K mg base CX0 3 f fd ["_law_pot_here"] (spFlat8 P w) := by
  refine F.ok scFlat (fun vs H Q E h => ?_) (fun cdv A outer s H vs Q E hr h => ?_)
  · obtain ⟨p, c, rfl, _⟩ := h
    rfl
  obtain ⟨p, c, rfl, hp, hc, q⟩ := h
  refine ⟨_, PSs.nox (pss_one (ps_ret (pe_call GO hr rfl gO kO bO .nil pass0 (pa_cons (pv 0) (pa_cons (pe_lst (pa_cons pe_non (pa_cons pe_bl (pa_cons pe_bl (pa_cons pe_int (pa_cons pe_int (pa_cons (pe_un un_neg pe_int) (pa_cons pe_int (pa_cons pe_int
        (pa_cons pe_str (pa_cons pe_str (pa_cons pe_str (pa_cons pe_str (pa_cons pe_str (pa_cons pe_str (pa_cons pe_str pa_nil)))))))))))))))) pa_nil))))), ?_⟩
  obtain ⟨ys0, hp0⟩ := hp.lst
  refine ⟨_, rfl, _, rfl, (by show 15 ≤ sizeLine; decide), fun l hl => ?_⟩
  have k := same_new hl (.lst flats)
  have n3 : l ≠ p := fun e => by rw [e, hp0] at hl; cases hl
  refine ⟨p, l, flats, c, rfl, upd_same, n3, by decide, by decide, hp.same k, by omega, fun x H' hx k' hp' => ?_⟩
  obtain ⟨h1, h2⟩ := He.ba (List.all_eq_true.mp flats_ok8 x hx)
  obtain ⟨h2, h5⟩ := He.ba h2
  obtain ⟨h5, h6⟩ := He.ba h5
  obtain ⟨h6, h7⟩ := He.ba h6
  obtain ⟨h7, h8⟩ := He.ba h7
  obtain ⟨h3, h4⟩ := flat_dr h2
  exact q x (vD x) H' ⟨⟨h3, h4, tq_of h5⟩, Nat.le_of_ble_eq_true h6, Nat.le_of_ble_eq_true h7, fun c hc => Nat.lt_of_lt_of_le (Nat.lt_succ_self c) (Nat.le_of_ble_eq_true (List.all_eq_true.mp h8 c hc))⟩ (da_flat h1) ((Ch.same k).trans k') hp'
end
section
variable {P : Program} {w : World} {K : PySem.W.Frag} {mg : Str → Option Value} {base : Heap} {f g g2 g3 g4 : Addr} {fd gd gd2 gd3 gd4 : FuncData}
def spAny (P : Program) (w : World) (n : Nat) : Sp := fun vs H Q _ => ∃ (p : Addr) (c : Nat), vs = [.ref p, .int (n : Nat)] ∧ PotAt H p c ∧ c + potA n ≤ 60000 ∧
  ∀ x d H', Aw n d → Da P w H' x d → Ch p H H' → PotAt H' p (c + potA n) → Q x H'
theorem scAny : FnScope ["_law_pot_here", "_law_deep", "_law_pick", "_law_turn", "_law_fields", "_law_field"] ["_law_pot_here", "_law_deep"] (defScope (top 37)) := ⟨rfl, rfl, rfl, by decide +kernel, rfl, by decide +kernel, by decide +kernel⟩
theorem ok_any0 (F : FnD K "_law_any" 37 f fd) (B : Bl mg) (GF : FnOk P w K mg base CX0 3 g gd ["_law_pot_here"] (spFlat8 P w)) (bF : Binds K gd ["_law_pot_here"] []) (kF : PySem.W.keepIn K (.ref g) = true) (gF : mg "_law_flat" = some (.ref g)) :
    FnOk P w K mg base CX0 4 f fd ["_law_pot_here", "_law_deep"] (spAny P w 0) := by
  refine F.ok scAny (fun vs H Q E h => ?_) (fun cdv A outer s H vs Q E hr h => ?_)
  · obtain ⟨p, c, rfl, _⟩ := h
    rfl
  obtain ⟨p, c, rfl, hp, hc, q⟩ := h
  refine ⟨_, PSs.nox (pss_cons (ps_set (i := 2) scAny.nd rfl (Or.inl rfl) (pe_ifExp (pt_cmpR op_gt (pv 1) pe_int (nomark _)) pe_no pe_int))
    (pss_cons (ps_if (pt_cmpR op_lt (pv 2) pe_int (nomark _)) (pss_one (ps_ret (pe_call GF hr rfl gF kF bF .nil pass0 (pa_cons (pv 0) pa_nil)))) pss_nil)
    (pss_cons (ps_if (pt_cmpR op_eq (pv 2) pe_int (nomark _)) (pss_one (ps_ret pe_no)) pss_nil)
    (pss_cons (ps_set (i := 4) scAny.nd rfl (Or.inl rfl) pe_no) (pss_one (ps_ret pe_no)))))), ?_⟩
  refine ⟨_, rfl, _, _, rfl, rfl, _, rfl, iteF ⟨_, rfl, _, _, rfl, rfl, _, rfl, iteT ⟨_, rfl, p, c, rfl, hp, ?_, fun x d H' h1 h3 k hp' => ?_⟩⟩⟩
  · have := potA_pos 0
    omega
  · exact q x d H' h1 h3 k (hp'.mono (by have := potA_pos 0; omega))
theorem ok_anyS {n : Nat} (F : FnD K "_law_any" 37 f fd) (B : Bl mg) (GF : FnOk P w K mg base CX0 3 g gd ["_law_pot_here"] (spFlat8 P w)) (bF : Binds K gd ["_law_pot_here"] []) (kF : PySem.W.keepIn K (.ref g) = true) (gF : mg "_law_flat" = some (.ref g))
    (GT : FnOk P w K mg base CX0 1 g2 gd2 ["_law_pot_here", "_law_upto"] spTake) (bT : Binds K gd2 ["_law_pot_here", "_law_upto"] []) (kT : PySem.W.keepIn K (.ref g2) = true) (gT : mg "_law_take" = some (.ref g2))
    (GU : FnOk P w K mg base CX0 2 g3 gd3 ["_law_pot_here", "_law_some", "_law_many"] spUnlike) (bU : Binds K gd3 ["_law_pot_here", "_law_some", "_law_many"] []) (kU : PySem.W.keepIn K (.ref g3) = true) (gU : mg "_law_unlike" = some (.ref g3))
    (GR : FnOk P w K mg base CX0 (n + 4) f fd ["_law_pot_here", "_law_deep"] (spAny P w n)) (bR : Binds K fd ["_law_pot_here", "_law_deep"] []) (gR : mg "_law_any" = some (.ref f)) :
    FnOk P w K mg base CX0 (n + 5) f fd ["_law_pot_here", "_law_deep"] (spAny P w (n + 1)) := by
  refine F.ok scAny (fun vs H Q E h => ?_) (fun cdv A outer s H vs Q E hr h => ?_)
  · obtain ⟨p, c, rfl, _⟩ := h
    rfl
  obtain ⟨p, c, rfl, hp, hc, q⟩ := h
  have hr1 : Room 1 _ := hr.mono (by omega)
  have hr2 : Room 2 _ := hr.mono (by omega)
  have hr3 : Room 3 _ := hr.mono (by omega)
  refine ⟨_, PSs.nox (pss_cons (ps_set (i := 2) scAny.nd rfl (Or.inl rfl) (pe_ifExp (pt_cmpR op_gt (pv 1) pe_int (nomark _)) (pe_call GT hr1 rfl gT kT bT .nil pass0 (pa_cons (pv 0) (pa_cons pe_int pa_nil))) pe_int))
    (pss_cons (ps_if (pt_cmpR op_lt (pv 2) pe_int (nomark _)) (pss_one (ps_ret (pe_call GF hr3 rfl gF kF bF .nil pass0 (pa_cons (pv 0) pa_nil)))) pss_nil)
    (pss_cons (ps_if (pt_cmpR op_eq (pv 2) pe_int (nomark _)) (pss_one (ps_ret
        (pe_fz (pe_lc (own := [("_law_turn", 3)]) (g := gName 3) (tt := tYes) rfl scAny.nd (pi_range1 (by rfl) B.range (pa_cons (pe_call GT hr1 rfl gT kT bT .nil pass0 (pa_cons (pv 0) (pa_cons pe_int pa_nil))) pa_nil))
          (blkOk_by (N := ["_law_pot_here", "_law_deep", "_law_pick", "_law_turn", "_law_fields", "_law_field"]) (sc := defScope (top 37)) (by decide +kernel))
          (fun _ _ _ _ _ => pg_name (i := 3) scAny.nd rfl (Or.inl rfl)) (fun _ _ _ _ _ => pts_nil)
          (fun _ _ _ _ _ => pe_call GR hr rfl gR F.kp bR .nil pass0 (pa_cons (pv 0) (pa_cons (pe_op op_sub (pv 1) pe_int) pa_nil))))))) pss_nil)
    (pss_cons (ps_set (i := 4) scAny.nd rfl (Or.inl rfl) (pe_call GU hr2 rfl gU kU bU .nil pass0 (pa_cons (pv 0) (pa_cons (pe_lst (pa_cons pe_str (pa_cons pe_str (pa_cons pe_str (pa_cons pe_str (pa_cons pe_str pa_nil))))))
        (pa_cons (pe_call GT hr1 rfl gT kT bT .nil pass0 (pa_cons (pv 0) (pa_cons pe_int pa_nil))) pa_nil)))))
    (pss_one (ps_ret (pe_fzK (pe_callTy (call_dictP rfl) (by rfl) B.dict (by decide +kernel) (pa_cons
        (pe_lc (own := [("_law_field", 5)]) (g := gName 5) (tt := tYes) rfl scAny.nd (pi_list (pv 4)) (blkOk_by (N := ["_law_pot_here", "_law_deep", "_law_pick", "_law_turn", "_law_fields", "_law_field"]) (sc := defScope (top 37)) (by decide +kernel))
          (fun _ _ _ _ _ => pg_name (i := 5) scAny.nd rfl (Or.inl rfl)) (fun _ _ _ _ _ => pts_nil)
          (fun _ _ _ _ _ => pe_tup (pa_cons (pv 5) (pa_cons (pe_call GR hr rfl gR F.kp bR .nil pass0 (pa_cons (pv 0) (pa_cons (pe_op op_sub (pv 1) pe_int) pa_nil))) pa_nil)))) pa_nil))))))))), ?_⟩
  obtain ⟨ys0, hp0⟩ := hp.lst
  have pp := potA_pos n
  have pS : potA (n + 1) = 6 + 3 * potA n := rfl
  refine ⟨_, rfl, _, _, rfl, rfl, _, rfl, ite_t (decide_eq_true (by omega)) ?_⟩
  refine ⟨_, rfl, p, 4, c, rfl, by decide, by decide, hp, by omega, fun pick H1 pk0 pk1 k1 hp1 => ?_⟩
  obtain ⟨ys1, hq1⟩ := hp1.lst
  refine ⟨_, rfl, _, _, rfl, rfl, _, rfl, ?_⟩
  refine ite2 (fun _ => ?_) (fun _ => ⟨_, rfl, rfl, _, rfl, ?_⟩)
  · refine ⟨_, rfl, p, c + 1, rfl, hp1, by omega, fun x d H' h1 h3 k hp' => ?_⟩
    refine q x d H' h1.flat h3 (k1.trans k) (hp'.mono (by omega))
  refine ite2 (fun _ => ?_) (fun _ => ?_)
  · refine ⟨_, rfl, p, 3, c + 1, rfl, by decide, by decide, hp1, by omega, fun m H2 m0 m1 k2 hp2 => ⟨m, rfl, by omega, by omega, fun D hD => ?_⟩⟩
    obtain ⟨ys2, hq2⟩ := hp2.lst
    have nD : D ≠ p := fun e => by rw [e, hq2] at hD; cases hD
    have hDH : H D = none := by
      cases z : H D with
      | none => rfl
      | some o => rw [k2 _ _ nD (k1 _ _ nD z)] at hD; cases hD
    have em : m = ((m.toNat : Nat) : Int) := by omega
    rw [em]
    refine lc_range (lo := 0) (n := m.toNat) (fun i H3 => ∃ vs ds, H3 D = some (.lst vs) ∧ vs.length = i ∧ DaL P w H3 vs ds ∧ (∀ d ∈ ds, Aw n d) ∧ Ch p H H3 ∧ PotAt H3 p (c + 2 + i * potA n))
      ⟨[], [], upd_same, rfl, .nil, (fun _ h => nomatch h), (k1.trans k2).trans (.same (same_new hD _)), (hp2.same (same_new hD _)).mono (by omega)⟩ ?_ ?_
    · rintro i H3 hi ⟨vs, ds, hD3, hvl, hda, hdr, k3, hp3⟩
      refine ⟨rfl, ?_⟩
      simp only [tYes, if_true]
      have hb : i * potA n ≤ 2 * potA n := Nat.mul_le_mul_right _ (by omega)
      refine ⟨_, rfl, _, rfl, _, _, rfl, rfl, p, c + 2 + i * potA n, ?_, hp3, by omega, fun x d H4 h1 h3 k4 hp4 => ?_⟩
      · show ([V.ref p, V.int (((n + 1 : Nat) : Int) - 1)] : List V) = [V.ref p, V.int (n : Int)]
        rw [show ((n + 1 : Nat) : Int) - 1 = (n : Int) by omega]
      obtain ⟨ys3, hq3⟩ := hp3.lst
      have kp4 : Kp H3 H4 := .ch k4 hq3
      have hD4 := k4 _ _ nD hD3
      have kl : Kp H4 (upd H4 D (.lst (vs ++ [x]))) := .lst hD4 _
      refine ⟨vs, hD4, K00.small1000 (by omega), vs ++ [x], ds ++ [d], upd_same, by simp [hvl], (hda.kp (kp4.trans kl)).snoc (h3.kp kl), fun e he => ?_, fun b o nb e => ?_, ?_⟩
      · rcases List.mem_append.mp he with z | z
        · exact hdr e z
        · rw [List.mem_singleton.mp z]
          exact h1
      · rw [upd_ne (ne_of_none e hDH)]
        exact k4 _ _ nb (k3 _ _ nb e)
      · obtain ⟨x1, x2, x3, z1, z2, z3, z4, z5⟩ := hp4
        refine ⟨x1, x2, x3, by rw [upd_ne (Ne.symm nD)]; exact z1, z2, z3, z4, ?_⟩
        have e1 : (i + 1) * potA n = i * potA n + potA n := by rw [Nat.add_mul, Nat.one_mul]
        rw [e1]
        omega
    · rintro H3 ⟨vs, ds, hD3, hvl, hda, hdr, k3, hp3⟩
      refine ⟨D, _, rfl, hD3, trivial, fun o => ?_⟩
      have hl := hda.length
      have dl : ds.length ≤ 2 := by omega
      have kl : Kp H3 (upd H3 D (.frz o (.lst vs))) := .lst hD3 _
      have hb : m.toNat * potA n ≤ 2 * potA n := Nat.mul_le_mul_right _ (by omega)
      refine q _ (.list ds) _ (aw_list (by omega) hdr) (.lst upd_same (hda.kp kl)) (fun b o nb e => ?_) ?_
      · rw [upd_ne (ne_of_none e hDH)]
        exact k3 _ _ nb e
      · obtain ⟨x1, x2, x3, z1, z2, z3, z4, z5⟩ := hp3
        exact ⟨x1, x2, x3, by rw [upd_ne (Ne.symm nD)]; exact z1, z2, z3, z4, by omega⟩
  · refine ⟨_, rfl, (by show 5 ≤ sizeLine; decide), fun a ha => ?_⟩
    have nap : a ≠ p := fun e => by rw [e, hq1] at ha; cases ha
    refine ⟨_, rfl, p, 4, c + 1, rfl, by decide, by decide, hp1.same (same_new ha _), by omega, fun m H2 m0 m1 k2 hp2 => ?_⟩
    have ha2 : H2 a = some (.lst ((["x", "y", "k", "t", "abcdefgh"] : List Str).map V.str)) := k2 _ _ nap upd_same
    have kH2 : Ch p H H2 := (k1.trans (.same (same_new ha _))).trans k2
    refine ⟨p, a, ["x", "y", "k", "t", "abcdefgh"], m, c + 2, rfl, ha2, nap, by decide, m0, by omega, hp2, by omega, fun l ys H3 hl3 hl2 nlp hyl hys k3 hp3 => ?_⟩
    obtain ⟨ys3, hq3⟩ := hp3.lst
    refine ⟨_, rfl, l, rfl, ⟨_, SqL.of hl3⟩, fun D hD => ?_⟩
    have nD : D ≠ p := fun e => by rw [e, hq3] at hD; cases hD
    have nDl : D ≠ l := fun e => by rw [e, hl3] at hD; cases hD
    have hDH : H D = none := by
      cases z : H D with
      | none => rfl
      | some o => rw [k3 _ _ nD (kH2 _ _ nD z)] at hD; cases hD
    refine lc_it (walk_list (K := K) (a := l) (xs := ys.map V.str)) (fun i H4 => ∃ ts kvs, H4 D = some (.lst (ts.map V.ref)) ∧ ts.length = i ∧ Paired (fun (t : Addr) (kv : Key × V) => H4 t = some (.tup [kV kv.1, kv.2])) ts kvs ∧
        (∀ kv ∈ kvs, RE P w KPn (fun d => Aw n d) H4 kv) ∧ H4 l = some (.lst (ys.map V.str)) ∧ Ch p H H4 ∧ PotAt H4 p (c + 2 + m.toNat + i * potA n))
      ⟨[], [], upd_same, rfl, .nil, (fun _ h => nomatch h), by rw [upd_ne (Ne.symm nDl)]; exact hl3, (kH2.trans k3).trans (.same (same_new hD _)), (hp3.same (same_new hD _)).mono (by omega)⟩ (fun _ H4 _ z => by obtain ⟨_, _, _, _, _, _, z, _⟩ := z; exact SqL.of z) ?_ ?_
    · rintro i v H4 H4' hi ⟨ts, kvs, hD4, htl, hpr, hre, hl4, k4, hp4⟩ ⟨rfl, hv⟩
      rw [List.length_map] at hi
      rw [List.getElem?_map, List.getElem?_eq_getElem hi] at hv
      cases hv
      refine ⟨rfl, ?_⟩
      simp only [tYes, if_true]
      have hb : i * potA n ≤ 2 * potA n := Nat.mul_le_mul_right _ (by omega)
      refine ⟨_, rfl, _, rfl, _, rfl, _, _, rfl, rfl, p, c + 2 + m.toNat + i * potA n, ?_, hp4, by omega, fun x d H5 h1 h3 k5 hp5 => ⟨(by show 2 ≤ sizeLine; decide), fun t ht => ?_⟩⟩
      · show ([V.ref p, V.int (((n + 1 : Nat) : Int) - 1)] : List V) = [V.ref p, V.int (n : Int)]
        rw [show ((n + 1 : Nat) : Int) - 1 = (n : Int) by omega]
      obtain ⟨ys4, hq4⟩ := hp4.lst
      have kp5 : Kp _ H5 := .ch k5 hq4
      have hD5 := k5 _ _ nD hD4
      have ntD : D ≠ t := ne_of_none hD5 ht
      have k6 := same_new ht (.tup [V.str ys[i], x])
      have hD6 := k6 _ _ hD5
      have kl : Kp (upd H5 t (.tup [V.str ys[i], x])) (upd (upd H5 t (.tup [V.str ys[i], x])) D (.lst (ts.map V.ref ++ [V.ref t]))) := .lst hD6 _
      have kall := kp5.trans ((Kp.same k6).trans kl)
      refine ⟨_, hD6, K00.small1000 (by rw [List.length_map]; omega), ts ++ [t], kvs ++ [(Sum.inr ys[i], x)], by rw [upd_same, List.map_append]; rfl, by simp [htl], ?_, fun kv hkv => ?_, ?_, fun b o nb e => ?_, ?_⟩
      · refine paired_append (Paired.mapP hpr fun t kv z => kall.1 _ _ z) (.cons ?_ .nil)
        rw [upd_ne (Ne.symm ntD)]
        exact upd_same
      · rcases List.mem_append.mp hkv with z | z
        · exact (hre kv z).kp kall
        · rw [List.mem_singleton.mp z]
          exact ⟨ys[i], d, rfl, kp_of (List.all_eq_true.mp five_ok _ (hys _ (List.getElem_mem hi))), h3.kp ((Kp.same k6).trans kl), h1⟩
      · rw [upd_ne (Ne.symm nDl)]
        exact k6 _ _ (k5 _ _ nlp hl4)
      · rw [upd_ne (ne_of_none e hDH)]
        exact k6 _ _ (k5 _ _ nb (k4 _ _ nb e))
      · obtain ⟨x1, x2, x3, z1, z2, z3, z4, z5⟩ := hp5
        refine ⟨x1, x2, x3, by rw [upd_ne (Ne.symm nD)]; exact k6 _ _ z1, z2, z3, z4, ?_⟩
        have e1 : (i + 1) * potA n = i * potA n + potA n := by rw [Nat.add_mul, Nat.one_mul]
        rw [e1]
        omega
    · rintro H4 ⟨ts, kvs, hD4, htl, hpr, hre, hl4, k4, hp4⟩
      rw [List.length_map] at htl hp4
      refine ⟨D, ts, kvs, rfl, SqL.of hD4, Paired.mapP hpr fun t kv z => SqT.of z, fun pd hpd => ⟨pd, _, rfl, upd_same, fun nd o => ?_⟩⟩
      obtain ⟨ds, hda, hdl, hnd, hds⟩ := made_dict (o := o) hpd hre rfl nd
      have hkl : kvs.length = ts.length := (Paired.length hpr).symm
      have dl : ds.length ≤ 3 := by omega
      obtain ⟨ys4, hq4⟩ := hp4.lst
      have npd : pd ≠ p := fun e => by rw [e, hq4] at hpd; cases hpd
      have hb : ys.length * potA n ≤ m.toNat * potA n := Nat.mul_le_mul_right _ hyl
      have hb2 : m.toNat * potA n ≤ 3 * potA n := Nat.mul_le_mul_right _ (by omega)
      refine q _ (.dict ds) _ (aw_dict dl hnd fun p hp => ?_) hda (fun b o' nb e => ?_) ?_
      · obtain ⟨s, e, hk, h1⟩ := hds p hp
        exact ⟨⟨s, e, hk⟩, h1⟩
      · rw [upd_upd]
        exact (same_new hpd _) _ _ (k4 _ _ nb e)
      · rw [upd_upd]
        exact (hp4.same (same_new hpd _)).mono (by omega)
end
end K87
set_option Elab.async false
set_option linter.all false
set_option maxRecDepth 100000
set_option maxHeartbeats 8000000
/-! L88C: _law_bent_text. -/
namespace K87
open PySem PySem.Spec L2 K00 TL
open PyProof.Rows (envOfC sortedS)
theorem tl_to (z : Str) (a : Nat) : tl (cutS z none (some (a : Int))) = (tl z).take a := by
  show ((z.cps.toList.drop (HT.sIx z.length 0 none)).take (HT.sIx z.length z.length (some (a : Int)) - HT.sIx z.length 0 none)) = _
  rw [HT.sIx_nat, HT.sIx_none, List.drop_zero, Nat.sub_zero]
  have e : z.length = z.cps.toList.length := by simp [Str.length]
  show _ = z.cps.toList.take a
  rcases Nat.le_total a z.length with h | h
  · rw [Nat.min_eq_left h]
  · rw [Nat.min_eq_right h, e, List.take_length, List.take_of_length_le (by omega)]
theorem tl_from (z : Str) (a : Nat) : tl (cutS z (some (a : Int)) none) = (tl z).drop a := by
  show ((z.cps.toList.drop (HT.sIx z.length 0 (some (a : Int)))).take (HT.sIx z.length z.length none - HT.sIx z.length 0 (some (a : Int)))) = _
  rw [HT.sIx_nat, HT.sIx_none]
  have e : z.length = z.cps.toList.length := by simp [Str.length]
  show _ = z.cps.toList.drop a
  rcases Nat.le_total a z.length with h | h
  · rw [Nat.min_eq_left h]
    exact List.take_of_length_le (by rw [List.length_drop]; omega)
  · rw [Nat.min_eq_right h, Nat.sub_self, List.take_zero, List.drop_eq_nil_of_le (by omega)]
/-- a text so long, so many parts opened, signs below 128 alone -/
structure TxB (n o : Nat) (l : List Nat) : Prop where
  ln : l.length ≤ n
  op : opn l ≤ o
  lo : ∀ c ∈ l, c < 128
theorem TxB.mono {n o n' o' : Nat} {l : List Nat} (h : TxB n o l) (a : n ≤ n') (b : o ≤ o') : TxB n' o' l := ⟨Nat.le_trans h.ln a, Nat.le_trans h.op b, h.lo⟩
theorem TxB.bent {n o : Nat} {l x : List Nat} (h : TxB n o l) {a b : Nat} (ab : a ≤ b) (hx : x.length ≤ 2) (ho : opn x ≤ 1) (hl : ∀ c ∈ x, c < 128) : TxB (n + 2) (o + 1) ((l.take a ++ x) ++ l.drop b) := by
  have s : (l.take a ++ l.drop b).Sublist l := by
    have : (l.take a ++ l.drop b).Sublist (l.take a ++ l.drop a) := List.Sublist.append (List.Sublist.refl _) (by
      have : l.drop b = (l.drop a).drop (b - a) := by rw [List.drop_drop]; congr 1; omega
      rw [this]
      exact List.drop_sublist _ _)
    rwa [List.take_append_drop] at this
  refine ⟨?_, ?_, fun c hc => ?_⟩
  · have := s.length_le
    have := h.ln
    rw [List.length_append] at *
    rw [List.length_append]
    omega
  · have h1 : opn (l.take a ++ l.drop b) ≤ opn l := s.countP_le
    have := h.op
    rw [opn_app] at h1
    rw [opn_app, opn_app]
    omega
  · rcases List.mem_append.mp hc with z | z
    · rcases List.mem_append.mp z with z | z
      · exact h.lo c (List.mem_of_mem_take z)
      · exact hl c z
    · exact h.lo c (List.mem_of_mem_drop z)
def bentV : List V := [.str "\"", .str "\\", .str "[", .str "]", .str "{", .str "}", .str " ", .str ",", .str ":", .str "-", .str "0", .str "7", .str "x", .str "y", .str "es", .str "no", .str "A"]
theorem bent_ok : bentV.all (fun v => match v with
  | .str x => Nat.ble (tl x).length 2 && (Nat.ble (opn (tl x)) 1 && (tl x).all fun c => Nat.blt c 128)
  | _ => false) = true := by decide +kernel
section
variable {P : Program} {w : World} {K : PySem.W.Frag} {mg : Str → Option Value} {base : Heap} {f g g2 g3 g4 : Addr} {fd gd gd2 gd3 gd4 : FuncData}
def spBT : Sp := fun vs H Q _ => ∃ (p : Addr) (c n o : Nat) (z : Str), vs = [.ref p, .str z] ∧ PotAt H p c ∧ c + 3 ≤ 60000 ∧ TxB n o (tl z) ∧ n ≤ 900 ∧ ∀ z' H', TxB (n + 2) (o + 1) (tl z') → Ch p H H' → PotAt H' p (c + 3) → Q (.str z') H'
abbrev NgBT : List Str := ["_law_pot_here", "_law_text", "_law_at", "_law_pick", "_law_some", "_law_sign"]
theorem scBT : FnScope NgBT ["_law_pot_here", "_law_text"] (defScope (top 42)) := ⟨rfl, rfl, rfl, by decide +kernel, rfl, by decide +kernel, by decide +kernel⟩
theorem ok_BT (F : FnD K "_law_bent_text" 42 f fd) (B : Bl mg)
    (GT : FnOk P w K mg base CX0 1 g2 gd2 ["_law_pot_here", "_law_upto"] spTake) (bT : Binds K gd2 ["_law_pot_here", "_law_upto"] []) (kT : PySem.W.keepIn K (.ref g2) = true) (gT : mg "_law_take" = some (.ref g2))
    (GO : FnOk P w K mg base CX0 2 g gd ["_law_pot_here", "_law_some"] spOf) (bO : Binds K gd ["_law_pot_here", "_law_some"] []) (kO : PySem.W.keepIn K (.ref g) = true) (gO : mg "_law_of" = some (.ref g)) :
    FnOk P w K mg base CX0 3 f fd ["_law_pot_here", "_law_text"] spBT := by
  refine F.ok scBT (fun vs H Q E h => ?_) (fun cdv A outer s H vs Q E hr h => ?_)
  · obtain ⟨p, c, n, o, z, rfl, _⟩ := h
    rfl
  obtain ⟨p, c, n, o, z, rfl, hp, hc, hz, hn, q⟩ := h
  have hr1 : Room 1 _ := hr.mono (by omega)
  have hr2 : Room 2 _ := hr.mono (by omega)
  refine ⟨_, PSs.nox (pss_cons (ps_par (i := 2) (j := 3) rfl scBT.nd rfl rfl (by decide) rfl rfl
        (pa_cons (pe_call GT hr1 rfl gT kT bT .nil pass0 (pa_cons (pv 0) (pa_cons (pe_op op_add (pe_callB call_len_str (by rfl) B.len PySem.boot_len (pa_cons (pv 1) pa_nil)) pe_int) pa_nil)))
        (pa_cons (pe_call GT hr1 rfl gT kT bT .nil pass0 (pa_cons (pv 0) (pa_cons pe_int pa_nil))) pa_nil)) (by rfl))
    (pss_cons (ps_set (i := 4) scBT.nd rfl (Or.inl rfl) (pe_lst (pa_cons pe_str (pa_cons pe_str (pa_cons pe_str (pa_cons pe_str (pa_cons pe_str (pa_cons pe_str (pa_cons pe_str (pa_cons pe_str (pa_cons pe_str (pa_cons pe_str (pa_cons pe_str (pa_cons pe_str (pa_cons pe_str (pa_cons pe_str (pa_cons pe_str (pa_cons pe_str (pa_cons pe_str (pa_nil))))))))))))))))))))
    (pss_cons (ps_set (i := 5) scBT.nd rfl (Or.inl rfl) (pe_call GO hr2 rfl gO kO bO .nil pass0 (pa_cons (pv 0) (pa_cons (pv 4) pa_nil))))
    (pss_one (ps_ret (pe_op op_add_str (pe_op op_add_str (pe_slice sl_str (pv 1) po_none (po_some (pv 2))) (pe_ifExp (pt_cmpR op_lt (pv 3) pe_int (nomark _)) (pv 5) pe_str))
      (pe_slice sl_str (pv 1) (po_some (pe_op op_add (pv 2) (pe_callTy call_int1 (by rfl) B.int (by decide +kernel) (pa_cons (pe_cmpR op_gt (pv 3) pe_int (nomark _)) pa_nil)))) po_none))))))), ?_⟩
  have big : (1000000 : Nat) ≤ sizeLine := by decide
  have zl : z.length = (tl z).length := len_tl z
  have hln := hz.ln
  have en : 0 ≤ (z.length : Int) := by omega
  refine ⟨_, rfl, _, rfl, z, rfl, by omega, _, _, rfl, rfl, p, _, c, rfl, by omega, by omega, hp, by omega, fun at_ H1 a0 a1 k1 hp1 => ?_⟩
  refine ⟨_, rfl, p, 3, c + 1, rfl, by decide, by decide, hp1, by omega, fun pick H2 p0 p1 k2 hp2 => ?_⟩
  obtain ⟨ys2, hq2⟩ := hp2.lst
  refine ⟨_, _, rfl, (by show 17 ≤ sizeLine; decide), fun l hl => ?_⟩
  have nlp : l ≠ p := fun e => by rw [e, hq2] at hl; cases hl
  refine ⟨_, rfl, _, rfl, p, l, bentV, c + 2, rfl, upd_same, nlp, by decide, by decide, hp2.same (same_new hl _), by omega, fun x H3 hx k3 hp3 => ?_⟩
  have hxb := List.all_eq_true.mp bent_ok x hx
  cases x with
  | str x => ?_
  | _ => cases hxb
  obtain ⟨b1, b2⟩ := He.ba hxb
  obtain ⟨b2, b3⟩ := He.ba b2
  have b1' := Nat.le_of_ble_eq_true b1
  have b2' := Nat.le_of_ble_eq_true b2
  have xl : x.length = (tl x).length := len_tl x
  have ea : at_ = ((at_.toNat : Nat) : Int) := by omega
  generalize at_.toNat = a at ea
  subst ea
  have b3' : ∀ c ∈ tl x, c < 128 := fun c hc => Nat.lt_of_lt_of_le (Nat.lt_succ_self c) (Nat.le_of_ble_eq_true (List.all_eq_true.mp b3 c hc))
  have jb : ∀ b : Bool, (if b = true then (1 : Int) else 0) = 0 ∨ (if b = true then (1 : Int) else 0) = 1 := by decide
  have kk : Ch p H H3 := ((k1.trans k2).trans (.same (same_new hl _))).trans k3
  have l1 : (cutS z none (some (a : Int))).length ≤ z.length := cutS_length _ _ _
  have key : ∀ (y : Str) (j : Int), (j = 0 ∨ j = 1) → y.length ≤ 2 → opn (tl y) ≤ 1 → (∀ c ∈ tl y, c < 128) → (cutS z none (some (a : Int))).length + y.length ≤ sizeLine ∧ z.length ≤ sizeLine ∧
      (cutS z none (some (a : Int)) ++ y).length + (cutS z (some ((a : Int) + j)) none).length ≤ sizeLine ∧ Q (.str ((cutS z none (some (a : Int)) ++ y) ++ cutS z (some ((a : Int) + j)) none)) H3 := fun y j hj hy ho hlo => by
    have ej : ∃ b : Nat, (a : Int) + j = (b : Int) ∧ a ≤ b := by rcases hj with rfl | rfl; exact ⟨a, by omega, Nat.le_refl _⟩; exact ⟨a + 1, by omega, by omega⟩
    obtain ⟨b, eb, ab⟩ := ej
    rw [eb]
    have l3 : (cutS z (some (b : Int)) none).length ≤ z.length := cutS_length _ _ _
    have l4 : (cutS z none (some (a : Int)) ++ y).length = (cutS z none (some (a : Int))).length + y.length := by rw [len_tl, tl_append, List.length_append, ← len_tl, ← len_tl]
    refine ⟨by omega, by omega, by omega, q _ H3 ?_ kk (hp3.mono (by omega))⟩
    rw [tl_append, tl_append, tl_to, tl_from]
    exact hz.bent ab (by rw [← len_tl]; exact hy) ho hlo
  refine ⟨_, rfl, _, rfl, _, rfl, z, rfl, by omega, _, rfl, _, _, rfl, rfl, _, rfl, ite2 (fun c2 => ?_) (fun c2 => ?_)⟩
  · obtain ⟨z1, z2, z3, z4⟩ := key x _ (jb _) (by omega) b2' b3'
    exact ⟨_, rfl, _, _, rfl, rfl, z1, _, rfl, _, rfl, _, rfl, _, _, rfl, rfl, .inr ⟨_, rfl, _, _, rfl, rfl, _, rfl, z, rfl, z2, _, _, rfl, rfl, z3, z4⟩⟩
  · obtain ⟨z1, z2, z3, z4⟩ := key (Str.ofString "") _ (jb _) (by decide) (by decide) (by decide)
    exact ⟨_, _, rfl, rfl, z1, _, rfl, _, rfl, _, rfl, _, _, rfl, rfl, .inr ⟨_, rfl, _, _, rfl, rfl, _, rfl, z, rfl, z2, _, _, rfl, rfl, z3, z4⟩⟩
end
end K87
set_option Elab.async false
set_option linter.all false
set_option maxRecDepth 100000
set_option maxHeartbeats 8000000
/-! L88D: _law_text_drawn. -/
namespace K87
open PySem PySem.Spec L2 K00 TL
open PyProof.Rows (envOfC sortedS)
mutual
theorem iq_tq : ∀ {d : PyData}, Tq d → Iq d
  | .none, _ => trivial
  | .bool _, _ => trivial
  | .int _, h => log_le7 h
  | .str _, h => h.2
  | .tuple _, h => h.elim
  | .list xs, h => iq_tqL (xs := xs) h
  | .dict ds, h => iq_tqK (ds := ds) h
theorem iq_tqL : ∀ {xs : List PyData}, TqL xs → IqL xs
  | [], _ => trivial
  | _ :: _, h => ⟨iq_tq h.1, iq_tqL h.2⟩
theorem iq_tqK : ∀ {ds : List (PyData × PyData)}, TqK ds → IqK ds
  | [], _ => trivial
  | (_, _) :: _, h => ⟨iq_tq h.1, iq_tqK h.2⟩
end
theorem Aw.tz {n : Nat} {d : PyData} (h : Aw n d) (hw : wA n ≤ 100000) : Tz d := ⟨h.th.1, h.th.2.1.sm.mono (by omega), iq_tq h.th.2.2, Nat.le_trans h.wl hw⟩
theorem Aw.tx {n : Nat} {d : PyData} (h : Aw n d) : TxB (wA n) (oA n) (wr d) := ⟨h.wl, h.op, h.lo⟩
def oddTa : List V := [.str "", .str "-0", .str "00", .str "07", .str "-", .str "--", .str "[", .str "[]", .str "[ ]", .str "{}", .str "{x: -", .str "{x:-}", .str "{y: -, x: -}", .str "{x: -, x: -}"]
def oddTb : List V := [.str "[-,-]", .str "[-, ]", .str "yes ", .str " yes", .str "yesno", .str "\"", .str "\"\\", .str "\"\\a\"", .str "{X: -}", .str "{: 1}"]
def oddTc : V := .str "{abcdefghi: 1}"
theorem oddT_ok : ((oddTa ++ oddTb) ++ [oddTc]).all (fun v => match v with
  | .str x => Nat.ble (tl x).length 261 && (Nat.ble (opn (tl x)) 15 && (tl x).all fun c => Nat.blt c 128)
  | _ => false) = true := by decide +kernel
section
variable {P : Program} {w : World} {K : PySem.W.Frag} {mg : Str → Option Value} {base : Heap} {f g g2 g3 g4 g5 : Addr} {fd gd gd2 gd3 gd4 gd5 : FuncData}
def spTD : Sp := fun vs H Q _ => ∃ (p : Addr) (c : Nat), vs = [.ref p] ∧ PotAt H p c ∧ c + 50 ≤ 60000 ∧ ∀ z H', TxB 261 15 (tl z) → Ch p H H' → PotAt H' p (c + 50) → Q (.str z) H'
abbrev NgTD : List Str := ["_law_pot_here", "_law_some", "_law_pick", "_law_text", "_law_turn"]
theorem scTD : FnScope NgTD ["_law_pot_here"] (defScope (top 43)) := ⟨rfl, rfl, rfl, by decide +kernel, rfl, by decide +kernel, by decide +kernel⟩
theorem ok_TD (F : FnD K "_law_text_drawn" 43 f fd) (B : Bl mg)
    (GT : FnOk P w K mg base CX0 1 g2 gd2 ["_law_pot_here", "_law_upto"] spTake) (bT : Binds K gd2 ["_law_pot_here", "_law_upto"] []) (kT : PySem.W.keepIn K (.ref g2) = true) (gT : mg "_law_take" = some (.ref g2))
    (GO : FnOk P w K mg base CX0 2 g gd ["_law_pot_here", "_law_some"] spOf) (bO : Binds K gd ["_law_pot_here", "_law_some"] []) (kO : PySem.W.keepIn K (.ref g) = true) (gO : mg "_law_of" = some (.ref g))
    (GA : FnOk P w K mg base CX0 6 g3 gd3 ["_law_pot_here", "_law_deep"] (spAny P w 2)) (bA : Binds K gd3 ["_law_pot_here", "_law_deep"] []) (kA : PySem.W.keepIn K (.ref g3) = true) (gA : mg "_law_any" = some (.ref g3))
    (GW : FnOk P w K mg base CX0 3 g4 gd4 ["_law_document"] (spWrit P w 3)) (bW : Binds K gd4 ["_law_document"] []) (kW : PySem.W.keepIn K (.ref g4) = true) (gW : mg "_law_writ" = some (.ref g4))
    (GB : FnOk P w K mg base CX0 3 g5 gd5 ["_law_pot_here", "_law_text"] spBT) (bB : Binds K gd5 ["_law_pot_here", "_law_text"] []) (kB : PySem.W.keepIn K (.ref g5) = true) (gB : mg "_law_bent_text" = some (.ref g5)) :
    FnOk P w K mg base CX0 7 f fd ["_law_pot_here"] spTD := by
  refine F.ok scTD (fun vs H Q E h => ?_) (fun cdv A outer s H vs Q E hr h => ?_)
  · obtain ⟨p, c, rfl, _⟩ := h
    rfl
  obtain ⟨p, c, rfl, hp, hc, q⟩ := h
  have hr1 : Room 1 _ := hr.mono (by omega)
  have hr2 : Room 2 _ := hr.mono (by omega)
  have hr3 : Room 3 _ := hr.mono (by omega)
  refine ⟨_, PSs.nox (pss_cons (ps_set (i := 1) scTD.nd rfl (Or.inl rfl) (pe_lst (pa_cons pe_str (pa_cons pe_str (pa_cons pe_str (pa_cons pe_str (pa_cons pe_str (pa_cons pe_str (pa_cons pe_str (pa_cons pe_str (pa_cons pe_str (pa_cons pe_str (pa_cons pe_str (pa_cons pe_str (pa_cons pe_str (pa_cons pe_str (pa_nil)))))))))))))))))
    (pss_cons (ps_set (i := 1) scTD.nd rfl (Or.inl rfl) (pe_op op_cat (pv 1) (pe_lst (pa_cons pe_str (pa_cons pe_str (pa_cons pe_str (pa_cons pe_str (pa_cons pe_str (pa_cons pe_str (pa_cons pe_str (pa_cons pe_str (pa_cons pe_str (pa_cons pe_str (pa_nil))))))))))))))
    (pss_cons (ps_expr (pe_bm PySem.F.plainAttrs_list PySem.F.slot_list_append PySem.F.type_list_append mt_append (pv 1) (pa_cons pe_str pa_nil)))
    (pss_cons (ps_set (i := 2) scTD.nd rfl (Or.inl rfl) (pe_call GT hr1 rfl gT kT bT .nil pass0 (pa_cons (pv 0) (pa_cons pe_int pa_nil))))
    (pss_cons (ps_if (pt_cmpR op_eq (pv 2) pe_int (nomark _)) (pss_one (ps_ret (pe_call GO hr2 rfl gO kO bO .nil pass0 (pa_cons (pv 0) (pa_cons (pv 1) pa_nil))))) pss_nil)
    (pss_cons (ps_set (i := 3) scTD.nd rfl (Or.inl rfl) (pe_call GW hr3 rfl gW kW bW .nil pass0 (pa_cons (pe_call GA hr rfl gA kA bA .nil pass0 (pa_cons (pv 0) (pa_cons pe_int pa_nil))) pa_nil)))
    (pss_cons (ps_for PassesOwn.never rfl (pi_range1 (by rfl) B.range (pa_cons (pe_callB (call_min2 rfl) (by rfl) B.min (by decide +kernel) (pa_cons pe_int (pa_cons (pe_op op_mod (pv 2) pe_int) pa_nil))) pa_nil))
        (pg_name (i := 4) scTD.nd rfl (Or.inl rfl))
      (pss_one (ps_set (i := 3) scTD.nd rfl (Or.inl rfl) (pe_call GB hr3 rfl gB kB bB .nil pass0 (pa_cons (pv 0) (pa_cons (pv 3) pa_nil))))))
    (pss_one (ps_ret (pv 3)))))))))), ?_⟩
  obtain ⟨ys0, hp0⟩ := hp.lst
  refine ⟨(by show 14 ≤ sizeLine; decide), fun l1 hl1 => ?_⟩
  have k1 := same_new hl1 (.lst oddTa)
  have n1 : l1 ≠ p := fun e => by rw [e, hp0] at hl1; cases hl1
  refine ⟨_, rfl, (by show 10 ≤ sizeLine; decide), fun l2 hl2 => ?_⟩
  have k2 := same_new hl2 (.lst oddTb)
  refine ⟨l1, l2, _, _, rfl, rfl, k2 _ _ upd_same, upd_same, (by show 14 + 10 ≤ sizeLine; decide), fun l3 hl3 => ?_⟩
  have k3 := same_new hl3 (.lst (oddTa ++ oddTb))
  have k03 : Same H _ := (k1.trans k2).trans k3
  have hl3H : H l3 = none := (k1.trans k2).free hl3
  have n3 : l3 ≠ p := fun e => by rw [e, hp0] at hl3H; cases hl3H
  refine ⟨_, rfl, .inl ⟨rfl, _, SqL.of upd_same⟩, l3, _, _, rfl, rfl, upd_same, (by show 24 < sizeLine; decide), ?_⟩
  rw [upd_upd]
  have kA : Same H (upd (upd (upd H l1 (.lst oddTa)) l2 (.lst oddTb)) l3 (.lst ((oddTa ++ oddTb) ++ [oddTc]))) := (k1.trans k2).trans (same_new hl3 _)
  have pA := hp.same kA
  have eA : upd (upd (upd H l1 (.lst oddTa)) l2 (.lst oddTb)) l3 (.lst ((oddTa ++ oddTb) ++ [oddTc])) l3 = some (.lst ((oddTa ++ oddTb) ++ [oddTc])) := upd_same
  have fin : ∀ (x : V) (H5 : Hp), x ∈ ((oddTa ++ oddTb) ++ [oddTc]) → Ch p H H5 → PotAt H5 p (c + 2) → Q x H5 := fun x H5 hx k5 hp5 => by
    have hxb := List.all_eq_true.mp oddT_ok x hx
    cases x with
    | str x => ?_
    | _ => cases hxb
    obtain ⟨b1, b2⟩ := He.ba hxb
    obtain ⟨b2, b3⟩ := He.ba b2
    exact q x H5 ⟨Nat.le_of_ble_eq_true b1, Nat.le_of_ble_eq_true b2, fun c hc => Nat.lt_of_lt_of_le (Nat.lt_succ_self c) (Nat.le_of_ble_eq_true (List.all_eq_true.mp b3 c hc))⟩ k5 (hp5.mono (by omega))
  have len25 : ((oddTa ++ oddTb) ++ [oddTc]).length = 25 := rfl
  refine ⟨_, rfl, p, 6, c, rfl, by decide, by decide, pA, by omega, fun pick H1 p0 p1 kB pB => ?_⟩
  have kHB : Ch p H H1 := (Ch.same kA).trans kB
  have eB := kB _ _ n3 eA
  refine ⟨_, rfl, rfl, _, rfl, ite2 (fun c1 => ?_) (fun c1 => ?_)⟩
  · exact ⟨_, rfl, _, rfl, p, l3, (oddTa ++ oddTb) ++ [oddTc], c + 1, rfl, eB, n3, by omega, by omega, pB, by omega, fun x H5 hx k5 hp5 => fin x H5 hx (kHB.trans k5) hp5⟩
  have pA2 : potA 2 = 33 := rfl
  refine ⟨_, rfl, p, c + 1, rfl, pB, by omega, fun x d H2 aw hd kC pC => ?_⟩
  refine ⟨x, d, rfl, hd, aw.tz (by decide), Nat.le_trans aw.wl (by decide), Nat.lt_succ_of_le aw.th.2.1.dep, fun H3 kD => ?_⟩
  have kH3 : Ch p H H3 := (kHB.trans kC).trans (.same kD)
  have pD : PotAt H3 p (c + 34) := (pC.same kD).mono (by omega)
  have hz0 : TxB 257 13 (tl (mk (wr d))) := aw.tx
  generalize mk (wr d) = z0 at hz0
  refine ⟨_, rfl, _, _, rfl, rfl, (by show (0 : Int) < 4; decide), _, _, rfl, ?_⟩
  have jb : ∃ j : Nat, (if pick % 4 < 2 then pick % 4 else 2) = (j : Int) ∧ j ≤ 2 := by
    split
    · exact ⟨(pick % 4).toNat, by omega, by omega⟩
    · exact ⟨2, rfl, Nat.le_refl _⟩
  obtain ⟨j, ej, j1⟩ := jb
  rw [ej]
  refine ⟨_, rfl, by omega, by omega, ?_⟩
  refine for_range (lo := 0) (n := j) (fun i σ H4 => ∃ (tv : Option V) (zz : Str), σ = [some (.ref p), some (.ref l3), some (.int pick), some (.str zz), tv] ∧ TxB (257 + 2 * i) (13 + i) (tl zz) ∧ Ch p H H4 ∧ PotAt H4 p (c + 34 + 3 * i))
    ⟨none, z0, rfl, hz0, kH3, pD⟩ ?turn ?after
  case turn =>
    rintro i σ H4 hi ⟨tv, zz, rfl, hzz, k4, p4⟩
    refine ⟨_, rfl, _, rfl, p, c + 34 + 3 * i, _, _, zz, rfl, p4, by omega, hzz, by omega, fun z' H5 hz' k5 p5 => ?_⟩
    exact ⟨_, z', rfl, hz'.mono (by omega) (by omega), k4.trans k5, p5.mono (by omega)⟩
  case after =>
    rintro σ H4 ⟨tv, zz, rfl, hzz, k4, p4⟩
    exact ⟨_, rfl, q zz H4 (hzz.mono (by omega) (by omega)) k4 (p4.mono (by omega))⟩
end
end K87
set_option Elab.async false
set_option linter.all false
set_option maxRecDepth 100000
set_option maxHeartbeats 8000000
/-! L88E: _law_string. -/
namespace K87
open PySem PySem.Spec L2 K00 TL
open PyProof.Rows (envOfC sortedS)
/-- a string read, its first quote aside: what it says, and what comes behind it -/
def strR : List Nat → Option (List Nat × List Nat)
  | [] => none
  | [c] => if c = 34 then some ([], []) else none
  | c :: d :: r => if c = 34 then some ([], d :: r) else if c = 92 then (if d = 34 ∨ d = 92 then (strR r).map (fun p => (d :: p.1, p.2)) else none) else (strR (d :: r)).map (fun p => (c :: p.1, p.2))
theorem strR_quote (r : List Nat) : strR (34 :: r) = some ([], r) := by cases r <;> rfl
theorem strR_other {c : Nat} (r : List Nat) (h1 : c ≠ 34) (h2 : c ≠ 92) : strR (c :: r) = (strR r).map (fun p => (c :: p.1, p.2)) := by
  cases r with
  | nil => simp [strR, h1]
  | cons d t => simp [strR, h1, h2]
theorem strR_stroke {d : Nat} (r : List Nat) (h : d = 34 ∨ d = 92) : strR (92 :: d :: r) = (strR r).map (fun p => (d :: p.1, p.2)) := by
  simp [strR, h]
theorem strR_bad {r : List Nat} (h : ∀ d, r.head? = some d → ¬ (d = 34 ∨ d = 92)) : strR (92 :: r) = none := by
  cases r with
  | nil => rfl
  | cons d t =>
    have := h d rfl
    simp [strR, this]
theorem esc_cons (c : Nat) (r : List Nat) : esc (c :: r) = (if c = 34 ∨ c = 92 then [92, c] else [c]) ++ esc r := rfl
theorem strR_sound : ∀ (n : Nat) (l : List Nat), l.length ≤ n → ∀ f s, strR l = some (f, s) → l = esc f ++ 34 :: s
  | _, [], _, f, s, h => by cases h
  | 0, _ :: _, hn, _, _, _ => absurd hn (by simp)
  | n + 1, c :: r, hn, f, s, h => by
    rw [List.length_cons] at hn
    by_cases h34 : c = 34
    · subst h34
      rw [strR_quote] at h
      cases h
      rfl
    by_cases h92 : c = 92
    · subst h92
      by_cases hb : ∀ d, r.head? = some d → ¬ (d = 34 ∨ d = 92)
      · rw [strR_bad hb] at h
        cases h
      · cases r with
        | nil => exact absurd (fun d hd => by cases hd) hb
        | cons d r =>
          have hd : d = 34 ∨ d = 92 := by
            refine Decidable.byContradiction fun z => hb fun e he => ?_
            cases he
            exact z
          rw [strR_stroke _ hd] at h
          cases hq : strR r with
          | none => rw [hq] at h; cases h
          | some p =>
            obtain ⟨f', s'⟩ := p
            rw [hq] at h
            cases h
            rw [List.length_cons] at hn
            rw [strR_sound n r (by omega) _ _ hq, esc_cons, if_pos hd]
            rfl
    · rw [strR_other _ h34 h92] at h
      cases hq : strR r with
      | none => rw [hq] at h; cases h
      | some p =>
        obtain ⟨f', s'⟩ := p
        rw [hq] at h
        cases h
        rw [strR_sound n r (by omega) _ _ hq, esc_cons, if_neg (by omega)]
        rfl
theorem strR_full : ∀ (f s : List Nat), strR (esc f ++ 34 :: s) = some (f, s)
  | [], s => strR_quote s
  | c :: r, s => by
    rw [esc_cons]
    by_cases h : c = 34 ∨ c = 92
    · rw [if_pos h]
      show strR (92 :: c :: (esc r ++ 34 :: s)) = _
      rw [strR_stroke _ h, strR_full r s]
      rfl
    · rw [if_neg h]
      show strR (c :: (esc r ++ 34 :: s)) = _
      rw [strR_other _ (fun z => h (.inl z)) (fun z => h (.inr z)), strR_full r s]
      rfl
theorem two_eq (t : List Nat) : inV (.str (mk t)) [.str "\"", .str "\\"] = decide (t = [34] ∨ t = [92]) := by
  show inV (.str (mk t)) ((["\"", "\\"] : List Str).map V.str) = _
  rw [inV_strs]
  have e1 : (("\"" : Str)) = mk [34] := by decide +kernel
  have e2 : (("\\" : Str)) = mk [92] := by decide +kernel
  rw [e1, e2]
  have inj : ∀ u : List Nat, mk t = mk u ↔ t = u := fun u => ⟨fun h => congrArg tl h, fun h => congrArg mk h⟩
  simp only [List.mem_cons, List.not_mem_nil, or_false, inj]
section
variable {P : Program} {w : World} {K : PySem.W.Frag} {mg : Str → Option Value} {base : Heap} {f g g2 g3 : Addr} {fd gd gd2 gd3 : FuncData}
/-- what was read, and where it ended -/
def spLS : Sp := fun vs H Q _ => ∃ (z : Str) (a : Nat), vs = [.str z, .int (a : Nat)] ∧ z.length ≤ 1000 ∧ a < z.length ∧
  (strR ((tl z).drop (a + 1)) = none → ∀ H', Same H H' → Q .non H') ∧
  ∀ f s, strR ((tl z).drop (a + 1)) = some (f, s) → ∀ t H' (e : Nat), Same H H' → H t = none → H' t = some (.tup [.str (mk f), .int (e : Nat)]) → e ≤ z.length → (tl z).drop e = s → Q (.ref t) H'
abbrev NgLS : List Str := ["_law_text", "_law_at", "_law_found", "_law_step"]
theorem scLS : FnScope NgLS ["_law_text", "_law_at"] (defScope (top 40)) := ⟨rfl, rfl, rfl, by decide +kernel, rfl, by decide +kernel, by decide +kernel⟩
theorem ok_LS (F : FnD K "_law_string" 40 f fd) (B : Bl mg) : FnOk P w K mg base CX0 1 f fd ["_law_text", "_law_at"] spLS := by
  refine F.ok scLS (fun vs H Q E h => ?_) (fun cdv A outer s H vs Q E hr h => ?_)
  · obtain ⟨z, a, rfl, _⟩ := h
    rfl
  obtain ⟨z, a, rfl, hz, ha, qn, qs⟩ := h
  refine ⟨_, PSs.nox (pss_cons (ps_par (i := 2) (j := 1) rfl scLS.nd rfl rfl (by decide) rfl rfl (pa_cons pe_str (pa_cons (pe_op op_add (pv 1) pe_int) pa_nil)) (by rfl))
    (pss_cons (ps_while PassesOwn.never (PW.pt (pw_and (pt_cmpR op_lt (pv 1) (pe_callB call_len_str (by rfl) B.len PySem.boot_len (pa_cons (pv 0) pa_nil)) (nomark _)) (pw_and1 (pt_cmpR op_ne (pe_ix ix_str (pv 0) (pv 1) (fun _ _ => rfl)) pe_str (nomark _)))))
      (pss_cons (ps_set (i := 3) scLS.nd rfl (Or.inl rfl) (pe_callTy call_int1 (by rfl) B.int (by decide +kernel) (pa_cons (pe_cmpR op_eq (pe_ix ix_str (pv 0) (pv 1) (fun _ _ => rfl)) pe_str (nomark _)) pa_nil)))
      (pss_cons (ps_if (PW.pt (pw_and (pt_cmpR op_eq (pv 3) pe_int (nomark _)) (pw_and1 (pt_cmpR op_notIn_seq (pe_slice sl_str (pv 0) (po_some (pe_op op_add (pv 1) pe_int)) (po_some (pe_op op_add (pv 1) pe_int))) (pe_tup (pa_cons pe_str (pa_cons pe_str pa_nil))) (by rfl)))))
          (pss_one (ps_ret pe_non)) pss_nil)
      (pss_cons (ps_set (i := 2) scLS.nd rfl (Or.inl rfl) (pe_op op_add_str (pv 2) (pe_ix ix_str (pv 0) (pe_op op_add (pv 1) (pv 3)) (fun _ _ => rfl))))
      (pss_one (ps_set (i := 1) scLS.nd rfl (Or.inl rfl) (pe_op op_add (pe_op op_add (pv 1) (pv 3)) pe_int)))))))
    (pss_one (ps_ret (pe_ifExp (pt_cmpR op_lt (pv 1) (pe_callB call_len_str (by rfl) B.len PySem.boot_len (pa_cons (pv 0) pa_nil)) (nomark _)) (pe_tup (pa_cons (pv 2) (pa_cons (pe_op op_add (pv 1) pe_int) pa_nil))) pe_non))))), ?_⟩
  have big : (1000000 : Nat) ≤ sizeLine := by decide
  have d1 : tl ("\"" : Str) = [34] := by decide +kernel
  have d2 : tl ("\\" : Str) = [92] := by decide +kernel
  have zl : z.length = (tl z).length := len_tl z
  refine ⟨_, rfl, _, _, rfl, rfl, _, _, rfl, ?_⟩
  refine ⟨fun m σ H' => ∃ (e : Nat) (fn : Str) (st : Option V), m + e = z.length ∧ e ≤ z.length ∧ Same H H' ∧ σ = [some (.str z), some (.int (e : Nat)), some (.str fn), st] ∧ fn.length ≤ e ∧ strR ((tl z).drop (a + 1)) = (strR ((tl z).drop e)).map (fun p => (tl fn ++ p.1, p.2)),
    ⟨z.length - (a + 1), a + 1, Str.ofString "", none, by omega, by omega, same_refl H, rfl, by show 0 ≤ _; omega, ?_⟩, ?_⟩
  · have e0 : tl (Str.ofString "") = [] := by decide +kernel
    rw [e0]
    cases strR ((tl z).drop (a + 1)) <;> rfl
  rintro m σ H' ⟨e, fn, st, hm, hle, k, rfl, hfl, he⟩
  have fin : strR ((tl z).drop e) = none → ∀ H'', Same H' H'' → Q .non H'' := fun h0 H'' k2 => qn (by rw [he, h0]; rfl) H'' (k.trans k2)
  have more : ∀ (c : Nat) (r : List Nat), strR ((tl z).drop e) = (strR r).map (fun p => (c :: p.1, p.2)) → strR ((tl z).drop (a + 1)) = (strR r).map (fun p => (tl (fn ++ mk [c]) ++ p.1, p.2)) := fun c r h => by
    rw [he, h, Option.map_map, tl_append]
    congr 1
    funext p
    show (tl fn ++ (c :: p.1), p.2) = ((tl fn ++ [c]) ++ p.1, p.2)
    rw [List.append_assoc]
    rfl
  have fl1 : ∀ c : Nat, (fn ++ mk [c]).length = fn.length + 1 := fun c => by rw [len_tl, tl_append, List.length_append, ← len_tl]; rfl
  refine ⟨_, rfl, _, rfl, z, rfl, by omega, _, _, rfl, rfl, _, rfl, ?_⟩
  refine ite2 (fun c => ?_) (fun c => ?_)
  · have c' : (e : Int) < (z.length : Int) := of_decide_eq_true c
    have hlt : e < (tl z).length := by omega
    have hg : (tl z)[e]? = some (tl z)[e] := List.getElem?_eq_getElem hlt
    have hdr : (tl z).drop e = (tl z)[e] :: (tl z).drop (e + 1) := List.drop_eq_getElem_cons hlt
    generalize (tl z)[e] = ch at hg hdr
    refine ⟨_, rfl, _, rfl, z, _, ch, rfl, rfl, by omega, atI_nat hg, rfl, _, rfl, ?_⟩
    rw [one_eq ch 34 _ d1]
    by_cases h34 : ch = 34
    · rw [decide_eq_true h34]
      refine iteF ⟨_, rfl, _, rfl, z, rfl, by omega, _, _, rfl, rfl, _, rfl, ite_t (decide_eq_true c') ⟨_, rfl, _, rfl, _, _, rfl, rfl, (by show 2 ≤ sizeLine; decide), fun t ht => ?_⟩⟩
      have e1 : ((e : Int) + 1) = ((e + 1 : Nat) : Int) := by omega
      have hs : strR ((tl z).drop (a + 1)) = some (tl fn, (tl z).drop (e + 1)) := by
        rw [he, hdr, h34, strR_quote]
        show some (tl fn ++ [], _) = _
        rw [List.append_nil]
      refine qs _ _ hs t _ (e + 1) (k.trans (same_new ht _)) ?_ ?_ (by omega) rfl
      · cases q0 : H t with
        | none => rfl
        | some o => rw [k _ _ q0] at ht; cases ht
      · rw [upd_same, show mk (tl fn) = fn from mk_tl fn]
        rfl
    · rw [decide_eq_false h34]
      refine iteT ⟨fun σ' H'' => ∃ (e' : Nat) (fn' : Str) (st' : Option V), e < e' ∧ e' ≤ z.length ∧ Same H H'' ∧ σ' = [some (.str z), some (.int (e' : Nat)), some (.str fn'), st'] ∧ fn'.length ≤ e' ∧ strR ((tl z).drop (a + 1)) = (strR ((tl z).drop e')).map (fun p => (tl fn' ++ p.1, p.2)),
        fun σ' H'' ⟨e', fn', st', z1, z2, z3⟩ => ⟨z.length - e', by omega, e', fn', st', by omega, z2, z3⟩, ?_⟩
      refine ⟨_, rfl, _, rfl, z, _, ch, rfl, rfl, by omega, atI_nat hg, rfl, .inr ⟨_, rfl, ?_⟩⟩
      rw [one_eq ch 92 _ d2]
      by_cases h92 : ch = 92
      · rw [decide_eq_true h92]
        refine ⟨_, rfl, rfl, _, rfl, ite_t (by decide) ⟨_, rfl, _, rfl, _, _, rfl, rfl, _, rfl, _, rfl, _, _, rfl, rfl, _, rfl, z, rfl, by omega, (by show 2 ≤ sizeLine; decide), fun p hp => ⟨p, _, rfl, .inr (SqT.of upd_same), rfl, rfl, _, rfl, ?_⟩⟩⟩
        have k4 := same_new hp (.tup [.str "\"", .str "\\"])
        show if (!inV (.str (cutS z (some ((e + 1 : Nat) : Int)) (some ((e + 2 : Nat) : Int)))) [.str "\"", .str "\\"]) = true then _ else _
        have ec : cutS z (some ((e + 1 : Nat) : Int)) (some ((e + 2 : Nat) : Int)) = mk (((tl z).drop (e + 1)).take 1) := by
          refine ext_tl ?_
          rw [tl_cut z (by omega)]
          congr 1
          omega
        rw [ec, two_eq]
        cases hr2 : (tl z).drop (e + 1) with
        | nil =>
          refine ite_t (by decide) (fin ?_ _ k4)
          rw [hdr, h92, hr2]
          exact strR_bad fun d hd => by cases hd
        | cons d r2 =>
          show if (!decide ([d] = [34] ∨ [d] = [92])) = true then _ else _
          have ed : ([d] = [34] ∨ [d] = [92]) ↔ (d = 34 ∨ d = 92) := by simp
          by_cases hd : d = 34 ∨ d = 92
          · rw [decide_eq_true (ed.mpr hd)]
            have hg2 : (tl z)[e + 1]? = some d := by
              have := congrArg (fun l => l[0]?) hr2
              simpa using this
            have hlt2 : e + 1 < (tl z).length := by
              have := congrArg List.length hr2
              rw [List.length_drop, List.length_cons] at this
              omega
            have hr3 : (tl z).drop (e + 2) = r2 := by
              have : (tl z).drop (e + 2) = ((tl z).drop (e + 1)).drop 1 := by rw [List.drop_drop]
              rw [this, hr2]
              rfl
            refine iteF ⟨_, rfl, _, rfl, _, rfl, _, rfl, _, _, rfl, rfl, z, _, d, rfl, rfl, by omega, atI_nat hg2, _, _, rfl, rfl, ?_, _, rfl, _, rfl, _, _, rfl, rfl, _, _, rfl, rfl, ?_⟩
            · show fn.length + 1 ≤ _
              omega
            · exact ⟨e + 2, fn ++ mk [d], _, by omega, by omega, k.trans k4, rfl, by rw [fl1]; omega, more d _ (by rw [hdr, h92, hr2, strR_stroke _ hd, hr3])⟩
          · rw [decide_eq_false fun y => hd (ed.mp y)]
            refine ite_t (by decide) (fin ?_ _ k4)
            rw [hdr, h92, hr2]
            exact strR_bad fun d' hd' => by cases hd'; exact hd
      · rw [decide_eq_false h92]
        refine ⟨_, rfl, rfl, _, rfl, ite_f (by decide) (iteF ⟨_, rfl, _, rfl, _, rfl, _, rfl, _, _, rfl, rfl, z, _, ch, rfl, rfl, by omega, atI_nat hg, _, _, rfl, rfl, ?_, _, rfl, _, rfl, _, _, rfl, rfl, _, _, rfl, rfl, ?_⟩)⟩
        · have := fl1 ch
          show fn.length + 1 ≤ _
          omega
        · exact ⟨e + 1, fn ++ mk [ch], _, by omega, by omega, k, rfl, by rw [fl1]; omega, more ch _ (by rw [hdr, strR_other _ h34 h92])⟩
  · have c' : ¬ (e : Int) < (z.length : Int) := fun h => c (decide_eq_true h)
    refine iteF ⟨_, rfl, _, rfl, z, rfl, by omega, _, _, rfl, rfl, _, rfl, ite_f (decide_eq_false c') (fin ?_ _ (same_refl _))⟩
    rw [List.drop_eq_nil_of_le (by omega)]
    rfl
end
end K87
set_option Elab.async false
set_option linter.all false
set_option maxRecDepth 100000
set_option maxHeartbeats 8000000
/-! L88F: the law's reader, mirrored. -/
namespace K87
open PySem PySem.Spec L2 K00 TL
open PyProof.Rows (envOfC sortedS)
def digC (c : Nat) : Bool := decide (48 ≤ c) && decide (c ≤ 57)
def lowC (c : Nat) : Bool := decide (97 ≤ c) && decide (c ≤ 122)
/-- figures, and whether a sign stands ahead of them -/
def numR (neg : Bool) (l : List Nat) : Option (PyData × List Nat) :=
  let ds := l.takeWhile digC
  let r := l.dropWhile digC
  if ds = [] then (if neg = true then some (.none, l) else none)
  else if ds.head? = some 48 ∧ (1 < ds.length ∨ neg = true) then none
  else some (.int (if neg = true then -((NumText.digitsVal ds : Nat) : Int) else ((NumText.digitsVal ds : Nat) : Int)), r)
abbrev Rd := List Nat → Option (PyData × List Nat)
/-- a field's name ahead of a part -/
def lateB (prev : Option Str) (k : List Nat) : Bool := match prev with
  | some q => !decide (tl q < k)
  | none => false
def fldR (hf : Bool) (prev : Option Str) (l : List Nat) : Option (Str × List Nat) :=
  if hf = true then
    (if (l.takeWhile lowC).length = 0 ∨ 8 < (l.takeWhile lowC).length ∨ (l.dropWhile lowC).take 2 ≠ [58, 32] ∨ lateB prev (l.takeWhile lowC) = true then none
     else some (mk (l.takeWhile lowC), (l.dropWhile lowC).drop 2))
  else some (mk [], l)
def endC (hf : Bool) : Nat := if hf = true then 125 else 93
def loopR (P : Rd) (hf : Bool) : Nat → Option Str → List Nat → Option (List (Str × PyData) × List Nat)
  | 0, _, _ => none
  | m + 1, prev, l => match fldR hf prev l with
    | none => none
    | some (k, l1) => match P l1 with
      | none => none
      | some (d, l2) => if l2.head? = some (endC hf) then some ([(k, d)], l2.drop 1)
        else if l2.take 2 = [44, 32] then (loopR P hf m (some k) (l2.drop 2)).map (fun p => ((k, d) :: p.1, p.2)) else none
def itemsR (P : Rd) (hf : Bool) (l : List Nat) : Option (List (Str × PyData) × List Nat) :=
  if l.head? = some (endC hf) then some ([], l.drop 1) else loopR P hf (l.length + 1) none l
def partC (P : Rd) : Rd
  | [] => none
  | c :: r => if c = 34 then (strR r).map (fun p => (.str (mk p.1), p.2))
    else if c = 91 then (itemsR P false r).map (fun p => (.list (p.1.map (·.2)), p.2))
    else if c = 123 then (itemsR P true r).map (fun p => (.dict (p.1.map fun q => (.str q.1, q.2)), p.2))
    else if (c :: r).take 3 = [121, 101, 115] then some (.bool true, (c :: r).drop 3)
    else if (c :: r).take 2 = [110, 111] then some (.bool false, (c :: r).drop 2)
    else if c = 45 then numR true r else numR false (c :: r)
/-- a part read, of so many that open at most -/
def partR : Nat → Rd
  | 0 => partC fun _ => none
  | n + 1 => partC (partR n)
theorem char_nat {c : Nat} (h : 48 ≤ c ∧ c ≤ 57) : (Char.ofNat c).toNat = c := by
  have : ∀ d : Nat, d < 10 → (Char.ofNat (48 + d)).toNat = 48 + d := by decide
  have := this (c - 48) (by omega)
  rwa [show 48 + (c - 48) = c by omega] at this
/-- figures that a number tells -/
theorem numL_of {cs : List Nat} (h : NumText.AllDigits cs) (hne : cs ≠ []) (h0 : cs.head? = some 48 → cs.length ≤ 1) : numL (NumText.digitsVal cs) = cs := by
  cases cs with
  | nil => exact absurd rfl hne
  | cons c r =>
    have hc := h c List.mem_cons_self
    have := NumText.toDigits_digitsVal r.length (c :: r) rfl h (by
      by_cases e : c = 48
      · have := h0 (by rw [e]; rfl)
        rw [List.length_cons] at this
        exact .inl (by omega)
      · exact .inr ⟨c, r, rfl, by omega⟩)
    unfold numL
    rw [this, List.map_map]
    refine (List.map_congr_left fun x hx => ?_).trans (List.map_id _)
    exact char_nat (h x hx)
theorem tl_neg8 (k : Nat) : tl (ts (Int.negSucc k)) = 45 :: numL (k + 1) := by
  have e : ts (Int.negSucc k) = Str.ofString ("-" ++ toString ((k + 1 : Nat) : Int)) := rfl
  rw [e]
  have h1 : Str.ofString ("-" ++ toString ((k + 1 : Nat) : Int)) = Str.ofString "-" ++ Str.ofString (toString ((k + 1 : Nat) : Int)) := by
    refine ext_tl ?_
    rw [tl_append]
    show ((Str.ofString _).cps.toList) = (Str.ofString _).cps.toList ++ (Str.ofString _).cps.toList
    rw [PyProof.Rows.signs_ofString, PyProof.Rows.signs_ofString, PyProof.Rows.signs_ofString, String.toList_append, List.map_append]
  rw [h1, tl_append, tl_num]
  have e2 : tl (Str.ofString "-") = [45] := by decide +kernel
  rw [e2]
  rfl
theorem tw_all {p : Nat → Bool} : ∀ (l : List Nat) (c : Nat), c ∈ l.takeWhile p → p c = true
  | [], _, h => by cases h
  | x :: r, c, h => by
    rw [List.takeWhile_cons] at h
    split at h
    · rename_i hx
      rcases List.mem_cons.mp h with rfl | h
      · exact hx
      · exact tw_all r c h
    · cases h
theorem dig_all (l : List Nat) : NumText.AllDigits (l.takeWhile digC) := fun c hc => by
  have := tw_all l c hc
  obtain ⟨a, b⟩ := He.ba this
  exact ⟨of_decide_eq_true a, of_decide_eq_true b⟩
theorem wr_negI {n : Nat} (h : 0 < n) : wr (.int (-((n : Nat) : Int))) = 45 :: numL n := by
  cases n with
  | zero => cases h
  | succ k =>
    rw [wr_int]
    exact tl_neg8 k
theorem numR_sound {neg : Bool} {l s : List Nat} {d : PyData} (h : numR neg l = some (d, s)) : (if neg = true then 45 :: l else l) = wr d ++ s ∧ (d = .none ∨ ∃ i, d = .int i) := by
  unfold numR at h
  simp only at h
  split at h
  · split at h
    · rename_i hn
      cases h
      rw [if_pos hn, wr_non]
      exact ⟨rfl, .inl rfl⟩
    · cases h
  · split at h
    · cases h
    · rename_i hne hcan
      have hd := dig_all l
      have hw := numL_of hd hne fun e => by
        refine Decidable.byContradiction fun z => hcan ⟨e, .inl (by omega)⟩
      have tw : l.takeWhile digC ++ l.dropWhile digC = l := List.takeWhile_append_dropWhile ..
      cases h
      refine ⟨?_, .inr ⟨_, rfl⟩⟩
      cases neg with
      | true =>
        have pos : 0 < NumText.digitsVal (l.takeWhile digC) := by
          cases q : l.takeWhile digC with
          | nil => exact absurd q hne
          | cons c r =>
            rw [q] at hcan hd
            refine NumText.digitsVal_pos ?_
            have := hd c List.mem_cons_self
            have : c ≠ 48 := fun e => hcan ⟨by rw [e]; rfl, .inr rfl⟩
            omega
        rw [if_pos rfl, if_pos rfl, wr_negI pos, hw]
        show 45 :: l = 45 :: (_ ++ _)
        rw [tw]
      | false =>
        rw [if_neg (by decide), if_neg (by decide), wr_int, show ts ((NumText.digitsVal (l.takeWhile digC) : Nat) : Int) = Str.ofString (toString ((NumText.digitsVal (l.takeWhile digC) : Nat) : Int)) from rfl, tl_num, hw, tw]
end K87
set_option Elab.async false
set_option linter.all false
set_option maxRecDepth 100000
set_option maxHeartbeats 8000000
/-! L88G: what the law's reader reads is the text of a document. -/
namespace K87
open PySem PySem.Spec L2 K00 TL
open PyProof.Rows (envOfC sortedS)
theorem dv_fold : ∀ (cs : List Nat) (acc : Nat), NumText.AllDigits cs → cs.foldl (fun acc c => acc * 10 + (c - 48)) acc + 1 ≤ (acc + 1) * 10 ^ cs.length
  | [], acc, _ => by simp
  | c :: r, acc, h => by
    have hc := h c List.mem_cons_self
    have := dv_fold r (acc * 10 + (c - 48)) h.tail
    rw [List.foldl_cons, List.length_cons, Nat.pow_succ]
    refine Nat.le_trans this ?_
    have : (acc * 10 + (c - 48) + 1) * 10 ^ r.length ≤ ((acc + 1) * 10) * 10 ^ r.length := Nat.mul_le_mul_right _ (by omega)
    have e : (acc + 1) * (10 ^ r.length * 10) = ((acc + 1) * 10) * 10 ^ r.length := by rw [Nat.mul_comm (10 ^ r.length) 10, ← Nat.mul_assoc]
    rw [e]
    exact this
theorem dv_log {cs : List Nat} (h : NumText.AllDigits cs) (hl : cs.length ≤ 300) : (NumText.digitsVal cs).log2 < 1920 := by
  by_cases z : NumText.digitsVal cs = 0
  · rw [z]
    decide
  · refine (Nat.log2_lt z).mpr ?_
    have h1 := dv_fold cs 0 h
    rw [Nat.zero_add, Nat.one_mul] at h1
    have h2 : 10 ^ cs.length ≤ 10 ^ 300 := Nat.pow_le_pow_right (by decide) hl
    have h3 : (10 : Nat) ^ 300 < 2 ^ 1920 := by decide +kernel
    show cs.foldl (fun acc c => acc * 10 + (c - 48)) 0 < _
    omega
theorem numR_log {neg : Bool} {l s : List Nat} {i : Int} (hl : l.length ≤ 300) (h : numR neg l = some (.int i, s)) : i.natAbs.log2 < 1920 := by
  unfold numR at h
  simp only at h
  have hd := dv_log (dig_all l) (Nat.le_trans (List.takeWhile_sublist _).length_le hl)
  split at h
  · split at h <;> cases h
  · split at h
    · cases h
    · cases h
      cases neg with
      | true => rw [if_pos rfl, Int.natAbs_neg, Int.natAbs_natCast]; exact hd
      | false => rw [if_neg (by decide), Int.natAbs_natCast]; exact hd
theorem low_let {c : Nat} (h : lowC c = true) : LET.cps.toList.contains c = true := by
  obtain ⟨a, b⟩ := He.ba h
  have a := of_decide_eq_true a
  have b := of_decide_eq_true b
  have : ∀ d : Nat, d < 26 → LET.cps.toList.contains (97 + d) = true := by decide +kernel
  have := this (c - 97) (by omega)
  rwa [show 97 + (c - 97) = c by omega] at this
theorem take2 {l : List Nat} {a b : Nat} (h : l.take 2 = [a, b]) : l = a :: b :: l.drop 2 := by
  match l, h with
  | [], h => cases h
  | [_], h => cases h
  | x :: y :: r, h =>
    cases h
    rfl
theorem head1 {l : List Nat} {a : Nat} (h : l.head? = some a) : l = a :: l.drop 1 := by
  cases l with
  | nil => cases h
  | cons x r =>
    cases h
    rfl
theorem fldR_sound {prev : Option Str} {l l1 : List Nat} {k : Str} (h : fldR true prev l = some (k, l1)) : nameB k = true ∧ l = tl k ++ 58 :: 32 :: l1 ∧ ∀ p, prev = some p → tl p < tl k := by
  unfold fldR at h
  rw [if_pos rfl] at h
  split at h
  · cases h
  · rename_i hn
    cases h
    have h1 : ¬ (l.takeWhile lowC).length = 0 := fun z => hn (.inl z)
    have h2 : ¬ 8 < (l.takeWhile lowC).length := fun z => hn (.inr (.inl z))
    have h3 : (l.dropWhile lowC).take 2 = [58, 32] := Decidable.byContradiction fun z => hn (.inr (.inr (.inl z)))
    have h4 : ¬ lateB prev (l.takeWhile lowC) = true := fun z => hn (.inr (.inr (.inr z)))
    refine ⟨?_, ?_, fun p e => ?_⟩
    · unfold nameB
      refine Bool.and_eq_true_iff.mpr ⟨decide_eq_true ?_, Bool.and_eq_true_iff.mpr ⟨decide_eq_true ?_, List.all_eq_true.mpr fun c hc => low_let (tw_all l c hc)⟩⟩
      · show 1 ≤ (mk _).length
        rw [mk_len]
        omega
      · rw [mk_len]
        omega
    · show l = l.takeWhile lowC ++ 58 :: 32 :: (l.dropWhile lowC).drop 2
      rw [← take2 h3, List.takeWhile_append_dropWhile]
    · subst e
      have : decide (tl p < l.takeWhile lowC) = true := by
        cases q : decide (tl p < l.takeWhile lowC) with
        | true => rfl
        | false => exact absurd (by show (!decide (tl p < l.takeWhile lowC)) = true; rw [q]; rfl) h4
      exact of_decide_eq_true this
def Gd (d : PyData) : Prop := isOne d = true ∧ Iq d ∧ SmN 1000 d
def Snd (P : Rd) : Prop := ∀ l d s, l.length ≤ 300 → (∀ c ∈ l, c < 128) → P l = some (d, s) → l = wr d ++ s ∧ Gd d
def rowL (hf : Bool) (q : Str × PyData) : List Nat := if hf = true then tl q.1 ++ 58 :: 32 :: wr q.2 else wr q.2
theorem jn_cons {sep x : List Nat} {ys : List (List Nat)} (h : ys ≠ []) : jn sep (x :: ys) = (x ++ sep) ++ jn sep ys := by
  cases ys with
  | nil => exact absurd rfl h
  | cons y r => rfl
theorem loopR_sound {P : Rd} (hP : Snd P) (hf : Bool) : ∀ (m : Nat) (prev : Option Str) (l : List Nat) (rows : List (Str × PyData)) (s : List Nat), l.length ≤ 300 → (∀ c ∈ l, c < 128) → loopR P hf m prev l = some (rows, s) →
    rows ≠ [] ∧ l = jn [44, 32] (rows.map (rowL hf)) ++ endC hf :: s ∧ (∀ q ∈ rows, Gd q.2 ∧ (hf = true → nameB q.1 = true)) ∧ rows.length ≤ l.length ∧
      (hf = true → (∀ p, prev = some p → ∀ q ∈ rows, tl p < tl q.1) ∧ rows.Pairwise fun a b => tl a.1 < tl b.1)
  | 0, _, _, _, _, _, _, h => by cases h
  | m + 1, prev, l, rows, s, hl, hlo, h => by
    unfold loopR at h
    split at h
    · cases h
    rename_i k l1 hk
    split at h
    · cases h
    rename_i d l2 hd
    have e0 : ∃ pre, l = pre ++ l1 ∧ (∀ x, rowL hf (k, d) ++ x = pre ++ (wr d ++ x)) ∧ (hf = true → nameB k = true ∧ ∀ p, prev = some p → tl p < tl k) := by
      cases hf with
      | true =>
        obtain ⟨a, b, c⟩ := fldR_sound hk
        refine ⟨tl k ++ [58, 32], by rw [b]; simp, fun x => by show (tl k ++ 58 :: 32 :: wr d) ++ x = _; simp, fun _ => ⟨a, c⟩⟩
      | false =>
        have : fldR false prev l = some (mk [], l) := rfl
        rw [this] at hk
        cases hk
        exact ⟨[], rfl, fun x => rfl, fun z => by cases z⟩
    obtain ⟨pre, e1, e2, e3⟩ := e0
    have l1l : l1.length ≤ l.length := by rw [e1, List.length_append]; omega
    obtain ⟨e4, gd⟩ := hP l1 d l2 (by omega) (fun c hc => hlo c (by rw [e1]; exact List.mem_append_right _ hc)) hd
    have e5 : l = rowL hf (k, d) ++ l2 := by rw [e2, ← e4]; exact e1
    have l2l : l2.length ≤ l.length := by rw [e5, List.length_append]; omega
    have lo2 : ∀ c ∈ l2, c < 128 := fun c hc => hlo c (by rw [e5]; exact List.mem_append_right _ hc)
    split at h
    · rename_i hh
      cases h
      have e6 := head1 hh
      refine ⟨by simp, ?_, fun q hq => ?_, ?_, fun z => ⟨fun p hp q hq => ?_, List.pairwise_singleton _ _⟩⟩
      · show l = rowL hf (k, d) ++ endC hf :: l2.drop 1
        rw [← e6]
        exact e5
      · rw [List.mem_singleton.mp hq]
        exact ⟨gd, fun z => (e3 z).1⟩
      · have := congrArg List.length e6
        rw [List.length_cons] at this
        rw [List.length_singleton]
        omega
      · rw [List.mem_singleton.mp hq]
        exact (e3 z).2 p hp
    · split at h
      · rename_i ht
        have e6 := take2 ht
        cases hq : loopR P hf m (some k) (l2.drop 2) with
        | none => rw [hq] at h; cases h
        | some p =>
          obtain ⟨rows', s'⟩ := p
          rw [hq] at h
          cases h
          have l3 : (l2.drop 2).length + 2 = l2.length := by
            have := congrArg List.length e6
            rw [List.length_cons, List.length_cons] at this
            omega
          obtain ⟨h1, h2, h3, h4, h5⟩ := loopR_sound hP hf m (some k) (l2.drop 2) rows' s' (by omega) (fun c hc => lo2 c (List.mem_of_mem_drop hc)) hq
          refine ⟨by simp, ?_, fun q hq => ?_, ?_, fun z => ⟨fun p hp q hq => ?_, List.pairwise_cons.mpr ⟨fun b hb => (h5 z).1 k rfl b hb, (h5 z).2⟩⟩⟩
          · rw [List.map_cons, jn_cons (by simpa using h1), List.append_assoc, ← h2, List.append_assoc]
            show l = rowL hf (k, d) ++ 44 :: 32 :: l2.drop 2
            rw [← e6]
            exact e5
          · rcases List.mem_cons.mp hq with rfl | hq
            · exact ⟨gd, fun z => (e3 z).1⟩
            · exact h3 q hq
          · show rows'.length + 1 ≤ _
            omega
          · rcases List.mem_cons.mp hq with rfl | hq
            · exact (e3 z).2 p hp
            · exact List.lt_trans ((e3 z).2 p hp) ((h5 z).1 k rfl q hq)
      · cases h
theorem itemsR_sound {P : Rd} (hP : Snd P) (hf : Bool) {l : List Nat} {rows : List (Str × PyData)} {s : List Nat} (hl : l.length ≤ 300) (hlo : ∀ c ∈ l, c < 128) (h : itemsR P hf l = some (rows, s)) :
    l = jn [44, 32] (rows.map (rowL hf)) ++ endC hf :: s ∧ (∀ q ∈ rows, Gd q.2 ∧ (hf = true → nameB q.1 = true)) ∧ rows.length ≤ l.length ∧ (hf = true → rows.Pairwise fun a b => tl a.1 < tl b.1) := by
  unfold itemsR at h
  split at h
  · rename_i hh
    cases h
    exact ⟨head1 hh, (fun _ h => nomatch h), Nat.zero_le _, fun _ => .nil⟩
  · obtain ⟨_, h2, h3, h4, h5⟩ := loopR_sound hP hf _ none l rows s hl hlo h
    exact ⟨h2, h3, h4, fun z => (h5 z).2⟩
theorem rising_sorted : ∀ {ys : List Str}, ys.Pairwise (fun a b => tl a < tl b) → sortedS ys = true := fun {ys} h =>
  PyProof.Rows.sortedS_of_pairwise _ (h.imp fun {a b} hab => by
    rw [PyProof.Rows.ltCps_eq]
    exact decide_eq_false fun z => List.lt_irrefl _ (List.lt_trans hab z))
theorem partC_cons (P : Rd) (c : Nat) (r : List Nat) : partC P (c :: r) = (if c = 34 then (strR r).map (fun p => (.str (mk p.1), p.2))
    else if c = 91 then (itemsR P false r).map (fun p => (.list (p.1.map (·.2)), p.2))
    else if c = 123 then (itemsR P true r).map (fun p => (.dict (p.1.map fun q => (.str q.1, q.2)), p.2))
    else if (c :: r).take 3 = [121, 101, 115] then some (.bool true, (c :: r).drop 3)
    else if (c :: r).take 2 = [110, 111] then some (.bool false, (c :: r).drop 2)
    else if c = 45 then numR true r else numR false (c :: r)) := rfl
theorem esc_mem : ∀ {f : List Nat} {x : Nat}, x ∈ f → x ∈ esc f
  | c :: r, x, h => by
    rw [esc_cons]
    rcases List.mem_cons.mp h with rfl | h
    · refine List.mem_append_left _ ?_
      split <;> simp
    · exact List.mem_append_right _ (esc_mem h)
theorem esc_ge : ∀ f : List Nat, f.length ≤ (esc f).length
  | [] => Nat.le_refl _
  | c :: r => by
    rw [esc_cons, List.length_append, List.length_cons]
    have := esc_ge r
    split
    · show r.length + 1 ≤ 2 + _
      omega
    · show r.length + 1 ≤ 1 + _
      omega
/-- what is read is the text of a good document -/
theorem partC_sound {P : Rd} (hP : Snd P) : Snd (partC P) := by
  intro l d s hl hlo h
  cases l with
  | nil => cases h
  | cons c r =>
    have hl' : r.length + 1 ≤ 300 := hl
    have hlo' : ∀ x ∈ r, x < 128 := fun x hx => hlo x (List.mem_cons_of_mem _ hx)
    rw [partC_cons] at h
    split at h
    · rename_i hc
      subst hc
      cases hq : strR r with
      | none => rw [hq] at h; cases h
      | some p =>
        obtain ⟨f, s'⟩ := p
        rw [hq] at h
        cases h
        have e := strR_sound _ r (Nat.le_refl _) _ _ hq
        have ea : as7 (mk f) = true := as7_iff.mpr fun x hx => hlo' x (by rw [e]; exact List.mem_append_left _ (esc_mem hx))
        have el : (esc f).length + 1 ≤ r.length := by
          have := congrArg List.length e
          rw [List.length_append, List.length_cons] at this
          omega
        refine ⟨?_, rfl, ea, ?_, as7_ok ea⟩
        · rw [wr_str]
          show 34 :: r = 34 :: ((esc f ++ [34]) ++ s')
          rw [e]
          simp
        · have := esc_ge f
          show f.length ≤ 1000
          omega
    split at h
    · rename_i hc
      subst hc
      cases hq : itemsR P false r with
      | none => rw [hq] at h; cases h
      | some p =>
        obtain ⟨rows, s'⟩ := p
        rw [hq] at h
        cases h
        obtain ⟨h1, h2, h3, _⟩ := itemsR_sound hP false (by omega) hlo' hq
        refine ⟨?_, K00.isOne_list fun x hx => ?_, iqL_iff.mpr fun x hx => ?_, ?_, smNL_iff.mpr fun x hx => ?_⟩
        · rw [wr_list, List.map_map]
          show 91 :: r = 91 :: ((jn [44, 32] (rows.map (rowL false)) ++ [93]) ++ s')
          rw [h1]
          simp [endC]
        · obtain ⟨q, hq', rfl⟩ := List.mem_map.mp hx
          exact (h2 q hq').1.1
        · obtain ⟨q, hq', rfl⟩ := List.mem_map.mp hx
          exact (h2 q hq').1.2.1
        · rw [List.length_map]
          show rows.length ≤ 1000
          omega
        · obtain ⟨q, hq', rfl⟩ := List.mem_map.mp hx
          exact (h2 q hq').1.2.2
    split at h
    · rename_i hc
      subst hc
      cases hq : itemsR P true r with
      | none => rw [hq] at h; cases h
      | some p =>
        obtain ⟨rows, s'⟩ := p
        rw [hq] at h
        cases h
        obtain ⟨h1, h2, h3, h4⟩ := itemsR_sound hP true (by omega) hlo' hq
        have h4 := h4 rfl
        have ek : ((rows.map fun q => ((.str q.1, q.2) : PyData × PyData)).map fun p => kS p.1) = rows.map (·.1) := by rw [List.map_map]; rfl
        have pw : (rows.map (·.1)).Pairwise fun a b => tl a < tl b := List.pairwise_map.mpr h4
        have nd : ((rows.map fun q => ((.str q.1, q.2) : PyData × PyData)).map fun p => kS p.1).Nodup := by
          rw [ek]
          exact pw.imp fun {a b} hab e => by rw [e] at hab; exact List.lt_irrefl _ hab
        refine ⟨?_, K00.isOne_dict fun p hp => ?_, iqK_iff.mpr fun p hp => ?_, ?_, nd, smNK_iff.mpr fun p hp => ?_⟩
        · rw [wr_dict nd (ys := rows.map (·.1)) (by rw [ek]) (rising_sorted pw)]
          have er : (rows.map (·.1)).map (wrow (rows.map fun q => ((.str q.1, q.2) : PyData × PyData))) = rows.map (rowL true) := by
            rw [List.map_map]
            refine List.map_congr_left fun q hq' => ?_
            show tl q.1 ++ (58 :: 32 :: wr (lookD _ q.1)) = tl q.1 ++ 58 :: 32 :: wr q.2
            have := lookD_of nd (p := (.str q.1, q.2)) (List.mem_map.mpr ⟨q, hq', rfl⟩)
            rw [show lookD (rows.map fun q => ((.str q.1, q.2) : PyData × PyData)) q.1 = q.2 from this]
          show 123 :: r = 123 :: ((jn [44, 32] _ ++ [125]) ++ s')
          rw [er, h1]
          simp [endC]
        · obtain ⟨q, hq', rfl⟩ := List.mem_map.mp hp
          exact ⟨⟨q.1, rfl, (h2 q hq').2 rfl⟩, (h2 q hq').1.1⟩
        · obtain ⟨q, hq', rfl⟩ := List.mem_map.mp hp
          exact (h2 q hq').1.2.1
        · rw [List.length_map]
          show rows.length ≤ 1000
          omega
        · obtain ⟨q, hq', rfl⟩ := List.mem_map.mp hp
          have hn := (h2 q hq').2 rfl
          refine ⟨⟨?_, as7_ok (as7_iff.mpr fun x hx => by have := name_low hn x hx; omega)⟩, (h2 q hq').1.2.2⟩
          have := name_len hn
          rw [← len_tl] at this
          omega
    split at h
    · rename_i h3
      cases h
      refine ⟨?_, rfl, trivial, trivial⟩
      rw [wr_bool, if_pos rfl, ← h3, List.take_append_drop]
    split at h
    · rename_i h3
      cases h
      refine ⟨?_, rfl, trivial, trivial⟩
      rw [wr_bool, if_neg (by decide), ← h3, List.take_append_drop]
    have num : ∀ (neg : Bool) (l' : List Nat), l'.length ≤ 300 → numR neg l' = some (d, s) → (if neg = true then 45 :: l' else l') = wr d ++ s ∧ Gd d := fun neg l' hl2 hn => by
      obtain ⟨h1, h2⟩ := numR_sound hn
      refine ⟨h1, ?_⟩
      rcases h2 with rfl | ⟨i, rfl⟩
      · exact ⟨rfl, trivial, trivial⟩
      · exact ⟨rfl, numR_log hl2 hn, trivial⟩
    split at h
    · rename_i hc
      subst hc
      exact num true r (by omega) h
    · exact num false (c :: r) hl h
theorem partR_sound : ∀ n, Snd (partR n)
  | 0 => partC_sound fun _ _ _ _ _ h => by cases h
  | n + 1 => partC_sound (partR_sound n)
end K87
set_option Elab.async false
set_option linter.all false
set_option maxRecDepth 100000
set_option maxHeartbeats 8000000
/-! L88H: the law's reader reads the text of every good document. -/
namespace K87
open PySem PySem.Spec L2 K00 TL
open PyProof.Rows (envOfC sortedS)
theorem tw_app {p : Nat → Bool} : ∀ (a b : List Nat), (∀ c ∈ a, p c = true) → (∀ c, b.head? = some c → p c = false) → (a ++ b).takeWhile p = a ∧ (a ++ b).dropWhile p = b
  | [], [], _, _ => ⟨rfl, rfl⟩
  | [], x :: r, _, h => by
    have := h x rfl
    simp [this]
  | x :: r, b, ha, hb => by
    obtain ⟨h1, h2⟩ := tw_app r b (fun c hc => ha c (List.mem_cons_of_mem _ hc)) hb
    have := ha x List.mem_cons_self
    show (x :: (r ++ b)).takeWhile p = x :: r ∧ (x :: (r ++ b)).dropWhile p = b
    rw [List.takeWhile_cons, List.dropWhile_cons, if_pos this, if_pos this, h1, h2]
    exact ⟨rfl, rfl⟩
def Stp (s : List Nat) : Prop := ∀ c, s.head? = some c → digC c = false
theorem numL_head : ∀ (n : Nat), 0 < n → ∃ c r, numL n = c :: r ∧ c ≠ 48 := fun n => by
  induction n using Nat.strongRecOn with
  | _ n ih =>
    intro hn
    by_cases h : n < 10
    · exact ⟨48 + n, [], numL_lt h, by omega⟩
    · obtain ⟨c, r, e, hc⟩ := ih (n / 10) (by omega) (by omega)
      exact ⟨c, r ++ [48 + n % 10], by rw [numL_step (by omega), e]; rfl, hc⟩
theorem numR_full {neg : Bool} {n : Nat} {s : List Nat} (hs : Stp s) (h : neg = true → 0 < n) : ∃ d, numR neg (numL n ++ s) = some (d, s) := by
  obtain ⟨h1, h2⟩ := tw_app (p := digC) (numL n) s (fun c hc => by
    have := numL_digits n c hc
    exact Bool.and_eq_true_iff.mpr ⟨decide_eq_true this.1, decide_eq_true this.2⟩) hs
  unfold numR
  simp only
  rw [h1, h2, if_neg (numL_ne n)]
  rw [if_neg]
  · exact ⟨_, rfl⟩
  · rintro ⟨h3, h4⟩
    by_cases hn : 0 < n
    · obtain ⟨c, r, e, hc⟩ := numL_head n hn
      rw [e] at h3
      cases h3
      exact hc rfl
    · have e0 : n = 0 := by omega
      subst e0
      have e1 : numL 0 = [48] := numL_lt (by decide)
      rcases h4 with h4 | h4
      · rw [e1] at h4
        exact absurd h4 (by decide)
      · exact hn (h h4)
theorem let_low {c : Nat} (h : 97 ≤ c ∧ c ≤ 122) : lowC c = true := Bool.and_eq_true_iff.mpr ⟨decide_eq_true h.1, decide_eq_true h.2⟩
theorem fldR_full {prev : Option Str} {k : Str} {x : List Nat} (hk : nameB k = true) (hp : ∀ p, prev = some p → tl p < tl k) : fldR true prev (tl k ++ 58 :: 32 :: x) = some (k, x) := by
  obtain ⟨h1, h2⟩ := tw_app (p := lowC) (tl k) (58 :: 32 :: x) (fun c hc => let_low (name_low hk c hc)) (fun c hc => by cases hc; rfl)
  unfold fldR
  rw [if_pos rfl, h1, h2, if_neg]
  · show some (mk (tl k), x) = _
    rw [show mk (tl k) = k from mk_tl k]
  · unfold nameB at hk
    obtain ⟨a, b⟩ := He.ba hk
    obtain ⟨b, _⟩ := He.ba b
    have a := of_decide_eq_true a
    have b := of_decide_eq_true b
    rw [len_tl] at a b
    rintro (z | z | z | z)
    · omega
    · omega
    · exact z rfl
    · cases prev with
      | none => cases z
      | some p =>
        have : (!decide (tl p < tl k)) = true := z
        rw [decide_eq_true (hp p rfl)] at this
        cases this
def Ful (P : Rd) (b : Nat) : Prop := ∀ d, isOne d = true → SmN 1000 d → opn (wr d) + 1 ≤ b → ∀ s, Stp s → ∃ d', P (wr d ++ s) = some (d', s)
theorem stp_end (hf : Bool) (s : List Nat) : Stp (endC hf :: s) := fun c h => by
  cases h
  cases hf <;> rfl
theorem stp_sep (s : List Nat) : Stp (44 :: 32 :: s) := fun c h => by
  cases h
  rfl
theorem loopR_full {P : Rd} (hf : Bool) : ∀ (rows : List (Str × PyData)) (m : Nat) (prev : Option Str) (s : List Nat), rows ≠ [] → rows.length ≤ m → (∀ q ∈ rows, ∀ t, Stp t → ∃ d', P (wr q.2 ++ t) = some (d', t)) →
    (hf = true → (∀ q ∈ rows, nameB q.1 = true) ∧ (∀ p, prev = some p → ∀ q ∈ rows, tl p < tl q.1) ∧ rows.Pairwise fun a b => tl a.1 < tl b.1) →
    ∃ r', loopR P hf m prev (jn [44, 32] (rows.map (rowL hf)) ++ endC hf :: s) = some (r', s)
  | [], _, _, _, h, _, _, _ => absurd rfl h
  | q :: rest, 0, _, _, _, h, _, _ => absurd h (by simp)
  | q :: rest, m + 1, prev, s, _, hm, hP, hn => by
    rw [List.length_cons] at hm
    have fld : ∀ x, ∃ k, fldR hf prev (rowL hf q ++ x) = some (k, wr q.2 ++ x) ∧ (hf = true → k = q.1) := fun x => by
      cases hf with
      | true =>
        obtain ⟨a, b, c⟩ := hn rfl
        refine ⟨q.1, ?_, fun _ => rfl⟩
        have := fldR_full (x := wr q.2 ++ x) (a q List.mem_cons_self) (fun p hp => b p hp q List.mem_cons_self)
        rw [← this]
        congr 1
        show (tl q.1 ++ 58 :: 32 :: wr q.2) ++ x = _
        simp
      | false => exact ⟨mk [], rfl, fun z => by cases z⟩
    unfold loopR
    cases rest with
    | nil =>
      rw [show jn [44, 32] ([q].map (rowL hf)) = rowL hf q from rfl]
      obtain ⟨k, e, _⟩ := fld (endC hf :: s)
      obtain ⟨d', e2⟩ := hP q List.mem_cons_self (endC hf :: s) (stp_end hf s)
      rw [e]
      simp only
      rw [e2]
      simp only
      rw [if_pos (show (endC hf :: s).head? = some (endC hf) from rfl)]
      exact ⟨_, rfl⟩
    | cons q2 rest =>
      rw [List.map_cons, jn_cons (by simp), List.append_assoc, List.append_assoc]
      obtain ⟨k, e, ek⟩ := fld ([44, 32] ++ (jn [44, 32] ((q2 :: rest).map (rowL hf)) ++ endC hf :: s))
      obtain ⟨d', e2⟩ := hP q List.mem_cons_self ([44, 32] ++ (jn [44, 32] ((q2 :: rest).map (rowL hf)) ++ endC hf :: s)) (stp_sep _)
      obtain ⟨r', e3⟩ := loopR_full (P := P) hf (q2 :: rest) m (some k) s (by simp) (by omega) (fun q' hq' => hP q' (List.mem_cons_of_mem _ hq')) (fun z => by
        obtain ⟨a, b, c⟩ := hn z
        have c := List.pairwise_cons.mp c
        refine ⟨fun q' hq' => a q' (List.mem_cons_of_mem _ hq'), fun p hp q' hq' => ?_, c.2⟩
        cases hp
        rw [ek z]
        exact c.1 q' hq')
      rw [e]
      simp only
      rw [e2]
      simp only
      have ne : ¬ ([44, 32] ++ (jn [44, 32] ((q2 :: rest).map (rowL hf)) ++ endC hf :: s)).head? = some (endC hf) := fun z => by
        have : 44 = endC hf := Option.some.inj z
        cases hf <;> exact absurd this (by decide)
      rw [if_neg ne, if_pos (show List.take 2 ([44, 32] ++ (jn [44, 32] ((q2 :: rest).map (rowL hf)) ++ endC hf :: s)) = [44, 32] from rfl)]
      show ∃ r', Option.map _ (loopR P hf m (some k) (jn [44, 32] ((q2 :: rest).map (rowL hf)) ++ endC hf :: s)) = _
      rw [e3]
      exact ⟨_, rfl⟩
theorem opn_91 (l : List Nat) : opn (91 :: l) = opn l + 1 := by
  unfold opn
  rw [List.countP_cons]
  rfl
theorem opn_123 (l : List Nat) : opn (123 :: l) = opn l + 1 := by
  unfold opn
  rw [List.countP_cons]
  rfl
theorem pos_ne {l : List Nat} (h : l ≠ []) : 0 < l.length := by
  cases l with
  | nil => exact absurd rfl h
  | cons c r => exact Nat.succ_pos _
theorem jn_many {sep : List Nat} : ∀ (ls : List (List Nat)), (∀ l ∈ ls, l ≠ []) → ls.length ≤ (jn sep ls).length
  | [], _ => Nat.zero_le _
  | [x], h => by
    have := pos_ne (h x (by simp))
    show 1 ≤ x.length
    omega
  | x :: y :: r, h => by
    have := pos_ne (h x (by simp))
    have := jn_many (sep := sep) (y :: r) fun l hl => h l (List.mem_cons_of_mem _ hl)
    rw [jn_cons (by simp), List.length_append, List.length_append, List.length_cons]
    omega
theorem jn_headO {sep x : List Nat} {ys : List (List Nat)} (h : x ≠ []) (t : List Nat) : (jn sep (x :: ys) ++ t).head? = x.head? := by
  cases x with
  | nil => exact absurd rfl h
  | cons c r => cases ys <;> rfl
theorem opn_jn_mem {x : List Nat} : ∀ {ls : List (List Nat)}, x ∈ ls → opn x ≤ opn (jn [44, 32] ls)
  | [y], h => by
    rw [List.mem_singleton.mp h]
    exact Nat.le_refl _
  | y :: z :: r, h => by
    show _ ≤ opn ((y ++ [44, 32]) ++ jn [44, 32] (z :: r))
    rw [opn_app, opn_app]
    rcases List.mem_cons.mp h with rfl | h
    · omega
    · have := opn_jn_mem h
      omega
/-- the first sign of a part ends nothing -/
theorem wr_head {d : PyData} (h : isOne d = true) : ∃ c r, wr d = c :: r ∧ c ≠ 93 ∧ c ≠ 125 := by
  cases d with
  | none => exact ⟨45, [], wr_non, by decide, by decide⟩
  | bool b =>
    rw [wr_bool]
    cases b with
    | true => exact ⟨_, _, rfl, by decide, by decide⟩
    | false => exact ⟨_, _, rfl, by decide, by decide⟩
  | int i =>
    cases i with
    | ofNat n =>
      have e : wr (.int (Int.ofNat n)) = numL n := tl_num n
      cases q : numL n with
      | nil => exact absurd q (numL_ne n)
      | cons c r =>
        have := numL_digits n c (by rw [q]; exact List.mem_cons_self)
        exact ⟨c, r, by rw [e, q], by omega, by omega⟩
    | negSucc k => exact ⟨45, _, tl_neg8 k, by decide, by decide⟩
  | str s => exact ⟨34, _, wr_str s, by decide, by decide⟩
  | list xs => exact ⟨91, _, wr_list xs, by decide, by decide⟩
  | dict ds => exact ⟨123, _, rfl, by decide, by decide⟩
  | tuple xs => exact (Bool.false_ne_true (show false = true from h)).elim
theorem partC_full {P : Rd} {b : Nat} (hP : Ful P b) : ∀ d, isOne d = true → SmN 1000 d → opn (wr d) ≤ b → ∀ s, Stp s → ∃ d', partC P (wr d ++ s) = some (d', s) := by
  intro d od sm hb s hs
  cases d with
  | none =>
    rw [wr_non]
    obtain ⟨h1, _⟩ := tw_app (p := digC) [] s (fun _ h => nomatch h) hs
    refine ⟨.none, ?_⟩
    show numR true s = _
    unfold numR
    have h1' : s.takeWhile digC = [] := h1
    simp only
    rw [h1', if_pos rfl]
    rfl
  | bool v =>
    rw [wr_bool]
    cases v with
    | true => exact ⟨_, rfl⟩
    | false => exact ⟨_, rfl⟩
  | int i =>
    cases i with
    | ofNat n =>
      have e : wr (.int (Int.ofNat n)) = numL n := tl_num n
      rw [e]
      obtain ⟨d', e2⟩ := numR_full (neg := false) (n := n) hs (fun z => by cases z)
      cases q : numL n with
      | nil => exact absurd q (numL_ne n)
      | cons c r =>
        have hc := numL_digits n c (by rw [q]; exact List.mem_cons_self)
        rw [q] at e2
        refine ⟨d', ?_⟩
        show partC P (c :: (r ++ s)) = _
        rw [partC_cons, if_neg (by omega), if_neg (by omega), if_neg (by omega), if_neg, if_neg, if_neg (by omega)]
        · exact e2
        · intro z
          have : some c = some 110 := congrArg List.head? (take2 z)
          cases this
          omega
        · intro z
          have : some c = some 121 := congrArg List.head? z
          cases this
          omega
    | negSucc k =>
      have e : wr (.int (Int.negSucc k)) = 45 :: numL (k + 1) := tl_neg8 k
      rw [e]
      obtain ⟨d', e2⟩ := numR_full (neg := true) (n := k + 1) hs (fun _ => by omega)
      exact ⟨d', e2⟩
  | str y =>
    rw [wr_str]
    refine ⟨.str (mk (tl y)), ?_⟩
    · show (strR ((esc (tl y) ++ [34]) ++ s)).map _ = _
      rw [List.append_assoc]
      show (strR (esc (tl y) ++ 34 :: s)).map _ = _
      rw [strR_full]
      rfl
  | tuple xs => exact (Bool.false_ne_true (show false = true from od)).elim
  | list xs =>
    rw [wr_list] at hb ⊢
    have hb' : opn (jn [44, 32] (xs.map wr) ++ [93]) + 1 ≤ b := by rw [← opn_91]; exact hb
    rw [opn_app] at hb'
    have key : ∃ r', itemsR P false ((jn [44, 32] (xs.map wr) ++ [93]) ++ s) = some (r', s) := by
      rw [List.append_assoc]
      cases xs with
      | nil => exact ⟨[], rfl⟩
      | cons x rest =>
        have hne : ∀ l ∈ (x :: rest).map wr, l ≠ [] := fun l hl e0 => by
          obtain ⟨y, hy, rfl⟩ := List.mem_map.mp hl
          obtain ⟨c, r, e, _⟩ := wr_head (isOne_kidsOf od y hy)
          rw [e] at e0
          cases e0
        have many := jn_many (sep := [44, 32]) _ hne
        rw [List.length_map] at many
        obtain ⟨r', e⟩ := loopR_full (P := P) false ((x :: rest).map fun x => (mk [], x)) ((jn [44, 32] ((x :: rest).map wr) ++ ([93] ++ s)).length + 1) none s (by simp) (by rw [List.length_map, List.length_append]; omega) (fun q hq t ht => by
          obtain ⟨y, hy, rfl⟩ := List.mem_map.mp hq
          refine hP y (isOne_kidsOf od y hy) (smN_kids (d := .list (x :: rest)) sm hy) ?_ t ht
          have := opn_jn_mem (List.mem_map.mpr ⟨y, hy, rfl⟩ : wr y ∈ (x :: rest).map wr)
          omega) (fun z => by cases z)
        refine ⟨r', ?_⟩
        unfold itemsR
        rw [if_neg]
        · rw [← e, List.map_map]
          rfl
        · intro z
          obtain ⟨c, r, e, h93, _⟩ := wr_head (isOne_kidsOf od x List.mem_cons_self)
          rw [List.map_cons, jn_headO (hne (wr x) (by simp)), e] at z
          cases z
          exact h93 rfl
    obtain ⟨r', e⟩ := key
    refine ⟨.list (r'.map (·.2)), ?_⟩
    · show (itemsR P false ((jn [44, 32] (xs.map wr) ++ [93]) ++ s)).map _ = _
      rw [e]
      rfl
  | dict ds =>
    have nd : (ds.map fun p => kS p.1).Nodup := sm.2.1
    rw [wr_dictF nd] at hb ⊢
    have hb' : opn (jn [44, 32] ((fls ds).map (wrow ds)) ++ [125]) + 1 ≤ b := by rw [← opn_123]; exact hb
    rw [opn_app] at hb'
    have hnm : ∀ k ∈ fls ds, nameB k = true ∧ ∃ p ∈ ds, kS p.1 = k ∧ lookD ds k = p.2 ∧ p.2 ∈ kids (.dict ds) := fun k hk => Tz.key od ((fls_perm ds).mem_iff.mp hk)
    have key : ∃ r', itemsR P true ((jn [44, 32] ((fls ds).map (wrow ds)) ++ [125]) ++ s) = some (r', s) := by
      rw [List.append_assoc]
      have hsrt : (fls ds).Pairwise fun a b => tl a < tl b := by
        have h1 : (fls ds).Pairwise fun a b => ltCps b.cps.toList a.cps.toList = false := isort_keys_sorted ds
        have h2 : (fls ds).Nodup := (fls_perm ds).nodup_iff.mpr nd
        refine (h1.and h2).imp fun {a b} h => ?_
        obtain ⟨h1, h2⟩ := h
        rw [PyProof.Rows.ltCps_eq] at h1
        have h3 : ¬ tl b < tl a := of_decide_eq_false h1
        have h4 : tl a ≤ tl b := h3
        rcases List.le_iff_lt_or_eq.mp h4 with h | h
        · exact h
        · exact absurd (ext_tl h) h2
      generalize fls ds = ys at hb' hnm hsrt
      cases ys with
      | nil => exact ⟨[], rfl⟩
      | cons k0 rest =>
        have hne : ∀ l ∈ (k0 :: rest).map (wrow ds), l ≠ [] := fun l hl e0 => by
          obtain ⟨y, hy, rfl⟩ := List.mem_map.mp hl
          unfold wrow at e0
          exact absurd e0 (by simp)
        have many := jn_many (sep := [44, 32]) _ hne
        rw [List.length_map] at many
        have er : (k0 :: rest).map (wrow ds) = ((k0 :: rest).map fun k => (k, lookD ds k)).map (rowL true) := by rw [List.map_map]; rfl
        obtain ⟨r', e⟩ := loopR_full (P := P) true ((k0 :: rest).map fun k => (k, lookD ds k)) ((jn [44, 32] ((k0 :: rest).map (wrow ds)) ++ ([125] ++ s)).length + 1) none s (by simp) (by rw [List.length_map, List.length_append]; omega) (fun q hq t ht => by
          obtain ⟨k, hk, rfl⟩ := List.mem_map.mp hq
          obtain ⟨_, p, _, _, hpl, hpk⟩ := hnm k hk
          show ∃ d', P (wr (lookD ds k) ++ t) = _
          rw [hpl]
          refine hP p.2 (isOne_kidsOf od _ hpk) (smN_kids sm hpk) ?_ t ht
          have := opn_jn_mem (List.mem_map.mpr ⟨k, hk, rfl⟩ : wrow ds k ∈ (k0 :: rest).map (wrow ds))
          have h5 : opn (wrow ds k) = opn (tl k) + opn (wr p.2) := by
            unfold wrow
            rw [opn_app, hpl]
            rfl
          omega) (fun _ => ⟨fun q hq => by
            obtain ⟨k, hk, rfl⟩ := List.mem_map.mp hq
            exact (hnm k hk).1, (fun p hp => by cases hp), List.pairwise_map.mpr hsrt⟩)
        refine ⟨r', ?_⟩
        unfold itemsR
        rw [if_neg]
        · rw [← e, er]
          rfl
        · intro z
          have hk0 := (hnm k0 List.mem_cons_self).1
          rw [List.map_cons, jn_headO (hne (wrow ds k0) (by simp))] at z
          unfold wrow at z
          cases q : tl k0 with
          | nil =>
            unfold nameB at hk0
            obtain ⟨a, _⟩ := He.ba hk0
            have a := of_decide_eq_true a
            rw [len_tl, q] at a
            exact absurd a (by decide)
          | cons c r =>
            have := name_low hk0 c (by rw [q]; exact List.mem_cons_self)
            rw [q] at z
            cases z
            exact absurd this.2 (by decide)
    obtain ⟨r', e⟩ := key
    refine ⟨.dict (r'.map fun q => (.str q.1, q.2)), ?_⟩
    · show (itemsR P true ((jn [44, 32] ((fls ds).map (wrow ds)) ++ [125]) ++ s)).map _ = _
      rw [e]
      rfl
/-- the text of every good document is read -/
theorem partR_full : ∀ (n : Nat) (d : PyData), isOne d = true → SmN 1000 d → opn (wr d) ≤ n → ∀ s, Stp s → ∃ d', partR n (wr d ++ s) = some (d', s)
  | 0, d, od, sm, h, s, hs => partC_full (fun _ _ _ h => absurd h (by omega)) d od sm h s hs
  | n + 1, d, od, sm, h, s, hs => partC_full (b := n + 1) (fun d' od' sm' h' s' hs' => partR_full n d' od' sm' (by omega) s' hs') d od sm h s hs
end K87
set_option Elab.async false
set_option linter.all false
set_option maxRecDepth 100000
set_option maxHeartbeats 8000000
/-! L88I: unquoted, of any token. -/
namespace K87
open PySem PySem.Spec L2 K00 TL
open PyProof.Rows (envOfC sortedS)
/-- what is unquoted of what is behind the first quote -/
def uq : List Nat → List Nat
  | [] => []
  | [_] => []
  | c :: d :: r => if c = 92 then d :: uq r else c :: uq (d :: r)
theorem uq_short {l : List Nat} (h : l.length ≤ 1) : uq l = [] := by
  match l, h with
  | [], _ => rfl
  | [_], _ => rfl
  | _ :: _ :: _, h => exact absurd h (by simp)
theorem uq_stroke (d : Nat) (r : List Nat) : uq (92 :: d :: r) = d :: uq r := by simp [uq]
theorem uq_other {c : Nat} (d : Nat) (r : List Nat) (h : c ≠ 92) : uq (c :: d :: r) = c :: uq (d :: r) := by simp [uq, h]
theorem uq_esc : ∀ l : List Nat, uq (esc l ++ [34]) = l
  | [] => rfl
  | c :: r => by
    rw [esc_cons]
    have ne : ∃ x y, esc r ++ [34] = x :: y := by
      cases q : esc r ++ [34] with
      | nil => simp at q
      | cons x y => exact ⟨x, y, rfl⟩
    by_cases h : c = 34 ∨ c = 92
    · rw [if_pos h]
      show uq (92 :: c :: (esc r ++ [34])) = _
      rw [uq_stroke, uq_esc r]
    · rw [if_neg h]
      show uq (c :: (esc r ++ [34])) = _
      have := uq_esc r
      obtain ⟨x, y, e⟩ := ne
      rw [e] at this ⊢
      rw [uq_other _ _ (by omega), this]
theorem uq_mem : ∀ (n : Nat) (l : List Nat), l.length ≤ n → (∀ c ∈ uq l, c ∈ l) ∧ (uq l).length ≤ l.length
  | _, [], _ => ⟨(fun _ h => by cases h), Nat.le_refl _⟩
  | _, [_], _ => ⟨(fun _ h => by cases h), Nat.zero_le _⟩
  | 0, _ :: _ :: _, h => absurd h (by simp)
  | n + 1, c :: d :: r, h => by
    rw [List.length_cons, List.length_cons] at h
    by_cases h92 : c = 92
    · subst h92
      rw [uq_stroke]
      obtain ⟨a, b⟩ := uq_mem n r (by omega)
      refine ⟨fun x hx => ?_, by simp only [List.length_cons]; omega⟩
      rcases List.mem_cons.mp hx with rfl | hx
      · simp
      · exact List.mem_cons_of_mem _ (List.mem_cons_of_mem _ (a x hx))
    · rw [uq_other _ _ h92]
      obtain ⟨a, b⟩ := uq_mem n (d :: r) (by rw [List.length_cons]; omega)
      refine ⟨fun x hx => ?_, by simp only [List.length_cons] at b ⊢; omega⟩
      rcases List.mem_cons.mp hx with rfl | hx
      · simp
      · exact List.mem_cons_of_mem _ (a x hx)
section
variable {P : Program} {w : World} {K : PySem.W.Frag} {mg : Str → Option Value} {base : Heap} {f g g2 g3 : Addr} {fd gd gd2 gd3 : FuncData}
def spUq : Sp := fun vs H Q _ => ∃ (z : Str), vs = [.str z] ∧ z.length ≤ 400000 ∧ ∀ H', Same H H' → Q (.str (mk (uq ((tl z).drop 1)))) H'
theorem scUq : FnScope ["token", "told", "at"] ["token"] (defScope (top 25)) := ⟨rfl, rfl, rfl, by decide +kernel, rfl, by decide +kernel, by decide +kernel⟩
theorem ok_uq (F : FnD K "unquoted" 25 f fd) (B : Bl mg) : FnOk P w K mg base CX0 1 f fd ["token"] spUq := by
  refine F.ok scUq (fun vs H Q E h => ?_) (fun cdv A outer s H vs Q E hr h => ?_)
  · obtain ⟨z, rfl, _⟩ := h
    rfl
  obtain ⟨z, rfl, hl, q⟩ := h
  refine ⟨_, PSs.nox (pss_cons (ps_set (i := 1) scUq.nd rfl (Or.inl rfl) (pe_lst pa_nil))
    (pss_cons (ps_set (i := 2) scUq.nd rfl (Or.inl rfl) pe_int)
    (pss_cons (ps_while PassesOwn.never (pt_cmpR op_lt (pv 2) (pe_op op_sub (pe_callB call_len_str (by rfl) B.len PySem.boot_len (pa_cons (pv 0) pa_nil)) pe_int) (nomark _))
      (pss_cons (ps_if (pt_cmpR op_eq (pe_ix ix_str (pv 0) (pv 2) (fun _ _ => rfl)) pe_str (nomark _)) (pss_one (ps_aug (i := 2) scUq.nd rfl (Or.inl rfl) pe_int ip_add)) pss_nil)
      (pss_cons (ps_expr (pe_bm PySem.F.plainAttrs_list PySem.F.slot_list_append PySem.F.type_list_append mt_append (pv 1) (pa_cons (pe_ix ix_str (pv 0) (pv 2) (fun _ _ => rfl)) pa_nil)))
      (pss_one (ps_aug (i := 2) scUq.nd rfl (Or.inl rfl) pe_int ip_add)))))
    (pss_one (ps_ret (pe_join pe_str (pv 1))))))), ?_⟩
  have big : (1000000 : Nat) ≤ sizeLine := by decide
  have d2 : tl ("\\" : Str) = [92] := by decide +kernel
  have zl : z.length = (tl z).length := len_tl z
  refine ⟨(by show 0 ≤ sizeLine; decide), fun L hL => ?_⟩
  have k0 := same_new hL (.lst [])
  refine ⟨fun m σ H' => ∃ (e : Nat) (acc : List Nat), m = z.length + 1 - e ∧ acc.length ≤ e ∧ e ≤ z.length + 1 ∧ σ = [some (.str z), some (.ref L), some (.int (e : Nat))] ∧ H' L = some (.lst (acc.map fun c => V.str (mk [c]))) ∧ Same H H' ∧ acc.length ≤ z.length ∧ uq ((tl z).drop 1) = acc ++ uq ((tl z).drop e),
    ⟨z.length + 1 - 1, 1, [], rfl, Nat.zero_le _, by omega, rfl, upd_same, k0, Nat.zero_le _, rfl⟩, ?_⟩
  rintro m σ H' ⟨e, acc, rfl, hae, hez, rfl, hL2, k2, haz, hu⟩
  refine ⟨_, rfl, _, rfl, z, rfl, by omega, _, _, rfl, rfl, _, _, rfl, rfl, _, rfl, ?_⟩
  refine ite2 (fun c => ?_) (fun c => ?_)
  · have c' : (e : Int) < (z.length : Int) - 1 := of_decide_eq_true c
    have hi : e + 1 < (tl z).length := by omega
    have hd1 : (tl z).drop e = (tl z)[e] :: (tl z).drop (e + 1) := List.drop_eq_getElem_cons (by omega)
    have hd2 : (tl z).drop (e + 1) = (tl z)[e + 1] :: (tl z).drop (e + 2) := List.drop_eq_getElem_cons hi
    have hg1 : (tl z)[e]? = some (tl z)[e] := List.getElem?_eq_getElem (by omega)
    have hg2 : (tl z)[e + 1]? = some (tl z)[e + 1] := List.getElem?_eq_getElem hi
    generalize (tl z)[e] = ch at hd1 hg1
    generalize (tl z)[e + 1] = dh at hd2 hg2
    refine ⟨fun σ' H'' => ∃ (e' : Nat) (acc' : List Nat), e < e' ∧ acc'.length ≤ e' ∧ e' ≤ z.length + 1 ∧ σ' = [some (.str z), some (.ref L), some (.int (e' : Nat))] ∧ H'' L = some (.lst (acc'.map fun c => V.str (mk [c]))) ∧ Same H H'' ∧ acc'.length ≤ z.length ∧ uq ((tl z).drop 1) = acc' ++ uq ((tl z).drop e'),
      fun σ' H'' ⟨e', acc', y1, y2, y3, y4⟩ => ⟨z.length + 1 - e', by omega, e', acc', rfl, y2, y3, y4⟩, ?_⟩
    have fin : ∀ x : Nat, Same H (upd H' L (.lst (acc.map (fun c => V.str (mk [c])) ++ [V.str (mk [x])]))) ∧ upd H' L (.lst (acc.map (fun c => V.str (mk [c])) ++ [V.str (mk [x])])) L = some (.lst ((acc ++ [x]).map fun c => V.str (mk [c]))) := fun x => ⟨fun b o e => by
      rw [upd_ne (ne_of_none e hL)]
      exact k2 _ _ e, by
      rw [upd_same, List.map_append]
      rfl⟩
    have tk : (acc.map fun c => V.str (mk [c])).length < sizeLine := Nat.lt_of_lt_of_le (by rw [List.length_map]; omega : _ < 1000000) big
    refine ⟨_, rfl, _, rfl, z, _, ch, rfl, rfl, by omega, atI_nat hg1, rfl, _, rfl, ?_⟩
    rw [one_eq ch 92 _ d2]
    by_cases h92 : ch = 92
    · rw [decide_eq_true h92]
      refine iteT ⟨_, rfl, _, _, rfl, rfl, ?_⟩
      refine ⟨_, rfl, .inl ⟨rfl, _, SqL.of hL2⟩, _, rfl, _, rfl, z, _, dh, rfl, rfl, by omega, atI_nat (j := e + 1) hg2, L, _, _, rfl, rfl, hL2, tk, ?_⟩
      refine ⟨_, rfl, _, _, rfl, rfl, e + 2, acc ++ [dh], by omega, by rw [List.length_append, List.length_singleton]; omega, by omega, rfl, (fin dh).2, (fin dh).1, by rw [List.length_append, List.length_singleton]; omega, ?_⟩
      rw [hu, hd1, hd2, h92, uq_stroke, List.append_assoc]
      rfl
    · rw [decide_eq_false h92]
      refine iteF ?_
      refine ⟨_, rfl, .inl ⟨rfl, _, SqL.of hL2⟩, _, rfl, _, rfl, z, _, ch, rfl, rfl, by omega, atI_nat hg1, L, _, _, rfl, rfl, hL2, tk, ?_⟩
      refine ⟨_, rfl, _, _, rfl, rfl, e + 1, acc ++ [ch], by omega, by rw [List.length_append, List.length_singleton]; omega, by omega, rfl, (fin ch).2, (fin ch).1, by rw [List.length_append, List.length_singleton]; omega, ?_⟩
      rw [hu, hd1, hd2, uq_other _ _ h92, List.append_assoc]
      rfl
  · have c' : ¬ (e : Int) < (z.length : Int) - 1 := fun h => c (decide_eq_true h)
    have u0 : uq ((tl z).drop e) = [] := uq_short (by rw [List.length_drop]; omega)
    rw [u0, List.append_nil] at hu
    have eL : (acc.map fun c => V.str (mk [c])) = (acc.map fun c => mk [c]).map V.str := by rw [List.map_map]; rfl
    rw [eL] at hL2
    have z1 : tl ("" : Str) = [] := by decide +kernel
    have sl := sum_len (ls := acc.map fun c => [c]) (c := 1) fun x hx => by
      obtain ⟨c, _, rfl⟩ := List.mem_map.mp hx
      exact Nat.le_refl 1
    rw [List.length_map] at sl
    have eM : (acc.map fun c => [c]).map mk = acc.map fun c => mk [c] := by rw [List.map_map]; rfl
    rw [eM] at sl
    have l0 : ("" : Str).length = 0 := rfl
    refine ⟨⟨_, rfl⟩, _, rfl, _, L, _, rfl, rfl, .inl (SqL.of hL2), ?_, ?_⟩
    · rw [l0]
      have : ((acc.map fun c => mk [c]).map (fun x => x.length)).sum ≤ acc.length * 1 := sl
      omega
    · have eJ : Txt.join ("" : Str) (acc.map fun c => mk [c]) = mk acc := by
        refine ext_tl ?_
        have := join_mk ("" : Str) (acc.map fun c => [c])
        rw [List.map_map] at this
        refine this.trans ?_
        rw [z1, jn_nil]
        show (acc.map fun c => [c]).flatten = acc
        generalize acc = l
        induction l with
        | nil => rfl
        | cons c r ih => rw [List.map_cons, List.flatten_cons, ih]; rfl
      rw [eJ, ← hu]
      exact q _ k2
end
end K87
set_option Elab.async false
set_option linter.all false
set_option maxRecDepth 100000
set_option maxHeartbeats 8000000
/-! L88J: leaves_in, of any token. -/
namespace K87
open PySem PySem.Spec L2 K00 TL
open PyProof.Rows (envOfC sortedS)
def DIG : Str := "0123456789"
theorem dig_in {c : Nat} (h1 : 48 ≤ c) (h2 : c ≤ 57) : c ∈ DIG.cps.toList := by
  have : c = 48 ∨ c = 49 ∨ c = 50 ∨ c = 51 ∨ c = 52 ∨ c = 53 ∨ c = 54 ∨ c = 55 ∨ c = 56 ∨ c = 57 := by omega
  rcases this with rfl | rfl | rfl | rfl | rfl | rfl | rfl | rfl | rfl | rfl <;> decide +kernel
theorem starts_eq (x y : Str) : Txt.startswith x y = (decide (y.length ≤ x.length) && ((tl x).take (tl y).length == tl y)) := by
  unfold Txt.startswith
  rw [PySem.StrLaws.subAt_eq, Nat.zero_add, List.drop_zero, len_tl y]
theorem sw1 {x y : Str} {b c : Nat} {r : List Nat} (hy : tl y = [b]) (hx : tl x = c :: r) : Txt.startswith x y = decide (c = b) := by
  rw [starts_eq, decide_eq_true (by rw [len_tl, len_tl, hx, hy]; exact Nat.succ_le_succ (Nat.zero_le _)), hx, hy]
  show ([c] == [b]) = _
  by_cases h : c = b
  · subst h
    simp
  · rw [decide_eq_false h]
    simpa using h
theorem tl_cut1 (x : Str) : tl (cutS x (some 1) none) = (tl x).drop 1 := by
  show ((x.cps.toList.drop (HT.sIx x.length 0 (some ((1 : Nat) : Int)))).take (HT.sIx x.length x.length none - HT.sIx x.length 0 (some ((1 : Nat) : Int)))) = _
  rw [HT.sIx_nat, HT.sIx_none]
  have e : x.length = x.cps.toList.length := by simp [Str.length]
  rcases Nat.lt_or_ge x.length 1 with h | h
  · have h0 : x.cps.toList = [] := List.eq_nil_of_length_eq_zero (by omega)
    show _ = x.cps.toList.drop 1
    rw [h0]
    simp
  · rw [Nat.min_eq_left h]
    exact List.take_of_length_le (by rw [List.length_drop]; omega)
/-- what is asked of WORDS -/
structure WdK (K : PySem.W.Frag) (w : World) (mg : Str → Option Value) (D : Addr) : Prop where
  g : mg "WORDS" = some (.ref D)
  d : ∃ es n, KDict K w D es n
  no_ : PySem.W.nsIn K D "-" = some (some .none)
  yes : PySem.W.nsIn K D "yes" = some (some (.bool true))
  not : PySem.W.nsIn K D "no" = some (some (.bool false))
  out : ∀ z, z ∉ wdT → PySem.W.nsIn K D z = some none
theorem dig_iff (c : Nat) : decide (c ∈ DIG.cps.toList) = digC c := by
  by_cases h : 48 ≤ c ∧ c ≤ 57
  · rw [decide_eq_true (dig_in h.1 h.2)]
    exact (Bool.and_eq_true_iff.mpr ⟨decide_eq_true h.1, decide_eq_true h.2⟩).symm
  · have e : DIG.cps.toList.all digC = true := by decide +kernel
    cases q : digC c with
    | true =>
      obtain ⟨a, b⟩ := He.ba q
      exact absurd ⟨of_decide_eq_true a, of_decide_eq_true b⟩ h
    | false => exact decide_eq_false fun z => by rw [List.all_eq_true.mp e c z] at q; cases q
/-- what a token tells, if it tells one leaf -/
def lv (t : List Nat) : List PyData :=
  if t.head? = some 34 then [.str (mk (uq (t.drop 1)))]
  else if t = [45] then [.none] else if t = [121, 101, 115] then [.bool true] else if t = [110, 111] then [.bool false]
  else if t.head? = some 45 then (if (t.drop 1).all digC = true then [.int (-((NumText.digitsVal (t.drop 1) : Nat) : Int))] else [])
  else if t.all digC = true then [.int ((NumText.digitsVal t : Nat) : Int)] else []
theorem allD {t : List Nat} (h : t.all digC = true) : NumText.AllDigits t := fun c hc => by
  obtain ⟨a, b⟩ := He.ba (List.all_eq_true.mp h c hc)
  exact ⟨of_decide_eq_true a, of_decide_eq_true b⟩
section
variable {P : Program} {w : World} {K : PySem.W.Frag} {mg : Str → Option Value} {base : Heap} {f g g2 g3 : Addr} {fd gd gd2 gd3 : FuncData}
def spLv (P : Program) (w : World) : Sp := fun vs H Q _ => ∃ (t : List Nat), vs = [.str (mk t)] ∧ t ≠ [] ∧ t.length ≤ 300 ∧ ∀ l ys H', Same H H' → H l = none → H' l = some (.lst ys) → DaL P w H' ys (lv t) → Q (.ref l) H'
theorem scLv : FnScope ["token", "digits", "digit"] ["token"] (defScope (top 26)) := ⟨rfl, rfl, rfl, by decide +kernel, rfl, by decide +kernel, by decide +kernel⟩
theorem ok_lv {t1 : Tok} {D : Addr} (F : FnD K "leaves_in" 26 f fd) (B : Bl mg) (gD : mg "DIGITS" = some (.str DIG t1)) (W : WdK K w mg D) (GU : FnOk P w K mg base CX0 1 g gd ["token"] spUq) (bU : Binds K gd ["token"] []) (kU : PySem.W.keepIn K (.ref g) = true) (gU : mg "unquoted" = some (.ref g)) :
    FnOk P w K mg base CX0 2 f fd ["token"] (spLv P w) := by
  refine F.ok scLv (fun vs H Q E h => ?_) (fun cdv A outer s H vs Q E hr h => ?_)
  · obtain ⟨d, rfl, _⟩ := h
    rfl
  obtain ⟨t, rfl, hne, hl, q⟩ := h
  obtain ⟨es, n, KD⟩ := W.d
  refine ⟨_, PSs.nox (pss_cons (ps_if (pt_val (pe_m1 PySem.F.slot_str_startswith PySem.F.type_str_startswith mt_startswith (pv 0) pe_str)) (pss_one (ps_ret (pe_lst (pa_cons (pe_call GU hr rfl gU kU bU .nil pass0 (pa_cons (pv 0) pa_nil)) pa_nil)))) pss_nil)
    (pss_cons (ps_if (pt_cmpR (op_in_kd KD) (pv 0) (pe_glob (v := .ref D) rfl W.g rfl) (by rfl)) (pss_one (ps_ret (pe_lst (pa_cons (pe_ix ix_kdict (pe_glob (v := .ref D) rfl W.g rfl) (pv 0) (fun _ _ => rfl)) pa_nil)))) pss_nil)
    (pss_cons (ps_set (i := 1) scLv.nd rfl (Or.inl rfl) (pe_ifExp (pt_val (pe_m1 PySem.F.slot_str_startswith PySem.F.type_str_startswith mt_startswith (pv 0) pe_str)) (pe_slice sl_str (pv 0) (po_some pe_int) po_none) (pv 0)))
    (pss_one (ps_ret (pe_ifExp (pt_val (pe_callB (cr_all rfl) (by rfl) B.all (by decide +kernel) (pa_cons
          (pe_lc (own := [("digit", 2)]) (g := gName 2) (tt := tYes) rfl scLv.nd (pi_str (pv 1)) (blkOk_by (N := ["token", "digits", "digit"]) (sc := defScope (top 26)) (by decide +kernel))
            (fun _ _ _ _ _ => pg_name (i := 2) scLv.nd rfl (Or.inl rfl)) (fun _ _ _ _ _ => pts_nil)
            (fun _ _ _ _ _ => pe_cmpR op_in_sign (pv 2) (pe_glob (v := .str DIG) rfl gD ⟨_, rfl⟩) (by rfl))) pa_nil)))
        (pe_lst (pa_cons (pe_callTy call_int_str (by rfl) B.int (by decide +kernel) (pa_cons (pv 0) pa_nil)) pa_nil)) (pe_lst pa_nil))))))), ?_⟩
  have d1 : tl ("\"" : Str) = [34] := by decide +kernel
  have d5 : tl ("-" : Str) = [45] := by decide +kernel
  have one : 1 ≤ sizeLine := by decide
  have big : (1000000 : Nat) ≤ sizeLine := by decide
  have p0 : ∀ {x : V} {l : Addr} {H1 : Hp} {d : PyData}, Same H H1 → H1 l = none → Da P w (upd H1 l (.lst [x])) x d → lv t = [d] → Q (.ref l) (upd H1 l (.lst [x])) := fun k hl' hd e => q _ _ _ (k.trans (same_new hl' _)) (Same.free k hl') upd_same (by rw [e]; exact .cons hd .nil)
  obtain ⟨c, r, rfl⟩ : ∃ c r, t = c :: r := by
    cases t with
    | nil => exact absurd rfl hne
    | cons c r => exact ⟨c, r, rfl⟩
  have hc : tl (mk (c :: r)) = c :: r := rfl
  refine ⟨_, rfl, ⟨_, rfl⟩, _, _, rfl, rfl, _, rfl, ?_⟩
  rw [sw1 d1 hc]
  by_cases h34 : c = 34
  · subst h34
    rw [decide_eq_true rfl]
    refine iteT ⟨_, rfl, _, rfl, by rw [len_tl, hc]; omega, fun H1 k1 => ⟨one, fun l hl => p0 k1 hl (.str _) rfl⟩⟩
  rw [decide_eq_false h34]
  have w1 : ("-" : Str) = mk [45] := by decide +kernel
  have w2 : ("yes" : Str) = mk [121, 101, 115] := by decide +kernel
  have w3 : ("no" : Str) = mk [110, 111] := by decide +kernel
  have inj : ∀ {a b : List Nat}, mk a = mk b → a = b := fun h => congrArg tl h
  by_cases hw1 : c :: r = [45]
  · cases hw1
    rw [← w1]
    refine iteF ⟨_, rfl, _, _, rfl, rfl, W.no_, _, rfl, iteT ⟨_, rfl, D, _, .non, rfl, rfl, ⟨es, n, .none, KD.at_, KD.lit, W.no_, rfl⟩, one, fun l hl => p0 (same_refl H) hl .non rfl⟩⟩
  by_cases hw2 : c :: r = [121, 101, 115]
  · cases hw2
    rw [← w2]
    refine iteF ⟨_, rfl, _, _, rfl, rfl, W.yes, _, rfl, iteT ⟨_, rfl, D, _, (.bl true), rfl, rfl, ⟨es, n, (.bool true), KD.at_, KD.lit, W.yes, rfl⟩, one, fun l hl => p0 (same_refl H) hl (.bl true) rfl⟩⟩
  by_cases hw3 : c :: r = [110, 111]
  · cases hw3
    rw [← w3]
    refine iteF ⟨_, rfl, _, _, rfl, rfl, W.not, _, rfl, iteT ⟨_, rfl, D, _, (.bl false), rfl, rfl, ⟨es, n, (.bool false), KD.at_, KD.lit, W.not, rfl⟩, one, fun l hl => p0 (same_refl H) hl (.bl false) rfl⟩⟩
  have hw : mk (c :: r) ∉ wdT := fun hm => by
    have e2 : wdT = (["-", "yes", "no"] : List Str) := rfl
    rw [e2, w1, w2, w3] at hm
    simp only [List.mem_cons, List.not_mem_nil, or_false] at hm
    rcases hm with z | z | z
    · exact hw1 (inj z)
    · exact hw2 (inj z)
    · exact hw3 (inj z)
  have hlv : lv (c :: r) = (if c = 45 then (if r.all digC = true then [.int (-((NumText.digitsVal r : Nat) : Int))] else []) else if (c :: r).all digC = true then [.int ((NumText.digitsVal (c :: r) : Nat) : Int)] else []) := by
    unfold lv
    have n34 : ¬ (c :: r).head? = some 34 := fun z => h34 (Option.some.inj z)
    rw [if_neg n34, if_neg hw1, if_neg hw2, if_neg hw3]
    by_cases h : c = 45
    · have n45 : (c :: r).head? = some 45 := congrArg some h
      rw [if_pos h, if_pos n45]
      rfl
    · have n45 : ¬ (c :: r).head? = some 45 := fun z => h (Option.some.inj z)
      rw [if_neg h, if_neg n45]
  refine iteF ⟨_, rfl, _, _, rfl, rfl, W.out _ hw, _, rfl, iteF ⟨_, rfl, ⟨_, rfl⟩, _, _, rfl, rfl, _, rfl, ?_⟩⟩
  rw [sw1 d5 hc]
  have lcr : (mk (c :: r)).length = r.length + 1 := rfl
  have hlr : r.length + 1 ≤ 300 := hl
  have ball : ∀ z : Str, ((tl z).map fun c => decide (c ∈ DIG.cps.toList)).all id = (tl z).all digC := fun z => by
    rw [List.all_map]
    congr 1
    funext c
    exact dig_iff c
  by_cases h45 : c = 45
  · rw [decide_eq_true h45]
    rw [if_pos h45] at hlv
    have ec : tl (cutS (mk (c :: r)) (some 1) none) = r := by rw [tl_cut1]; rfl
    have rne : r ≠ [] := fun z => hw1 (by rw [h45, z])
    have rd : r.all digC = true → intText? (mk (c :: r)) = some (-((NumText.digitsVal r : Nat) : Int)) := fun ca => PySem.intText_neg (x := mk (c :: r)) (cs := r) (by show c :: r = _; rw [h45]) (allD ca) rne (by rw [lcr]; omega)
    refine iteT ⟨_, rfl, _, rfl, _, rfl, by omega, ?_⟩
    refine ⟨_, rfl, cutS (mk (c :: r)) (some 1) none, rfl, fun Dd hDd => ?_⟩
    have zl : (cutS (mk (c :: r)) (some 1) none).length = (tl (cutS (mk (c :: r)) (some 1) none)).length := len_tl _
    have zl3 : (tl (cutS (mk (c :: r)) (some 1) none)).length ≤ 300 := by rw [ec]; omega
    refine lc_it (walk_str (z := cutS (mk (c :: r)) (some 1) none)) (fun t H2 => Same H H2 ∧ H2 Dd = some (.lst ((((tl (cutS (mk (c :: r)) (some 1) none)).take t).map fun c => decide (c ∈ DIG.cps.toList)).map V.bl))) ⟨same_new hDd _, upd_same⟩ (fun _ _ _ _ => trivial) ?_ ?_
    · rintro t v H2 H2' ht ⟨k2, hD2⟩ ⟨rfl, c0, hc0, rfl⟩
      refine ⟨rfl, ?_⟩
      simp only [tYes, if_true]
      have hc' : (tl (cutS (mk (c :: r)) (some 1) none))[t]? = some c0 := by rw [← hc0]; exact Array.getElem?_toList ..
      refine ⟨_, rfl, c0, DIG, rfl, rfl, _, hD2, ?_, fun b o e => ?_, ?_⟩
      · rw [List.length_map, List.length_map, List.length_take]
        exact K00.small1000 (by omega)
      · rw [upd_ne (ne_of_none e hDd)]
        exact k2 _ _ e
      · rw [upd_same, List.take_add_one, hc']
        simp
    · rintro H2 ⟨k2, hD2⟩
      have et : (tl (cutS (mk (c :: r)) (some 1) none)).take (cutS (mk (c :: r)) (some 1) none).cps.size = tl (cutS (mk (c :: r)) (some 1) none) := List.take_of_length_le (Nat.le_refl _)
      rw [et] at hD2
      refine ⟨Dd, _, rfl, SqL.of hD2, _, rfl, ite2 (fun ca => ?_) (fun ca => ?_)⟩
      · have ca' : (r).all digC = true := by rw [ball, ec] at ca; exact ca
        rw [if_pos ca'] at hlv
        exact ⟨_, rfl, mk (c :: r), _, rfl, rd ca', by omega, one, fun l hl => p0 k2 hl (.int _) hlv⟩
      · have ca' : ¬ (r).all digC = true := fun z => ca (by rw [ball, ec]; exact z)
        rw [if_neg ca'] at hlv
        exact ⟨(by show 0 ≤ sizeLine; decide), fun l hl => q l [] _ (k2.trans (same_new hl _)) (Same.free k2 hl) upd_same (by rw [hlv]; exact .nil)⟩
  · rw [decide_eq_false h45]
    rw [if_neg h45] at hlv
    have rd : (c :: r).all digC = true → intText? (mk (c :: r)) = some ((NumText.digitsVal (c :: r) : Nat) : Int) := fun ca => PySem.intText_digits (x := mk (c :: r)) (allD ca) (fun z => by cases z) (by rw [lcr]; omega)
    refine iteF ⟨_, rfl, ?_⟩
    refine ⟨_, rfl, mk (c :: r), rfl, fun Dd hDd => ?_⟩
    have zl : (mk (c :: r)).length = (tl (mk (c :: r))).length := len_tl _
    have zl3 : (tl (mk (c :: r))).length ≤ 300 := by rw [hc]; exact hl
    refine lc_it (walk_str (z := mk (c :: r))) (fun t H2 => Same H H2 ∧ H2 Dd = some (.lst ((((tl (mk (c :: r))).take t).map fun c => decide (c ∈ DIG.cps.toList)).map V.bl))) ⟨same_new hDd _, upd_same⟩ (fun _ _ _ _ => trivial) ?_ ?_
    · rintro t v H2 H2' ht ⟨k2, hD2⟩ ⟨rfl, c0, hc0, rfl⟩
      refine ⟨rfl, ?_⟩
      simp only [tYes, if_true]
      have hc' : (tl (mk (c :: r)))[t]? = some c0 := by rw [← hc0]; exact Array.getElem?_toList ..
      refine ⟨_, rfl, c0, DIG, rfl, rfl, _, hD2, ?_, fun b o e => ?_, ?_⟩
      · rw [List.length_map, List.length_map, List.length_take]
        exact K00.small1000 (by omega)
      · rw [upd_ne (ne_of_none e hDd)]
        exact k2 _ _ e
      · rw [upd_same, List.take_add_one, hc']
        simp
    · rintro H2 ⟨k2, hD2⟩
      have et : (tl (mk (c :: r))).take (mk (c :: r)).cps.size = tl (mk (c :: r)) := List.take_of_length_le (Nat.le_refl _)
      rw [et] at hD2
      refine ⟨Dd, _, rfl, SqL.of hD2, _, rfl, ite2 (fun ca => ?_) (fun ca => ?_)⟩
      · have ca' : (c :: r).all digC = true := by rw [ball, hc] at ca; exact ca
        rw [if_pos ca'] at hlv
        exact ⟨_, rfl, mk (c :: r), _, rfl, rd ca', by omega, one, fun l hl => p0 k2 hl (.int _) hlv⟩
      · have ca' : ¬ (c :: r).all digC = true := fun z => ca (by rw [ball, hc]; exact z)
        rw [if_neg ca'] at hlv
        exact ⟨(by show 0 ≤ sizeLine; decide), fun l hl => q l [] _ (k2.trans (same_new hl _)) (Same.free k2 hl) upd_same (by rw [hlv]; exact .nil)⟩
end
end K87
set_option Elab.async false
set_option linter.all false
set_option maxRecDepth 100000
set_option maxHeartbeats 4000000
/-! G87S: xs[::2], xs[1::2], dict(zip(a, b)). -/
namespace K87
open PySem PySem.Spec PyProof.Rows L2 HT K00 K00Z
def evs {α : Type} : List α → List α
  | [] => []
  | [x] => [x]
  | x :: _ :: r => x :: evs r
def ods {α : Type} : List α → List α
  | [] => []
  | [_] => []
  | _ :: y :: r => y :: ods r
theorem fm_congr {α β : Type} {f g : α → Option β} : ∀ {l : List α}, (∀ x ∈ l, f x = g x) → l.filterMap f = l.filterMap g
  | [], _ => rfl
  | x :: r, h => by
    rw [List.filterMap_cons, List.filterMap_cons, h x List.mem_cons_self, fm_congr fun y hy => h y (List.mem_cons_of_mem _ hy)]
theorem range_two (n : Nat) : List.range (n + 1) = 0 :: (List.range n).map (· + 1) := List.range_succ_eq_map
theorem evs_pick {α : Type} : ∀ l : List α, (List.range ((l.length + 1) / 2)).filterMap (fun k => l[2 * k]?) = evs l
  | [] => by simp [evs]
  | [x] => by simp [evs, List.range_succ]
  | x :: y :: r => by
    have e : ((x :: y :: r).length + 1) / 2 = (r.length + 1) / 2 + 1 := by
      rw [List.length_cons, List.length_cons]
      omega
    rw [e, range_two, List.filterMap_cons_some (b := x) (by rfl), List.filterMap_map]
    show x :: _ = x :: evs r
    rw [← evs_pick r]
    congr 1
theorem ods_pick {α : Type} : ∀ l : List α, (List.range (l.length / 2)).filterMap (fun k => l[1 + 2 * k]?) = ods l
  | [] => by simp [ods]
  | [x] => by simp [ods]
  | x :: y :: r => by
    have e : (x :: y :: r).length / 2 = r.length / 2 + 1 := by
      rw [List.length_cons, List.length_cons]
      omega
    rw [e, range_two, List.filterMap_cons_some (b := y) (by rfl), List.filterMap_map]
    show y :: _ = y :: ods r
    rw [← ods_pick r]
    congr 1
theorem pick_ev (items : Array Value) : slicePick items none none (some 2) = (evs items.toList).toArray := by
  unfold slicePick
  congr 1
  have b : sliceBounds none none (some 2) items.size = (0, (items.size : Int), 2) := by
    first
    | rfl
    | simp [sliceBounds]
  rw [b]
  show (sliceRange 0 (items.size : Int) 2).filterMap (items[·]?) = _
  unfold sliceRange
  have c : (if (2 : Int) > 0 then (if (0 : Int) < (items.size : Int) then ((items.size : Int) - 0 + 2 - 1) / 2 else 0) else (if (0 : Int) > (items.size : Int) then (0 - (items.size : Int) - 2 - 1) / (-2) else 0)).toNat = (items.toList.length + 1) / 2 := by
    rw [if_pos (by decide), Array.length_toList]
    by_cases h : (0 : Int) < (items.size : Int)
    · rw [if_pos h]
      omega
    · rw [if_neg h]
      omega
  show ((List.range (if (2 : Int) > 0 then (if (0 : Int) < (items.size : Int) then ((items.size : Int) - 0 + 2 - 1) / 2 else 0) else (if (0 : Int) > (items.size : Int) then (0 - (items.size : Int) - 2 - 1) / (-2) else 0)).toNat).map fun (k : Nat) => ((0 : Int) + 2 * (k : Int)).toNat).filterMap (items[·]?) = _
  rw [c, List.filterMap_map, ← evs_pick]
  refine fm_congr fun k _ => ?_
  show items[((0 : Int) + 2 * (k : Int)).toNat]? = items.toList[2 * k]?
  rw [show ((0 : Int) + 2 * (k : Int)).toNat = 2 * k by omega]
  simp
theorem pick_od (items : Array Value) : slicePick items (some 1) none (some 2) = (ods items.toList).toArray := by
  unfold slicePick
  congr 1
  have b : sliceBounds (some 1) none (some 2) items.size = (max 0 (min 1 (items.size : Int)), (items.size : Int), 2) := by
    first
    | rfl
    | simp [sliceBounds]
  rw [b]
  show (sliceRange (max 0 (min 1 (items.size : Int))) (items.size : Int) 2).filterMap (items[·]?) = _
  generalize hlo : max 0 (min 1 (items.size : Int)) = lo
  unfold sliceRange
  have c : (if (2 : Int) > 0 then (if lo < (items.size : Int) then ((items.size : Int) - lo + 2 - 1) / 2 else 0) else (if lo > (items.size : Int) then (lo - (items.size : Int) - 2 - 1) / (-2) else 0)).toNat = items.toList.length / 2 := by
    rw [if_pos (by decide), Array.length_toList]
    by_cases h : lo < (items.size : Int)
    · rw [if_pos h]
      omega
    · rw [if_neg h]
      omega
  show ((List.range (if (2 : Int) > 0 then (if lo < (items.size : Int) then ((items.size : Int) - lo + 2 - 1) / 2 else 0) else (if lo > (items.size : Int) then (lo - (items.size : Int) - 2 - 1) / (-2) else 0)).toNat).map fun (k : Nat) => (lo + 2 * (k : Int)).toNat).filterMap (items[·]?) = _
  rw [c, List.filterMap_map, ← ods_pick]
  refine fm_congr fun k hk => ?_
  have hk2 := List.mem_range.mp hk
  rw [Array.length_toList] at hk2
  show items[(lo + 2 * (k : Int)).toNat]? = items.toList[1 + 2 * k]?
  rw [show (lo + 2 * (k : Int)).toNat = 1 + 2 * k by omega]
  simp
theorem vals_ev : ∀ {xs : List V} {us : List Value}, Vals xs us → Vals (evs xs) (evs us)
  | _, _, .nil => .nil
  | _, _, .cons a .nil => .cons a .nil
  | _, _, .cons a (.cons _ r) => .cons a (vals_ev r)
theorem vals_od : ∀ {xs : List V} {us : List Value}, Vals xs us → Vals (ods xs) (ods us)
  | _, _, .nil => .nil
  | _, _, .cons _ .nil => .nil
  | _, _, .cons _ (.cons b r) => .cons b (vals_od r)
theorem evs_len {α : Type} : ∀ l : List α, (evs l).length ≤ l.length
  | [] => Nat.le_refl _
  | [_] => Nat.le_refl _
  | _ :: _ :: r => by
    have := evs_len r
    show (evs r).length + 1 ≤ r.length + 1 + 1
    omega
theorem ods_len {α : Type} : ∀ l : List α, (ods l).length ≤ l.length
  | [] => Nat.le_refl _
  | [_] => Nat.zero_le _
  | _ :: _ :: r => by
    have := ods_len r
    show (ods r).length + 1 ≤ r.length + 1 + 1
    omega
def tEv (K : PySem.W.Frag) (te : TE) : TE := fun σ H Q => te σ H fun x H1 => ∃ a xs, x = .ref a ∧ SqL K H1 a xs ∧ ∀ p, H1 p = none → Q (.ref p) (upd H1 p (.lst (evs xs)))
def tOd (K : PySem.W.Frag) (te : TE) : TE := fun σ H Q => te σ H fun x H1 => ∃ a xs, x = .ref a ∧ SqL K H1 a xs ∧ ∀ p, H1 p = none → Q (.ref p) (upd H1 p (.lst (ods xs)))
section
variable {X : Cx}
/-- xs[::2] -/
theorem pe_ev {e : Expr} {te : TE} {k : Nat} {p1 p3 pos : Pos} (he : PE X e te) : PE X (.Subscript e (.Slice none none (some (.Constant (.int 2) k p1)) p3) pos) (tEv X.K te) := by
  refine ⟨fun pins s σ H Q I h => ?_⟩
  refine Subscript_ (thn (he.run pins s σ H _ I h) fun v s1 ⟨x, H1, I1, r1, q1⟩ => ?_)
  obtain ⟨a, xs, ex, hx, q⟩ := q1
  subst ex
  cases r1
  have hst : PO X (some (.Constant (.int 2) k p1)) (tPart (tC (.int 2))) := po_some pe_int
  refine wpAny_Slice (thn (po_none.run pins s1 σ H1 (fun o H2 => o = none ∧ H2 = H1) I1 ⟨rfl, rfl⟩) fun vl s2 ⟨l, H2, I2, pl, el, e2⟩ => ?_)
  subst el e2
  refine thn (po_none.run pins s2 σ H2 (fun o H3 => o = none ∧ H3 = H2) I2 ⟨rfl, rfl⟩) fun vu s3 ⟨u, H3, I3, pu, eu, e3⟩ => ?_
  subst eu e3
  refine thn (hst.run pins s3 σ H3 (fun o H4 => o = some 2 ∧ H4 = H3) I3 ⟨2, rfl, rfl, rfl⟩) fun vs s4 ⟨o, H4, I4, ps, eo, e4⟩ => ?_
  subst eo e4
  have I5 : Inv X pins σ H4 { s4 with heap := s4.heap.push { cls := .type "slice", data := .fields #[vl, vu, vs] } } := I4.kept (t' := s4.toks) fun b ob q => Heap.get?_push_of_some _ q
  obtain ⟨its, r, ht, hz⟩ := I5.list hx
  have hlen := r.length
  show wpAny (model X.prog X.w) X.A (subscriptTail e (.Slice none none (some (.Constant (.int 2) k p1)) p3) (.ref a) (.ref s4.heap.objs.size)) (EP X pins σ Q) X.xe { s4 with heap := s4.heap.push { cls := .type "slice", data := .fields #[vl, vu, vs] } }
  refine tail_any (ops := [.ref a, .ref s4.heap.objs.size]) ht.isList.typeIs (PySem.slot_list_getitem.lookup) ?_ (by with_unfolding_all rfl)
  refine wpAny_getItem_list_slice ht.isList (Heap.IsSliceOf.new _ vl vu vs) pl pu ps (by decide) ?_ (by rw [List.size_toArray]; omega)
  rw [pick_ev]
  refine ⟨.ref _, _, I5.laid (t' := s4.toks) (o := .lst (evs xs)) (fun b ob q => Heap.get?_push_of_some _ q) (Nat.le_refl _) ?_, rfl, q _ (I5.hok.fresh (Nat.le_refl _))⟩
  exact ⟨Nat.le_trans (evs_len xs) hz, _, 0, vals_ev r, Heap.get?_push_size _ rfl⟩
/-- xs[1::2] -/
theorem pe_od {e : Expr} {te : TE} {k k1 : Nat} {p0 p1 p3 pos : Pos} (he : PE X e te) : PE X (.Subscript e (.Slice (some (.Constant (.int 1) k1 p0)) none (some (.Constant (.int 2) k p1)) p3) pos) (tOd X.K te) := by
  refine ⟨fun pins s σ H Q I h => ?_⟩
  refine Subscript_ (thn (he.run pins s σ H _ I h) fun v s1 ⟨x, H1, I1, r1, q1⟩ => ?_)
  obtain ⟨a, xs, ex, hx, q⟩ := q1
  subst ex
  cases r1
  have hst : PO X (some (.Constant (.int 2) k p1)) (tPart (tC (.int 2))) := po_some pe_int
  have hs1 : PO X (some (.Constant (.int 1) k1 p0)) (tPart (tC (.int 1))) := po_some pe_int
  refine wpAny_Slice (thn (hs1.run pins s1 σ H1 (fun o H2 => o = some 1 ∧ H2 = H1) I1 ⟨1, rfl, rfl, rfl⟩) fun vl s2 ⟨l, H2, I2, pl, el, e2⟩ => ?_)
  subst el e2
  refine thn (po_none.run pins s2 σ H2 (fun o H3 => o = none ∧ H3 = H2) I2 ⟨rfl, rfl⟩) fun vu s3 ⟨u, H3, I3, pu, eu, e3⟩ => ?_
  subst eu e3
  refine thn (hst.run pins s3 σ H3 (fun o H4 => o = some 2 ∧ H4 = H3) I3 ⟨2, rfl, rfl, rfl⟩) fun vs s4 ⟨o, H4, I4, ps, eo, e4⟩ => ?_
  subst eo e4
  have I5 : Inv X pins σ H4 { s4 with heap := s4.heap.push { cls := .type "slice", data := .fields #[vl, vu, vs] } } := I4.kept (t' := s4.toks) fun b ob q => Heap.get?_push_of_some _ q
  obtain ⟨its, r, ht, hz⟩ := I5.list hx
  have hlen := r.length
  show wpAny (model X.prog X.w) X.A (subscriptTail e (.Slice (some (.Constant (.int 1) k1 p0)) none (some (.Constant (.int 2) k p1)) p3) (.ref a) (.ref s4.heap.objs.size)) (EP X pins σ Q) X.xe { s4 with heap := s4.heap.push { cls := .type "slice", data := .fields #[vl, vu, vs] } }
  refine tail_any (ops := [.ref a, .ref s4.heap.objs.size]) ht.isList.typeIs (PySem.slot_list_getitem.lookup) ?_ (by with_unfolding_all rfl)
  refine wpAny_getItem_list_slice ht.isList (Heap.IsSliceOf.new _ vl vu vs) pl pu ps (by decide) ?_ (by rw [List.size_toArray]; omega)
  rw [pick_od]
  refine ⟨.ref _, _, I5.laid (t' := s4.toks) (o := .lst (ods xs)) (fun b ob q => Heap.get?_push_of_some _ q) (Nat.le_refl _) ?_, rfl, q _ (I5.hok.fresh (Nat.le_refl _))⟩
  exact ⟨Nat.le_trans (ods_len xs) hz, _, 0, vals_od r, Heap.get?_push_size _ rfl⟩
end
/-! ### dict(zip(a, b)) -/
def rDictZip (K : PySem.W.Frag) : List V → Hp → VK → Prop := fun vs H Q => ∃ (a b : Addr) (ks : List Str) (ys : List V), vs = [.ref a, .ref b] ∧ SqL K H a (ks.map V.str) ∧ SqL K H b ys ∧ ks.length = ys.length ∧
  ∀ p, H p = none → Q (.ref p) (upd H p (.dK (mergeK [] ((ks.map fun k => (Sum.inr k : Key)).zip ys))))
def tDictZip (K : PySem.W.Frag) (ta : TA) : TE := fun σ H Q => ta σ H fun vs H1 => rDictZip K vs H1 Q
theorem kv_zip : ∀ {ks : List Key} {ys : List V} {us : List Value}, Vals ys us → KV (ks.zip ys) (ks.zip us)
  | [], _, _, _ => by rw [List.zip_nil_left, List.zip_nil_left]; exact .nil
  | _ :: _, _, _, .nil => .nil
  | k :: ks, _, _, .cons a r => .cons ⟨rfl, a⟩ (kv_zip r)
section
variable {X : Cx} {e e2 : Expr} {ta : TA} {p p2 cpos pos : Pos}
theorem pe_dictzip (hc : X.calm = true) (hg : Gl X "dict") (hm : X.mg "dict" = none) (hv : bootBuiltins "dict" = some (.type "dict")) (hg2 : Gl X "zip") (hm2 : X.mg "zip" = none) (ha : PA X [e, e2] ta)
    (hs2 : starEach [e, e2] X.env = (false, eval e X.env) :: starEach [e2] X.env := by rfl) (hpl2 : (backTo cpos (starEach [e2] X.env)).any (·.1) = false := by rfl)
    (hs : starEach [.Call (.Name "zip" p2) [e, e2] [] cpos] X.env = (false, eval (.Call (.Name "zip" p2) [e, e2] [] cpos) X.env) :: starEach [] X.env := by rfl) :
    PE X (.Call (.Name "dict" p) [.Call (.Name "zip" p2) [e, e2] [] cpos] [] pos) (tDictZip X.K ta) := by
  refine ⟨fun pins s σ H Q I hq => ?_⟩
  refine wpAny_Call_Name_kw (ld_blt I hg hm hv ?_)
  refine PyProof.Rows.callWith_type1 ?_ hs rfl
  rw [hs]
  show wpAny _ _ (spliced ((false, eval (.Call (.Name "zip" p2) [e, e2] [] cpos) X.env) :: backTo pos (starEach [] X.env))) _ _ s
  refine Calls.spliced_cons ?_
  refine wpAny_Call_Name_kw (ld_blt I hg2 hm2 PyProof.Rows.boot_zip (PyProof.Rows.callWith_type1 (thn (ha.run cpos pins s σ H _ I hq) fun us s1 ⟨vs, H1, I1, r1, q1⟩ => ?_) hs2 hpl2))
  obtain ⟨a, b, ks, ys, ex, hqx, hqy, hxy, q⟩ := q1
  subst ex
  cases r1 with
  | cons r rr =>
    cases rr with
    | cons r' rr =>
      cases rr
      cases r
      cases r'
      obtain ⟨its, rv, p1, hz1⟩ := I1.list hqx
      obtain ⟨its2, rv2, p2', hz2⟩ := I1.list hqy
      have la : a < s1.heap.objs.size := let ⟨_, ho, _⟩ := p1.isList; Heap.lt_size ho
      have lb : b < s1.heap.objs.size := let ⟨_, ho, _⟩ := p2'.isList; Heap.lt_size ho
      have lx : ks.length = its.length := by rw [← rv.length, List.length_map]
      have ly : ys.length = its2.length := rv2.length
      rw [List.length_map] at hz1
      refine call_zip_2 p1.isList p2'.isList fun h' hz hTI hTO h1 h2 hsz hk => ?_
      refine Calls.spliced_nil ?_
      have D : ZipApart (s1.heap.objs.size + 4) (s1.heap.objs.size + 2) (s1.heap.objs.size + 3) s1.heap.objs.size (s1.heap.objs.size + 1) a b := apartN la lb
      have hmin : min its.toArray.size its2.toArray.size = its.length := by
        simp only [List.size_toArray]
        omega
      refine PySem.call_dict_pairs (s := { s1 with heap := h' }) (knd := mixKind X.prog X.w) (kvs := (ks.map fun k => (Sum.inr k : Key)).zip its2) (PairArg.zip _ _ _ _ _ _ _ D its.toArray its2.toArray) (I1.ok.hd hc)
        ⟨hz, hTI, ⟨_, _, hTO⟩, h1, h2, p1.isList.at fun o e => hk _ o e, p2'.isList.at fun o e => hk _ o e⟩ ⟨?_, fun i key v hr => ?_⟩ (by rw [hmin]; omega) fun h'' tk hd' hk2 => ?_
      · rw [hmin, List.length_zip, List.length_map]
        omega
      · obtain ⟨e1, e2⟩ := hr
        have g1 : its[i]? = some key := by simpa using e1
        have g2 : its2[i]? = some v := by simpa using e2
        have hi : i < ks.length := by rw [lx]; exact (List.getElem?_eq_some_iff.mp g1).1
        have k1 : ks[i]? = some ks[i] := List.getElem?_eq_getElem hi
        obtain ⟨u1, hu1, r1⟩ := rv.get (i := i) (x := V.str ks[i]) (by rw [List.getElem?_map, k1]; rfl)
        rw [g1] at hu1
        cases hu1
        refine ⟨Sum.inr ks[i], List.getElem?_zip_eq_some.mpr ⟨by rw [List.getElem?_map, k1]; rfl, g2⟩, ?_⟩
        exact kV_is (P := X.prog) (w := X.w) (k := Sum.inr ks[i]) r1
      · have hlow : ∀ b' o, s1.heap.get? b' = some o → h''.get? b' = some o := fun b' o e => by
          have lt := Heap.lt_size e
          refine hk2 b' o (fun z => ?_) (hk b' o e)
          simp only [List.mem_cons, List.not_mem_nil, or_false] at z
          rcases z with z | z | z | z
          · exact neN (Nat.lt_add_right 4 lt) z
          · exact neN (Nat.lt_add_right 3 lt) z
          · exact neN lt z
          · exact neN (Nat.lt_add_right 1 lt) z
        have hsz' : h'.objs.size = s1.heap.objs.size + 5 := hsz
        have hSs : s1.heap.objs.size ≤ h'.objs.size := by omega
        have hmm : (h'.objs.size == sysModules) = false := beq_eq_false_iff_ne.mpr (Nat.ne_of_gt (Nat.lt_of_lt_of_le I1.big hSs))
        have hlen : (mergeK [] ((ks.map fun k => (Sum.inr k : Key)).zip ys)).length ≤ sizeLine := by
          refine Nat.le_trans (length_mergeK _ []) ?_
          rw [List.length_nil, Nat.zero_add, List.length_zip, List.length_map]
          omega
        exact ⟨.ref h'.objs.size, upd H1 h'.objs.size (.dK (mergeK [] ((ks.map fun k => (Sum.inr k : Key)).zip ys))), I1.laid (t' := tk) hlow hSs (show ObjOk X.prog X.w _ _ _ (.dK _) from ⟨hlen, hmm, merged [] _, KV.merge (kv_zip rv2) .nil, hd'⟩), rfl, q _ (I1.hok.fresh hSs)⟩
end
end K87
set_option Elab.async false
set_option linter.all false
set_option maxRecDepth 100000
set_option maxHeartbeats 8000000
/-! L88K: is_name, of anything whose texts are short. -/
namespace K87
open PySem PySem.Spec L2 K00 TL
open PyProof.Rows (envOfC sortedS)
section
variable {P : Program} {w : World} {K : PySem.W.Frag} {mg : Str → Option Value} {base : Heap} {f g g2 g3 : Addr} {fd gd gd2 gd3 : FuncData}
def spNameG (P : Program) (w : World) : Sp := fun vs H Q _ => ∃ (x : V) (d : PyData), vs = [x] ∧ Da P w H x d ∧ (∀ y, d = .str y → y.length ≤ 1000) ∧ ∀ H', Same H H' → Q (.bl (keyB d)) H'
theorem ok_nameG {t1 t2 : Tok} (F : FnD K "is_name" 7 f fd) (B : Bl mg) (gL : mg "LETTERS" = some (.str LET t1)) (gN : mg "LONGEST_NAME" = some (.int 8 t2)) : FnOk P w K mg base CX0 1 f fd ["value"] (spNameG P w) := by
  refine F.ok scName (fun vs H Q E h => ?_) (fun cdv A outer s H vs Q E hr h => ?_)
  · obtain ⟨x, d, rfl, _⟩ := h
    rfl
  obtain ⟨x, d, rfl, hd, hs, q⟩ := h
  refine ⟨_, PSs.nox (pss_cons (ps_if (PW.pt (pw_or (pt_not (pt_val (pe_callB call_isDa (by rfl) B.isi (by decide +kernel) (pa_cons (pv 0) (pa_cons (pe_bltn (v := .ty "str") (by rfl) B.str (by decide +kernel) rfl) pa_nil)))))
      (pw_or1 (pt_not (pt_chain op_le op_le pe_int (pe_callB call_len_str (by rfl) B.len PySem.boot_len (pa_cons (pv 0) pa_nil)) (pe_glob (v := .int 8) rfl gN ⟨_, rfl⟩))))))
      (pss_one (ps_ret pe_bl)) pss_nil)
    (pss_one (ps_ret (pe_callB (cr_all rfl) (by rfl) B.all (by decide +kernel) (pa_cons
      (pe_lc (own := [("letter", 1)]) (g := gName 1) (tt := tYes) rfl scName.nd (pi_str (pv 0)) (blkOk_by (N := ["value", "letter"]) (sc := defScope (top 7)) (by decide +kernel))
        (fun _ _ _ _ _ => pg_name (i := 1) scName.nd rfl (Or.inl rfl)) (fun _ _ _ _ _ => pts_nil)
        (fun _ _ _ _ _ => pe_cmpR op_in_sign (pv 1) (pe_glob (v := .str LET) rfl gL ⟨_, rfl⟩) (by rfl))) pa_nil))))), ?_⟩
  refine ⟨_, rfl, x, "str", d, _, rfl, hd, kt_s d, _, rfl, ?_⟩
  cases hd with
  | str y =>
    have hy : y.length ≤ 1000 := hs y rfl
    refine iteF ⟨_, rfl, y, rfl, Nat.le_of_lt (K00.small1000 hy), _, _, rfl, rfl, _, rfl, ?_⟩
    refine ite2 (fun c1 => ⟨_, _, rfl, rfl, _, rfl, ite2 (fun c => ?_) (fun c => ?_)⟩) (fun c1 => ⟨_, rfl, ?_⟩)
    · -- the second bound fails
      have c' : decide ((y.length : Int) ≤ 8) = false := by simpa using c
      have e : keyB (.str y) = false := by
        show nameB y = _
        unfold nameB
        have : decide (y.length ≤ 8) = false := by
          have := of_decide_eq_false c'
          exact decide_eq_false (by omega)
        rw [this]
        simp
      rw [← e]
      exact q H (same_refl H)
    · have c' : decide ((y.length : Int) ≤ 8) = true := by simpa using c
      have b8 : y.length ≤ 8 := by have := of_decide_eq_true c'; omega
      have b1 : 1 ≤ y.length := by have := of_decide_eq_true c1; omega
      refine ⟨_, rfl, y, rfl, fun D hD => ?_⟩
      have hlen : y.cps.size = y.length := rfl
      refine lc_it (walk_str (z := y)) (fun i H2 => Same H H2 ∧ H2 D = some (.lst (((y.cps.toList.take i).map fun c => decide (c ∈ LET.cps.toList)).map V.bl))) ⟨same_new hD _, upd_same⟩ (fun _ _ _ _ => trivial) ?_ ?_
      · rintro i v H2 H2' hi ⟨k2, hD2⟩ ⟨rfl, c, hc, rfl⟩
        refine ⟨rfl, ?_⟩
        simp only [tYes, if_true]
        have hc' : y.cps.toList[i]? = some c := by rw [Array.getElem?_toList]; exact hc
        refine ⟨_, rfl, c, LET, rfl, rfl, _, hD2, ?_, fun b o e => ?_, ?_⟩
        · rw [List.length_map, List.length_map, List.length_take]
          exact K00.small1000 (by omega)
        · have nb : b ≠ D := ne_of_none e hD
          rw [upd_ne nb]
          exact k2 _ _ e
        · rw [upd_same, List.take_add_one, hc']
          simp
      · rintro H2 ⟨k2, hD2⟩
        refine ⟨D, _, rfl, SqL.of hD2, ?_⟩
        have e : keyB (.str y) = (((y.cps.toList.take y.cps.size).map fun c => decide (c ∈ LET.cps.toList)).all id) := by
          show nameB y = _
          unfold nameB
          rw [decide_eq_true b1, decide_eq_true b8]
          simp only [Bool.true_and]
          rw [List.take_of_length_le (by simp), List.all_map]
          congr 1
          funext c
          simp [List.contains_eq_mem]
        rw [← e]
        exact q H2 k2
    · have e : keyB (.str y) = false := by
        show nameB y = _
        unfold nameB
        have : decide (1 ≤ y.length) = false := by
          have c1' : decide (1 ≤ (y.length : Int)) = false := by simpa using c1
          have := of_decide_eq_false c1'
          exact decide_eq_false (by omega)
        rw [this]
        simp
      refine iteT ?_
      rw [← e]
      exact q H (same_refl H)
  | non => exact iteT (q H (same_refl H))
  | bl b => exact iteT (q H (same_refl H))
  | int i => exact iteT (q H (same_refl H))
  | lst h r => exact iteT (q H (same_refl H))
  | tup h r => exact iteT (q H (same_refl H))
  | dic h r => exact iteT (q H (same_refl H))
end
end K87
set_option Elab.async false
set_option linter.all false
set_option maxRecDepth 100000
set_option maxHeartbeats 8000000
/-! L88N: entries put into each other, as data. -/
namespace K87
open PySem PySem.Spec L2 K00 TL
open PyProof.Rows (envOfC sortedS)
def putD (ds : List (Str × PyData)) (k : Str) (d : PyData) : List (Str × PyData) := if (ds.any fun q => decide (q.1 = k)) = true then ds.map (fun q => if q.1 = k then (q.1, d) else q) else ds ++ [(k, d)]
def mergeD (ds more : List (Str × PyData)) : List (Str × PyData) := more.foldl (fun acc q => putD acc q.1 q.2) ds
section
variable {P : Program} {w : World} {H : Hp}
/-- entries and what they are -/
inductive Ent (P : Program) (w : World) (H : Hp) : List (Key × V) → List (Str × PyData) → Prop
  | nil : Ent P w H [] []
  | cons {k : Str} {v : V} {d : PyData} {kvs : List (Key × V)} {ds : List (Str × PyData)} (h : Da P w H v d) (r : Ent P w H kvs ds) : Ent P w H ((Sum.inr k, v) :: kvs) ((k, d) :: ds)
theorem Ent.any {k : Str} {kvs : List (Key × V)} {ds : List (Str × PyData)} (h : Ent P w H kvs ds) : (kvs.any fun kv => decide (kv.1 = (Sum.inr k : Key))) = ds.any fun q => decide (q.1 = k) := by
  induction h with
  | nil => rfl
  | @cons k' v d kvs ds h r ih =>
    rw [List.any_cons, List.any_cons, ih]
    congr 1
    by_cases e : k' = k
    · rw [decide_eq_true e, decide_eq_true (congrArg Sum.inr e)]
    · rw [decide_eq_false e, decide_eq_false fun z => e (Sum.inr.inj z)]
theorem Ent.map {k : Str} {v : V} {d : PyData} (hv : Da P w H v d) {kvs : List (Key × V)} {ds : List (Str × PyData)} (h : Ent P w H kvs ds) :
    Ent P w H (kvs.map fun kv => if kv.1 = (Sum.inr k : Key) then (kv.1, v) else kv) (ds.map fun q => if q.1 = k then (q.1, d) else q) := by
  induction h with
  | nil => exact .nil
  | @cons k' v' d' kvs ds h r ih =>
    rw [List.map_cons, List.map_cons]
    by_cases e : k' = k
    · rw [if_pos e, if_pos (congrArg Sum.inr e : (Sum.inr k' : Key) = Sum.inr k)]
      exact .cons hv ih
    · rw [if_neg e, if_neg (fun z => e (Sum.inr.inj z))]
      exact .cons h ih
theorem Ent.snoc {k : Str} {v : V} {d : PyData} (hv : Da P w H v d) {kvs : List (Key × V)} {ds : List (Str × PyData)} (h : Ent P w H kvs ds) : Ent P w H (kvs ++ [(Sum.inr k, v)]) (ds ++ [(k, d)]) := by
  induction h with
  | nil => exact .cons hv .nil
  | cons h r ih => exact .cons h ih
theorem Ent.put {k : Str} {v : V} {d : PyData} (hv : Da P w H v d) {kvs : List (Key × V)} {ds : List (Str × PyData)} (h : Ent P w H kvs ds) : Ent P w H (putK kvs (Sum.inr k) v) (putD ds k d) := by
  unfold putK putD
  rw [h.any (k := k)]
  split
  · exact h.map hv
  · exact h.snoc hv
theorem Ent.merge {more : List (Key × V)} {md : List (Str × PyData)} (hm : Ent P w H more md) : ∀ {kvs : List (Key × V)} {ds : List (Str × PyData)}, Ent P w H kvs ds → Ent P w H (mergeK kvs more) (mergeD ds md) := by
  induction hm with
  | nil => exact fun h => h
  | cons h r ih => exact fun h2 => ih (h2.put h)
theorem Ent.daE {kvs : List (Key × V)} {ds : List (Str × PyData)} (h : Ent P w H kvs ds) : DaE P w H (kvs.map fun p => (kV p.1, p.2)) (ds.map fun q => (.str q.1, q.2)) := by
  induction h with
  | nil => exact .nil
  | @cons k v d kvs ds h r ih => exact .cons (.str k) h ih
theorem Ent.keys {kvs : List (Key × V)} {ds : List (Str × PyData)} (h : Ent P w H kvs ds) : kvs.map (·.1) = (ds.map (·.1)).map (fun k => (Sum.inr k : Key)) := by
  induction h with
  | nil => rfl
  | cons h r ih => rw [List.map_cons, List.map_cons, List.map_cons, ih]
theorem Ent.zip : ∀ {ks : List Str} {ys : List V} {ds : List PyData}, DaL P w H ys ds → ks.length = ys.length → Ent P w H ((ks.map fun k => (Sum.inr k : Key)).zip ys) (ks.zip ds)
  | [], _, _, _, _ => by simp; exact .nil
  | k :: ks, [], _, _, h => by cases h
  | k :: ks, y :: ys, _, .cons hy r, h => .cons hy (Ent.zip r (by simpa using h))
end
/-- entries of names that differ are left as they are -/
theorem mergeD_new : ∀ (md ds : List (Str × PyData)), ((ds ++ md).map (·.1)).Nodup → mergeD ds md = ds ++ md
  | [], ds, _ => (List.append_nil ds).symm
  | q :: r, ds, h => by
    have hn : (ds.any fun p => decide (p.1 = q.1)) = false := by
      rw [List.any_eq_false]
      intro p hp z
      have e : p.1 = q.1 := of_decide_eq_true z
      rw [List.map_append, List.map_cons] at h
      exact (List.nodup_append.mp h).2.2 _ (List.mem_map.mpr ⟨p, hp, rfl⟩) _ List.mem_cons_self e
    show mergeD (putD ds q.1 q.2) r = _
    unfold putD
    rw [hn, if_neg (by decide), mergeD_new r (ds ++ [(q.1, q.2)]) (by rw [List.append_assoc]; exact h), List.append_assoc]
    rfl
end K87
set_option Elab.async false
set_option linter.all false
set_option maxRecDepth 100000
set_option maxHeartbeats 8000000
/-! L88O: wholes_in, of any frame. -/
namespace K87
open PySem PySem.Spec L2 K00 TL
open PyProof.Rows (envOfC sortedS)
/-- what a frame's inner parts make -/
def whD (B : List Nat) (t : Nat) (ds : List PyData) : List PyData :=
  if B ++ [t] = [91, 93] then [.list ds]
  else if B ++ [t] ≠ [123, 125] ∨ ds.length % 2 = 1 ∨ (evs ds).all keyB = false then []
  else [.dict ((mergeD [] (((evs ds).map kS).zip (ods ds))).map fun q => (.str q.1, q.2))]
theorem da_ev {P : Program} {w : World} {H : Hp} : ∀ {xs : List V} {ds : List PyData}, DaL P w H xs ds → DaL P w H (evs xs) (evs ds) ∧ DaL P w H (ods xs) (ods ds)
  | _, _, .nil => ⟨.nil, .nil⟩
  | _, _, .cons h .nil => ⟨.cons h .nil, .nil⟩
  | _, _, .cons h (.cons h2 r) => ⟨.cons h (da_ev r).1, .cons h2 (da_ev r).2⟩
theorem evs_mem {α : Type} {x : α} : ∀ {l : List α}, x ∈ evs l → x ∈ l
  | [_], h => h
  | a :: b :: r, h => by
    rcases List.mem_cons.mp (show x ∈ a :: evs r from h) with rfl | h
    · simp
    · exact List.mem_cons_of_mem _ (List.mem_cons_of_mem _ (evs_mem h))
theorem keyB_inv {d : PyData} (h : keyB d = true) : ∃ s, d = .str s := by
  cases d with
  | str s => exact ⟨s, rfl⟩
  | _ => cases h
theorem da_names {P : Program} {w : World} {H : Hp} : ∀ {xs : List V} {ds : List PyData}, DaL P w H xs ds → ds.all keyB = true → xs = (ds.map kS).map V.str
  | _, _, .nil, _ => rfl
  | _, _, .cons (x := x) (d := d) h r, a => by
    rw [List.all_cons] at a
    obtain ⟨a1, a2⟩ := He.ba a
    obtain ⟨s, rfl⟩ := keyB_inv a1
    cases h
    rw [List.map_cons, List.map_cons, ← da_names r a2]
    rfl
theorem ev_od {α : Type} : ∀ l : List α, l.length % 2 = 0 → (evs l).length = (ods l).length
  | [], _ => rfl
  | [_], h => by cases h
  | x :: y :: r, h => by
    have h' : (r.length + 1 + 1) % 2 = 0 := h
    show (evs r).length + 1 = (ods r).length + 1
    rw [ev_od r (by omega)]
section
variable {P : Program} {w : World} {K : PySem.W.Frag} {mg : Str → Option Value} {base : Heap} {f g g2 g3 : Addr} {fd gd gd2 gd3 : FuncData}
def spWholeG (P : Program) (w : World) : Sp := fun vs H Q _ => ∃ (fa : Addr) (B : List Nat) (t : Nat) (xs : List V) (ds : List PyData), vs = [.ref fa, .str (mk [t])] ∧ B.length ≤ 1 ∧ H fa = some (.lst (.str (mk B) :: xs)) ∧ xs.length ≤ 1000 ∧ DaL P w H xs ds ∧
  (∀ d ∈ ds, ∀ y, d = .str y → y.length ≤ 1000) ∧ ∀ l ys H', Same H H' → H l = none → H' l = some (.lst ys) → DaL P w H' ys (whD B t ds) → Q (.ref l) H'
abbrev NgH : List Str := ["frame", "token", "inner", "field"]
theorem scWhole : FnScope NgH ["frame", "token"] (defScope (top 27)) := ⟨rfl, rfl, rfl, by decide +kernel, rfl, by decide +kernel, by decide +kernel⟩
theorem ok_wholeG (F : FnD K "wholes_in" 27 f fd) (B : Bl mg) (GN : FnOk P w K mg base CX0 1 g gd ["value"] (spNameG P w)) (bN : Binds K gd ["value"] []) (kN : PySem.W.keepIn K (.ref g) = true) (gN : mg "is_name" = some (.ref g)) :
    FnOk P w K mg base CX0 2 f fd ["frame", "token"] (spWholeG P w) := by
  refine F.ok scWhole (fun vs H Q E h => ?_) (fun cdv A outer s H vs Q E hr h => ?_)
  · obtain ⟨fa, B, t, xs, ds, rfl, _⟩ := h
    rfl
  obtain ⟨fa, Bh, t, xs, ds, rfl, hB, hfa, xl, hda, hst, q⟩ := h
  refine ⟨_, PSs.nox (pss_cons (ps_set (i := 2) scWhole.nd rfl (Or.inl rfl) (pe_fz (pe_slice sl_list (pv 0) (po_some pe_int) po_none)))
    (pss_cons (ps_if (pt_cmpR op_eq (pe_op op_add_str (pe_ix ix_list (pv 0) pe_int (fun _ _ => rfl)) (pv 1)) pe_str (nomark _)) (pss_one (ps_ret (pe_lst (pa_cons (pv 2) pa_nil)))) pss_nil)
    (pss_cons (ps_if (PW.pt (pw_or (pt_cmpR op_ne (pe_op op_add_str (pe_ix ix_list (pv 0) pe_int (fun _ _ => rfl)) (pv 1)) pe_str (nomark _))
        (pw_or (pt_cmpR op_eq (pe_op op_mod (pe_callB call_len_seq (by rfl) B.len PySem.boot_len (pa_cons (pv 2) pa_nil)) pe_int) pe_int (nomark _))
        (pw_or1 (pt_not (pt_val (pe_callB (cr_all rfl) (by rfl) B.all (by decide +kernel) (pa_cons
          (pe_lc (own := [("field", 3)]) (g := gName 3) (tt := tYes) rfl scWhole.nd (pi_list (pe_ev (pv 2))) (blkOk_by (N := NgH) (sc := defScope (top 27)) (by decide +kernel))
            (fun _ _ _ _ _ => pg_name (i := 3) scWhole.nd rfl (Or.inl rfl)) (fun _ _ _ _ _ => pts_nil)
            (fun _ _ _ _ _ => pe_call GN hr rfl gN kN bN .nil pass0 (pa_cons (pv 3) pa_nil))) pa_nil)))))))) (pss_one (ps_ret (pe_lst pa_nil))) pss_nil)
    (pss_one (ps_ret (pe_lst (pa_cons (pe_fzK (pe_dictzip rfl (by rfl) B.dict (by decide +kernel) (by rfl) B.zip (pa_cons (pe_ev (pv 2)) (pa_cons (pe_od (pv 2)) pa_nil)))) pa_nil))))))), ?_⟩
  have one : 1 ≤ sizeLine := by decide
  have zero : 0 ≤ sizeLine := by decide
  have br : ("[]" : Str) = mk [91, 93] := by decide +kernel
  have cu : ("{}" : Str) = mk [123, 125] := by decide +kernel
  have ca : mk Bh ++ mk [t] = mk (Bh ++ [t]) := ext_tl (tl_append _ _)
  have l2 : (mk Bh).length + (mk [t]).length ≤ sizeLine := Nat.le_trans (by show Bh.length + 1 ≤ 2; omega) (by decide : 2 ≤ sizeLine)
  have inj : ∀ a b : List Nat, V.str (mk a) = V.str (mk b) → a = b := fun a b h => congrArg tl (V.str.inj h)
  have dl := hda.length
  refine ⟨_, rfl, 1, rfl, fa, _, rfl, SqL.of hfa, fun ih hih => ⟨ih, _, rfl, upd_same, trivial, fun o => ?_⟩⟩
  rw [cut_from _ (by decide), upd_upd]
  have k1 : Same H (upd H ih (.frz o (.lst xs))) := same_new hih _
  have e1 : (V.str (mk Bh) :: xs).drop (1 : Int).toNat = xs := rfl
  rw [e1]
  refine ⟨_, rfl, fa, _, 0, .str (mk Bh), rfl, rfl, SqL.of (k1 _ _ hfa), atI_nat (j := 0) rfl, _, rfl, _, _, rfl, rfl, l2, rfl, _, rfl, ?_⟩
  rw [ca, br]
  by_cases hlist : Bh ++ [t] = [91, 93]
  · have hw : whD Bh t ds = [.list ds] := if_pos hlist
    refine ite_t (decide_eq_true (by rw [hlist])) ⟨_, rfl, one, fun l hl => ?_⟩
    have k2 := same_new hl (.lst [V.ref ih])
    exact q l _ _ (k1.trans k2) (Same.free k1 hl) upd_same (by rw [hw]; exact .cons (.lst (k2 _ _ upd_same) (hda.kp (.same (k1.trans k2)))) .nil)
  refine ite_f (decide_eq_false fun h => hlist (inj _ _ h)) ?_
  have hih1 : SqL K (upd H ih (.frz o (.lst xs))) ih xs := .inl (.inr ⟨o, upd_same⟩)
  refine ⟨_, rfl, fa, _, 0, .str (mk Bh), rfl, rfl, SqL.of (k1 _ _ hfa), atI_nat (j := 0) rfl, _, rfl, _, _, rfl, rfl, l2, rfl, _, rfl, ?_⟩
  rw [ca, cu]
  by_cases hdict : Bh ++ [t] = [123, 125]
  · refine ite_f (by rw [hdict, decide_eq_true rfl]; rfl) ?_
    refine ⟨_, rfl, ih, _, rfl, .inl hih1, _, _, rfl, rfl, (by show (0 : Int) < 2; decide), rfl, _, rfl, ?_⟩
    by_cases hodd : ds.length % 2 = 1
    · have hw : whD Bh t ds = [] := by unfold whD; rw [if_neg hlist, if_pos (.inr (.inl hodd))]
      refine ite_t (decide_eq_true (congrArg V.int (by omega))) (iteT ⟨zero, fun l hl => ?_⟩)
      exact q l [] _ (k1.trans (same_new hl _)) (Same.free k1 hl) upd_same (by rw [hw]; exact .nil)
    refine ite_f (decide_eq_false fun h => by have := V.int.inj h; omega) ?_
    refine ⟨_, rfl, ih, _, rfl, hih1, fun ev hev => ?_⟩
    obtain ⟨dev, dod⟩ := da_ev hda
    have k2 := same_new hev (.lst (evs xs))
    have evl := evs_len xs
    have devl := dev.length
    refine ⟨ev, rfl, ⟨_, SqL.of upd_same⟩, fun D hD => ?_⟩
    refine lc_it (walk_list (K := K) (a := ev) (xs := evs xs)) (fun i H2 => Same (upd (upd H ih (.frz o (.lst xs))) ev (.lst (evs xs))) H2 ∧ H2 D = some (.lst ((((evs ds).take i).map keyB).map V.bl))) ⟨same_new hD _, upd_same⟩ (fun _ H2 _ z => SqL.of (z.1 _ _ upd_same)) ?_ ?_
    · rintro i v H2 H2' hi ⟨k3, hD2⟩ ⟨rfl, hv⟩
      obtain ⟨d, hd, hvd⟩ := dev.get hv
      refine ⟨rfl, ?_⟩
      simp only [tYes, if_true]
      refine ⟨_, rfl, v, d, rfl, hvd.kp (.same ((k1.trans k2).trans k3)), fun y hy => hst d (evs_mem (List.mem_of_getElem? hd)) y hy, fun H3 k4 => ⟨_, k4 _ _ hD2, K00.small1000 (by rw [List.length_map, List.length_map, List.length_take]; omega), fun b o' e => ?_, ?_⟩⟩
      · rw [upd_ne (ne_of_none e hD)]
        exact k4 _ _ (k3 _ _ e)
      · rw [upd_same, List.take_add_one, hd]
        simp
    · rintro H2 ⟨k3, hD2⟩
      have kk : Same H H2 := (k1.trans k2).trans k3
      have hih2 : SqL K H2 ih xs := .inl (.inr ⟨o, k3 _ _ (k2 _ _ upd_same)⟩)
      rw [devl, List.take_length] at hD2
      refine ⟨D, _, rfl, SqL.of hD2, _, rfl, ?_⟩
      have ea : (((evs ds).map keyB)).all id = (evs ds).all keyB := by rw [List.all_map]; rfl
      rw [ea]
      by_cases hk : (evs ds).all keyB = true
      · rw [hk]
        have hw : whD Bh t ds = [.dict ((mergeD [] (((evs ds).map kS).zip (ods ds))).map fun q => (.str q.1, q.2))] := by
          unfold whD
          rw [if_neg hlist, if_neg (fun z => by rcases z with z | z | z; exact z hdict; exact hodd z; rw [hk] at z; cases z)]
        have hx := da_names dev hk
        have kl : ((evs ds).map kS).length = (ods xs).length := by
          rw [List.length_map, ← devl]
          exact ev_od xs (by omega)
        refine iteF ⟨_, rfl, ih, xs, rfl, hih2, fun e1a he1 => ⟨_, rfl, ih, xs, rfl, ?_, fun e2a he2 => ?_⟩⟩
        · exact .inl (.inr ⟨o, (same_new he1 _) _ _ (k3 _ _ (k2 _ _ upd_same))⟩)
        rw [hx] at he2 ⊢
        have k4 := same_new he1 (.lst (((evs ds).map kS).map V.str))
        have k5 := same_new he2 (.lst (ods xs))
        refine ⟨e1a, e2a, (evs ds).map kS, ods xs, rfl, SqL.of (k5 _ _ upd_same), SqL.of upd_same, kl, fun pd hpd => ⟨pd, _, rfl, upd_same, fun nd o' => ⟨one, fun l hl => ?_⟩⟩⟩
        rw [upd_upd] at hl ⊢
        have k6 := same_new hpd (.frz o' (.dK (mergeK [] ((((evs ds).map kS).map fun k => (Sum.inr k : Key)).zip (ods xs)))))
        have k7 := same_new hl (.lst [V.ref pd])
        have kf := ((((kk.trans k4).trans k5).trans k6).trans k7)
        have en : Ent P w _ _ _ := Ent.merge (Ent.zip (dod.kp (.same kf)) kl) (.nil (P := P) (w := w))
        refine q l _ _ kf (Same.free (((kk.trans k4).trans k5).trans k6) hl) upd_same ?_
        rw [hw]
        exact .cons (.dic (.inl ⟨_, k7 _ _ upd_same, rfl⟩) en.daE) .nil
      · have hk' : (evs ds).all keyB = false := by simpa using hk
        have hw : whD Bh t ds = [] := by unfold whD; rw [if_neg hlist, if_pos (.inr (.inr hk'))]
        rw [hk']
        refine iteT ⟨zero, fun l hl => ?_⟩
        exact q l [] _ (kk.trans (same_new hl _)) (Same.free kk hl) upd_same (by rw [hw]; exact .nil)
  · have hw : whD Bh t ds = [] := by unfold whD; rw [if_neg hlist, if_pos (.inl hdict)]
    refine ite_t (by rw [decide_eq_false fun h => hdict (inj _ _ h)]; rfl) (iteT ⟨zero, fun l hl => ?_⟩)
    exact q l [] _ (k1.trans (same_new hl _)) (Same.free k1 hl) upd_same (by rw [hw]; exact .nil)
end
end K87
set_option Elab.async false
set_option linter.all false
set_option maxRecDepth 100000
set_option maxHeartbeats 8000000
/-! L88P: what is due: the law's reader reads all of a text just where it is the text of a good document. -/
namespace K87
open PySem PySem.Spec L2 K00 TL
theorem due_of {n : Nat} {l : List Nat} {d : PyData} (hl : l.length ≤ 300) (hlo : ∀ c ∈ l, c < 128) (h : partR n l = some (d, [])) : Gd d ∧ wr d = l := by
  obtain ⟨h1, h2⟩ := partR_sound n l d [] hl hlo h
  rw [List.append_nil] at h1
  exact ⟨h2, h1.symm⟩
theorem due_is {n : Nat} {l : List Nat} {d : PyData} (od : isOne d = true) (sm : SmN 1000 d) (h : wr d = l) (ho : opn l ≤ n) : ∃ d', partR n l = some (d', []) := by
  have := partR_full n d od sm (by rw [h]; exact ho) [] (fun c hc => by cases hc)
  rwa [List.append_nil, h] at this
end K87
set_option Elab.async false
set_option linter.all false
set_option maxRecDepth 100000
set_option maxHeartbeats 8000000
/-! L88Q: the reader's machine over data; how much it makes. -/
namespace K87
open PySem PySem.Spec L2 K00 TL
open PyProof.Rows (envOfC sortedS)
abbrev FrD := List Nat × List PyData
/-- one token read -/
def stepD (t : List Nat) : List FrD → Option (List FrD)
  | [] => none
  | (B, ds) :: st =>
    if t = [91] ∨ t = [123] then some ((t, []) :: (B, ds) :: st)
    else if t = [93] ∨ t = [125] then
      (match st with
       | [] => none
       | (B2, es) :: r => if whD B (t.headD 0) ds = [] then none else some ((B2, es ++ whD B (t.headD 0) ds) :: r))
    else if B = [123] ∧ ds.length % 2 = 0 then some ((B, ds ++ [.str (mk t)]) :: st)
    else if lv t = [] then none else some ((B, ds ++ lv t) :: st)
def runD : List (List Nat) → List FrD → Option (List FrD)
  | [], st => some st
  | t :: ts, st => (stepD t st).bind (runD ts)
def rootD : List FrD → List PyData
  | [] => []
  | [f] => f.2
  | _ :: f :: r => rootD (f :: r)
def loosD (ts : List (List Nat)) : List PyData := match runD ts [([], [])] with
  | some st => rootD st
  | none => []
def wS (wt : PyData → Nat) (st : List FrD) : Nat := (st.map fun f => (f.2.map wt).sum).sum
theorem wS_cons (wt : PyData → Nat) (B : List Nat) (ds : List PyData) (st : List FrD) : wS wt ((B, ds) :: st) = (ds.map wt).sum + wS wt st := by
  unfold wS
  rw [List.map_cons, List.sum_cons]
def Gd1 (wt : PyData → Nat) (c : Nat) (t : List Nat) (d : PyData) : Prop := wt d ≤ c * t.length
/-- what a leaf's token may tell -/
theorem lv_cases (t : List Nat) : lv t = [] ∨ ∃ d, lv t = [d] ∧ (d = .str (mk (uq (t.drop 1))) ∨ d = .none ∨ (∃ b, d = .bool b) ∨ ∃ cs : List Nat, NumText.AllDigits cs ∧ cs.length ≤ t.length ∧ (d = .int ((NumText.digitsVal cs : Nat) : Int) ∨ d = .int (-((NumText.digitsVal cs : Nat) : Int)))) := by
  unfold lv
  split
  · exact .inr ⟨_, rfl, .inl rfl⟩
  split
  · exact .inr ⟨_, rfl, .inr (.inl rfl)⟩
  split
  · exact .inr ⟨_, rfl, .inr (.inr (.inl ⟨true, rfl⟩))⟩
  split
  · exact .inr ⟨_, rfl, .inr (.inr (.inl ⟨false, rfl⟩))⟩
  split
  · split
    · rename_i h
      exact .inr ⟨_, rfl, .inr (.inr (.inr ⟨t.drop 1, allD h, by rw [List.length_drop]; omega, .inr rfl⟩))⟩
    · exact .inl rfl
  · split
    · rename_i h
      exact .inr ⟨_, rfl, .inr (.inr (.inr ⟨t, allD h, Nat.le_refl _, .inl rfl⟩))⟩
    · exact .inl rfl
theorem wh_cases (B : List Nat) (t : Nat) (ds : List PyData) : whD B t ds = [] ∨ whD B t ds = [.list ds] ∨ ((evs ds).all keyB = true ∧ whD B t ds = [.dict ((mergeD [] (((evs ds).map kS).zip (ods ds))).map fun q => (.str q.1, q.2))]) := by
  unfold whD
  split
  · exact .inr (.inl rfl)
  · split
    · exact .inl rfl
    · rename_i h
      refine .inr (.inr ⟨?_, rfl⟩)
      cases q : (evs ds).all keyB with
      | true => rfl
      | false => exact absurd (.inr (.inr q)) h
/-! ### entries put into each other -/
theorem putD_mem {ds : List (Str × PyData)} {k : Str} {d : PyData} {p : Str × PyData} (h : p ∈ putD ds k d) : p ∈ ds ∨ p = (k, d) := by
  unfold putD at h
  split at h
  · obtain ⟨q, hq, rfl⟩ := List.mem_map.mp h
    split
    · rename_i e
      rw [e]
      exact .inr rfl
    · exact .inl hq
  · rcases List.mem_append.mp h with h | h
    · exact .inl h
    · exact .inr (List.mem_singleton.mp h)
theorem putD_keys (ds : List (Str × PyData)) (k : Str) (d : PyData) : (putD ds k d).map (·.1) = if k ∈ ds.map (·.1) then ds.map (·.1) else ds.map (·.1) ++ [k] := by
  have e : (ds.any fun q => decide (q.1 = k)) = decide (k ∈ ds.map (·.1)) := by
    by_cases h : k ∈ ds.map (·.1)
    · rw [decide_eq_true h]
      obtain ⟨q, hq, e⟩ := List.mem_map.mp h
      exact List.any_eq_true.mpr ⟨q, hq, decide_eq_true e⟩
    · rw [decide_eq_false h]
      exact List.any_eq_false.mpr fun q hq z => h (List.mem_map.mpr ⟨q, hq, of_decide_eq_true z⟩)
  unfold putD
  rw [e]
  by_cases h : k ∈ ds.map (·.1)
  · rw [decide_eq_true h, if_pos rfl, if_pos h, List.map_map]
    refine List.map_congr_left fun q _ => ?_
    show (if q.1 = k then (q.1, d) else q).1 = q.1
    split <;> rfl
  · rw [decide_eq_false h, if_neg (by decide), if_neg h, List.map_append]
    rfl
theorem putD_nd {ds : List (Str × PyData)} (h : (ds.map (·.1)).Nodup) (k : Str) (d : PyData) : ((putD ds k d).map (·.1)).Nodup := by
  rw [putD_keys]
  split
  · exact h
  · rename_i n
    exact List.nodup_append.mpr ⟨h, by simp, fun a ha b hb => by rw [List.mem_singleton.mp hb]; exact fun e => n (e ▸ ha)⟩
theorem repl_id {k : Str} {d : PyData} : ∀ (ds : List (Str × PyData)), k ∉ ds.map (·.1) → ds.map (fun q => if q.1 = k then (q.1, d) else q) = ds
  | [], _ => rfl
  | q :: r, h => by
    rw [List.map_cons] at h
    have h1 : q.1 ≠ k := fun e => h (by rw [e]; exact List.mem_cons_self)
    rw [List.map_cons, if_neg h1, repl_id r fun z => h (List.mem_cons_of_mem _ z)]
theorem repl_sum {f : Str × PyData → Nat} {k : Str} {d : PyData} : ∀ (ds : List (Str × PyData)), (ds.map (·.1)).Nodup → ((ds.map fun q => if q.1 = k then (q.1, d) else q).map f).sum ≤ (ds.map f).sum + f (k, d)
  | [], _ => Nat.zero_le _
  | q :: r, h => by
    rw [List.map_cons] at h
    obtain ⟨h1, h2⟩ := List.nodup_cons.mp h
    rw [List.map_cons, List.map_cons, List.map_cons, List.sum_cons, List.sum_cons]
    by_cases e : q.1 = k
    · rw [if_pos e, repl_id r (by rw [← e]; exact h1), e]
      omega
    · rw [if_neg e]
      have := repl_sum (f := f) (k := k) (d := d) r h2
      omega
theorem putD_sum (f : Str × PyData → Nat) {ds : List (Str × PyData)} (h : (ds.map (·.1)).Nodup) (k : Str) (d : PyData) : ((putD ds k d).map f).sum ≤ (ds.map f).sum + f (k, d) := by
  unfold putD
  split
  · exact repl_sum ds h
  · rw [List.map_append, List.sum_append]
    simp
theorem mergeD_all (f : Str × PyData → Nat) : ∀ (md ds : List (Str × PyData)), (ds.map (·.1)).Nodup → ((mergeD ds md).map (·.1)).Nodup ∧ (∀ p ∈ mergeD ds md, p ∈ ds ∨ p ∈ md) ∧ ((mergeD ds md).map f).sum ≤ (ds.map f).sum + (md.map f).sum
  | [], ds, h => ⟨h, fun p hp => .inl hp, by show (ds.map f).sum ≤ _; omega⟩
  | q :: r, ds, h => by
    obtain ⟨h1, h2, h3⟩ := mergeD_all f r (putD ds q.1 q.2) (putD_nd h _ _)
    have e : mergeD ds (q :: r) = mergeD (putD ds q.1 q.2) r := rfl
    rw [e]
    refine ⟨h1, fun p hp => ?_, ?_⟩
    · rcases h2 p hp with z | z
      · rcases putD_mem z with z | z
        · exact .inl z
        · exact .inr (by rw [z]; exact List.mem_cons_self)
      · exact .inr (List.mem_cons_of_mem _ z)
    · have := putD_sum f h q.1 q.2
      rw [List.map_cons, List.sum_cons]
      have e : f (q.1, q.2) = f q := rfl
      omega
theorem evod_sum {wt : PyData → Nat} : ∀ (ds : List PyData), (evs ds).all keyB = true → ((((evs ds).map kS).zip (ods ds)).map fun p => wt (.str p.1) + wt p.2).sum ≤ (ds.map wt).sum
  | [], _ => Nat.le_refl _
  | [x], _ => Nat.zero_le _
  | x :: y :: r, h => by
    have h' : (x :: evs r).all keyB = true := h
    rw [List.all_cons] at h'
    obtain ⟨h1, h2⟩ := He.ba h'
    have := evod_sum (wt := wt) r h2
    show (wt (.str (kS x)) + wt y) + ((((evs r).map kS).zip (ods r)).map fun p => wt (.str p.1) + wt p.2).sum ≤ wt x + (wt y + (r.map wt).sum)
    rw [← keyB_str h1]
    omega
/-- how much one token adds -/
structure WtOk (wt : PyData → Nat) (c : Nat) : Prop where
  lf : ∀ t d, t ≠ [] → lv t = [d] → wt d ≤ c * t.length
  st : ∀ t, t ≠ [] → wt (.str (mk t)) ≤ c * t.length
  ls : ∀ ds, wt (.list ds) ≤ (ds.map wt).sum + c
  dc : ∀ es : List (Str × PyData), (es.map (·.1)).Nodup → wt (.dict (es.map fun q => (.str q.1, q.2))) ≤ (es.map fun p => wt (.str p.1) + wt p.2).sum + c
theorem WtOk.wh {wt : PyData → Nat} {c : Nat} (W : WtOk wt c) (B : List Nat) (t : Nat) (ds : List PyData) : ((whD B t ds).map wt).sum ≤ (ds.map wt).sum + c := by
  rcases wh_cases B t ds with e | e | ⟨hk, e⟩
  · rw [e]
    exact Nat.zero_le _
  · rw [e]
    have := W.ls ds
    simpa using this
  · rw [e]
    obtain ⟨h1, _, h3⟩ := mergeD_all (fun p => wt (.str p.1) + wt p.2) (((evs ds).map kS).zip (ods ds)) [] .nil
    have h4 := W.dc _ h1
    have h5 := evod_sum (wt := wt) ds hk
    simp only [List.map_cons, List.map_nil, List.sum_cons, List.sum_nil] at h3 ⊢
    omega
/-- what a step was -/
theorem stepD_inv {t : List Nat} {st st' : List FrD} (h : stepD t st = some st') : ∃ B ds r, st = (B, ds) :: r ∧
    (((t = [91] ∨ t = [123]) ∧ st' = (t, []) :: (B, ds) :: r) ∨
     ((t = [93] ∨ t = [125]) ∧ ∃ B2 es r2, r = (B2, es) :: r2 ∧ whD B (t.headD 0) ds ≠ [] ∧ st' = (B2, es ++ whD B (t.headD 0) ds) :: r2) ∨
     (¬ (t = [91] ∨ t = [123]) ∧ ¬ (t = [93] ∨ t = [125]) ∧ (B = [123] ∧ ds.length % 2 = 0) ∧ st' = (B, ds ++ [.str (mk t)]) :: r) ∨
     (¬ (t = [91] ∨ t = [123]) ∧ ¬ (t = [93] ∨ t = [125]) ∧ ¬ (B = [123] ∧ ds.length % 2 = 0) ∧ ∃ d, lv t = [d] ∧ st' = (B, ds ++ [d]) :: r)) := by
  cases st with
  | nil => cases h
  | cons f r =>
    obtain ⟨B, ds⟩ := f
    refine ⟨B, ds, r, rfl, ?_⟩
    by_cases h1 : t = [91] ∨ t = [123]
    · have e : stepD t ((B, ds) :: r) = some ((t, []) :: (B, ds) :: r) := if_pos h1
      rw [e] at h
      cases h
      exact .inl ⟨h1, rfl⟩
    by_cases h2 : t = [93] ∨ t = [125]
    · cases r with
      | nil =>
        have e : stepD t [(B, ds)] = none := (if_neg h1).trans (if_pos h2)
        rw [e] at h
        cases h
      | cons f2 r2 =>
        obtain ⟨B2, es⟩ := f2
        have e : stepD t ((B, ds) :: (B2, es) :: r2) = (if whD B (t.headD 0) ds = [] then none else some ((B2, es ++ whD B (t.headD 0) ds) :: r2)) := (if_neg h1).trans (if_pos h2)
        rw [e] at h
        by_cases h3 : whD B (t.headD 0) ds = []
        · rw [if_pos h3] at h
          cases h
        · rw [if_neg h3] at h
          cases h
          exact .inr (.inl ⟨h2, B2, es, r2, rfl, h3, rfl⟩)
    by_cases h3 : B = [123] ∧ ds.length % 2 = 0
    · have e : stepD t ((B, ds) :: r) = some ((B, ds ++ [.str (mk t)]) :: r) := (if_neg h1).trans ((if_neg h2).trans (if_pos h3))
      rw [e] at h
      cases h
      exact .inr (.inr (.inl ⟨h1, h2, h3, rfl⟩))
    · have e : stepD t ((B, ds) :: r) = (if lv t = [] then none else some ((B, ds ++ lv t) :: r)) := (if_neg h1).trans ((if_neg h2).trans (if_neg h3))
      rw [e] at h
      rcases lv_cases t with e2 | ⟨d, e2, _⟩
      · rw [if_pos e2] at h
        cases h
      · rw [if_neg (by rw [e2]; simp), e2] at h
        cases h
        exact .inr (.inr (.inr ⟨h1, h2, h3, d, e2, rfl⟩))
theorem stepD_w {wt : PyData → Nat} {c : Nat} (W : WtOk wt c) {t : List Nat} {st st' : List FrD} (ht : t ≠ []) (h : stepD t st = some st') : wS wt st' ≤ wS wt st + c * t.length := by
  obtain ⟨B, ds, r, rfl, hc⟩ := stepD_inv h
  rcases hc with ⟨_, rfl⟩ | ⟨h2, B2, es, r2, rfl, _, rfl⟩ | ⟨_, _, _, rfl⟩ | ⟨_, _, _, d, e, rfl⟩
  · rw [wS_cons]
    simp
  · have := W.wh B (t.headD 0) ds
    have l1 : t.length = 1 := by rcases h2 with e | e <;> rw [e] <;> rfl
    rw [wS_cons, wS_cons, wS_cons, List.map_append, List.sum_append, l1]
    omega
  · have := W.st t ht
    rw [wS_cons, wS_cons, List.map_append, List.sum_append]
    simp only [List.map_cons, List.map_nil, List.sum_cons, List.sum_nil]
    omega
  · have := W.lf t d ht e
    rw [wS_cons, wS_cons, List.map_append, List.sum_append]
    simp only [List.map_cons, List.map_nil, List.sum_cons, List.sum_nil]
    omega
theorem cnt_ok : WtOk cnt 1 := by
  have p1 : ∀ t : List Nat, t ≠ [] → 1 ≤ 1 * t.length := fun t h => by have := pos_ne h; omega
  refine ⟨fun t d ht e => ?_, fun t ht => p1 t ht, fun ds => ?_, fun es _ => ?_⟩
  · rcases lv_cases t with e2 | ⟨d', e2, h⟩
    · rw [e] at e2; cases e2
    · rw [e] at e2
      cases e2
      rcases h with rfl | rfl | ⟨b, rfl⟩ | ⟨cs, _, _, rfl | rfl⟩ <;> exact p1 t ht
  · rw [cnt_kids]
    show 1 + (ds.map cnt).sum ≤ _
    omega
  · rw [cnt_kids]
    show 1 + (((es.map fun q => (PyData.str q.1, q.2)).map (·.2)).map cnt).sum ≤ _
    rw [List.map_map, List.map_map]
    have : ∀ es : List (Str × PyData), (es.map ((cnt ∘ (fun x : PyData × PyData => x.2)) ∘ fun q : Str × PyData => (PyData.str q.1, q.2))).sum ≤ (es.map fun p => cnt (.str p.1) + cnt p.2).sum := fun es => by
      induction es with
      | nil => exact Nat.le_refl _
      | cons q r ih =>
        rw [List.map_cons, List.map_cons, List.sum_cons, List.sum_cons]
        show cnt q.2 + _ ≤ (cnt (.str q.1) + cnt q.2) + _
        omega
    have := this es
    omega
def w4 (d : PyData) : Nat := (wr d).length + 4
theorem wr_str_len (s : Str) : (wr (.str s)).length = (esc (tl s)).length + 2 := by
  rw [wr_str, List.length_cons, List.length_append, List.length_singleton]
theorem wr_int_len {cs : List Nat} (h : NumText.AllDigits cs) {i : Int} (hi : i = ((NumText.digitsVal cs : Nat) : Int) ∨ i = -((NumText.digitsVal cs : Nat) : Int)) : (wr (.int i)).length ≤ cs.length + 2 := by
  have h1 := dv_fold cs 0 h
  rw [Nat.zero_add, Nat.one_mul] at h1
  have h1 : NumText.digitsVal cs + 1 ≤ 10 ^ cs.length := h1
  have h2 : i.natAbs = NumText.digitsVal cs := by rcases hi with rfl | rfl <;> simp
  have z := PySem.int_text_length_le10 (a := i) (k := cs.length + 1) (by omega) (by rw [h2, Nat.pow_succ]; omega)
  have e : (wr (.int i)).length = (toString i).length := by
    rw [wr_int]
    show ((Str.ofString (toString i)).cps.toList).length = _
    rw [PyProof.Rows.signs_ofString, List.length_map]
    exact String.length_toList
  omega
theorem sum_map_perm {f : Str → Nat} {a b : List Str} (h : a.Perm b) : (a.map f).sum = (b.map f).sum := by
  induction h with
  | nil => rfl
  | cons x _ ih => rw [List.map_cons, List.map_cons, List.sum_cons, List.sum_cons, ih]
  | swap x y l =>
    simp only [List.map_cons, List.sum_cons]
    omega
  | trans _ _ i1 i2 => exact i1.trans i2
theorem w4_dict {es : List (Str × PyData)} (h : (es.map (·.1)).Nodup) : w4 (.dict (es.map fun q => (.str q.1, q.2))) ≤ (es.map fun p => w4 (.str p.1) + w4 p.2).sum + 8 := by
  have ek : ((es.map fun e => (PyData.str e.1, e.2)).map fun p => kS p.1) = es.map (·.1) := by rw [List.map_map]; rfl
  have nd : ((es.map fun e => (PyData.str e.1, e.2)).map fun p => kS p.1).Nodup := by rw [ek]; exact h
  unfold w4
  rw [wr_dictF nd]
  generalize hD : (es.map fun e => (PyData.str e.1, e.2)) = D at nd ek
  have h1 := jn_len (sep := [44, 32]) ((fls D).map (wrow D))
  have h2 : (((fls D).map (wrow D)).map fun x => x.length + ([44, 32] : List Nat).length) = (fls D).map fun k => (wrow D k).length + 2 := by rw [List.map_map]; rfl
  rw [h2, sum_map_perm (fls_perm D), ek, List.map_map] at h1
  have h3 : ((es.map ((fun k => (wrow D k).length + 2) ∘ fun x => x.1))).sum ≤ (es.map fun p => ((wr (.str p.1)).length + 4) + ((wr p.2).length + 4)).sum := by
    have : ∀ e ∈ es, (wrow D e.1).length + 2 ≤ ((wr (.str e.1)).length + 4) + ((wr e.2).length + 4) := fun e he => by
      have hl := lookD_of nd (p := (PyData.str e.1, e.2)) (by rw [← hD]; exact List.mem_map.mpr ⟨e, he, rfl⟩)
      have hl : lookD D e.1 = e.2 := hl
      have := esc_ge (tl e.1)
      rw [wr_str_len]
      unfold wrow
      rw [hl, List.length_append, List.length_cons, List.length_cons]
      omega
    clear h1 h2 hD ek nd h
    induction es with
    | nil => exact Nat.le_refl _
    | cons q r ih =>
      have a := this q List.mem_cons_self
      have b := ih fun e he => this e (List.mem_cons_of_mem _ he)
      rw [List.map_cons, List.map_cons, List.sum_cons, List.sum_cons]
      show ((wrow D q.1).length + 2) + _ ≤ _
      omega
  rw [List.length_cons, List.length_append, List.length_singleton]
  omega
theorem w4_ok : WtOk w4 8 := by
  refine ⟨fun t d ht e => ?_, fun t ht => ?_, fun ds => ?_, fun es h => w4_dict h⟩
  · have := pos_ne ht
    rcases lv_cases t with e2 | ⟨d', e2, h⟩
    · rw [e] at e2; cases e2
    · rw [e] at e2
      cases e2
      unfold w4
      rcases h with rfl | rfl | ⟨b, rfl⟩ | ⟨cs, hcs, hl, h⟩
      · rw [wr_str_len]
        have a := esc_len (tl (mk (uq (t.drop 1))))
        have b := (uq_mem _ (t.drop 1) (Nat.le_refl _)).2
        have e : tl (mk (uq (t.drop 1))) = uq (t.drop 1) := rfl
        rw [e] at a ⊢
        rw [List.length_drop] at b
        omega
      · rw [wr_non]
        show 1 + 4 ≤ _
        omega
      · rw [wr_bool]
        cases b
        · show 2 + 4 ≤ _
          omega
        · show 3 + 4 ≤ _
          omega
      · rcases h with rfl | rfl
        · have := wr_int_len hcs (.inl rfl)
          omega
        · have := wr_int_len hcs (.inr rfl)
          omega
  · have := pos_ne ht
    have a := esc_len (tl (mk t))
    unfold w4
    rw [wr_str_len]
    have e : tl (mk t) = t := rfl
    rw [e] at a ⊢
    omega
  · unfold w4
    have h := jn_len (sep := [44, 32]) (ds.map wr)
    have e : ((ds.map wr).map fun x => x.length + ([44, 32] : List Nat).length) = ds.map fun d => (wr d).length + 2 := by rw [List.map_map]; rfl
    rw [e] at h
    have h2 : (ds.map fun d => (wr d).length + 2).sum ≤ (ds.map fun d => (wr d).length + 4).sum := by
      clear h e
      induction ds with
      | nil => exact Nat.le_refl _
      | cons q r ih =>
        rw [List.map_cons, List.map_cons, List.sum_cons, List.sum_cons]
        omega
    rw [wr_list, List.length_cons, List.length_append, List.length_singleton]
    omega
end K87
set_option Elab.async false
set_option linter.all false
set_option maxRecDepth 100000
set_option maxHeartbeats 8000000
/-! L88R: what the machine makes are good documents of so many parts and signs. -/
namespace K87
open PySem PySem.Spec L2 K00 TL
open PyProof.Rows (envOfC sortedS)
theorem Gd.str {s : Str} (l : s.length ≤ 1000) (h : as7 s = true) : Gd (.str s) := ⟨by simp [isOne], h, l, as7_ok h⟩
theorem name_low7 {s : Str} (h : nameB s = true) : as7 s = true ∧ s.length ≤ 8 := by
  refine ⟨as7_iff.mpr fun c hc => by have := name_low h c hc; omega, ?_⟩
  unfold nameB at h
  obtain ⟨_, h⟩ := He.ba h
  obtain ⟨h, _⟩ := He.ba h
  exact of_decide_eq_true h
theorem lv_good {t : List Nat} (hl : t.length ≤ 300) (lo : ∀ c ∈ t, c < 128) {d : PyData} (h : lv t = [d]) : Gd d := by
  rcases lv_cases t with e | ⟨d', e, z⟩
  · rw [h] at e; cases e
  · rw [h] at e
    cases e
    rcases z with rfl | rfl | ⟨b, rfl⟩ | ⟨cs, hcs, hc, z⟩
    · obtain ⟨a, b⟩ := uq_mem _ (t.drop 1) (Nat.le_refl _)
      rw [List.length_drop] at b
      exact Gd.str (by show (uq (t.drop 1)).length ≤ _; omega) (as7_iff.mpr fun c hc => lo c (List.mem_of_mem_drop (a c hc)))
    · exact ⟨by simp [isOne], trivial, trivial⟩
    · exact ⟨by simp [isOne], trivial, trivial⟩
    · have := dv_log hcs (by omega)
      rcases z with rfl | rfl
      · exact ⟨by simp [isOne], this, trivial⟩
      · refine ⟨by simp [isOne], ?_, trivial⟩
        show (-((NumText.digitsVal cs : Nat) : Int)).natAbs.log2 < 1920
        rw [Int.natAbs_neg]
        exact this
theorem ods_mem {α : Type} {x : α} : ∀ {l : List α}, x ∈ ods l → x ∈ l
  | [_], h => by cases h
  | a :: b :: r, h => by
    rcases List.mem_cons.mp (show x ∈ b :: ods r from h) with rfl | h
    · simp
    · exact List.mem_cons_of_mem _ (List.mem_cons_of_mem _ (ods_mem h))
theorem sum_one {α : Type} : ∀ l : List α, (l.map fun _ => 1).sum = l.length
  | [] => rfl
  | _ :: r => by rw [List.map_cons, List.sum_cons, sum_one r, List.length_cons]; omega
theorem wh_good {B : List Nat} {t : Nat} {ds : List PyData} (hl : ds.length ≤ 1000) (hg : ∀ d ∈ ds, Gd d) : ∀ d ∈ whD B t ds, Gd d := by
  intro d hd
  rcases wh_cases B t ds with e | e | ⟨hk, e⟩
  · rw [e] at hd; cases hd
  · rw [e] at hd
    cases List.mem_singleton.mp hd
    exact ⟨isOne_list fun x hx => (hg x hx).1, iqL_iff.mpr fun x hx => (hg x hx).2.1, hl, smNL_iff.mpr fun x hx => (hg x hx).2.2⟩
  · rw [e] at hd
    cases List.mem_singleton.mp hd
    obtain ⟨h1, h2, h3⟩ := mergeD_all (fun _ => 1) (((evs ds).map kS).zip (ods ds)) [] .nil
    generalize hE : mergeD [] (((evs ds).map kS).zip (ods ds)) = E at h1 h2 h3 ⊢
    have hp : ∀ p ∈ E, nameB p.1 = true ∧ Gd p.2 := fun p hp => by
      rcases h2 p hp with z | z
      · cases z
      · obtain ⟨a, b⟩ := List.of_mem_zip (a := p.1) (b := p.2) z
        obtain ⟨x, hx, e⟩ := List.mem_map.mp a
        refine ⟨?_, hg _ (ods_mem b)⟩
        have := List.all_eq_true.mp hk x hx
        rw [keyB_str this] at this
        rw [← e]
        exact this
    rw [sum_one, sum_one, sum_one] at h3
    have hz : (((evs ds).map kS).zip (ods ds)).length ≤ ds.length := by
      rw [List.length_zip, List.length_map]
      have := evs_len ds
      omega
    refine ⟨isOne_dict fun p hq => ?_, iqK_iff.mpr fun p hq => ?_, ?_, ?_, smNK_iff.mpr fun p hq => ?_⟩
    · obtain ⟨q, hq0, rfl⟩ := List.mem_map.mp hq
      exact ⟨⟨q.1, rfl, (hp q hq0).1⟩, (hp q hq0).2.1⟩
    · obtain ⟨q, hq0, rfl⟩ := List.mem_map.mp hq
      exact (hp q hq0).2.2.1
    · rw [List.length_map]
      simp only [List.length_nil] at h3
      omega
    · rw [List.map_map]
      exact h1
    · obtain ⟨q, hq0, rfl⟩ := List.mem_map.mp hq
      obtain ⟨a, b⟩ := name_low7 (hp q hq0).1
      exact ⟨⟨by omega, as7_ok a⟩, (hp q hq0).2.2.2⟩
inductive Rt : List FrD → Prop
  | root (ds : List PyData) : Rt [([], ds)]
  | up {B : List Nat} {ds : List PyData} {st : List FrD} (h : B = [91] ∨ B = [123]) (r : Rt st) : Rt ((B, ds) :: st)
theorem Rt.set {B : List Nat} {ds es : List PyData} {st : List FrD} (h : Rt ((B, ds) :: st)) : Rt ((B, es) :: st) := by
  cases h with
  | root => exact .root es
  | up h r => exact .up h r
theorem Rt.top {B : List Nat} {ds : List PyData} {st : List FrD} (h : Rt ((B, ds) :: st)) : B.length ≤ 1 := by
  cases h with
  | root => exact Nat.zero_le _
  | up h r => rcases h with rfl | rfl <;> exact Nat.le_refl _
theorem wh_root (t : Nat) (ds : List PyData) : whD [] t ds = [] := by
  unfold whD
  rw [if_neg (by simp), if_pos (.inl (by simp))]
/-- what holds of the machine's frames, so many signs ahead of the end -/
structure Iv (st : List FrD) (m : Nat) : Prop where
  c : wS cnt st + m ≤ 300
  w : wS w4 st + 8 * m ≤ 2400
  g : ∀ f ∈ st, ∀ d ∈ f.2, Gd d
  r : Rt st
  l : st.length + m ≤ 301
theorem Iv.start {m : Nat} (h : m ≤ 300) : Iv [([], [])] m := ⟨by show 0 + m ≤ 300; omega, by show 0 + 8 * m ≤ 2400; omega, fun f hf d hd => by (rw [List.mem_singleton.mp hf] at hd; cases hd), Rt.root [], by show 1 + m ≤ 301; omega⟩
theorem wS_mem {wt : PyData → Nat} {f : FrD} : ∀ {st : List FrD}, f ∈ st → (f.2.map wt).sum ≤ wS wt st
  | (B, ds) :: st, h => by
    rw [wS_cons]
    rcases List.mem_cons.mp h with rfl | h
    · show (ds.map wt).sum ≤ _
      omega
    · have := wS_mem (wt := wt) h
      omega
theorem len_cnt : ∀ ds : List PyData, ds.length ≤ (ds.map cnt).sum
  | [] => Nat.le_refl _
  | d :: r => by
    have := len_cnt r
    have := cnt_pos d
    rw [List.map_cons, List.sum_cons, List.length_cons]
    omega
theorem Iv.len {st : List FrD} {m : Nat} (I : Iv st m) {f : FrD} (h : f ∈ st) : f.2.length ≤ 300 := by
  have := len_cnt f.2
  have := wS_mem (wt := cnt) h
  have := I.c
  omega
theorem Iv.step {st st' : List FrD} {m : Nat} {t : List Nat} (I : Iv st (t.length + m)) (ht : t ≠ []) (lo : ∀ c ∈ t, c < 128) (h : stepD t st = some st') : Iv st' m := by
  have c := stepD_w cnt_ok ht h
  have w := stepD_w w4_ok ht h
  have c0 := I.c
  have w0 := I.w
  have l0 := I.l
  have tp := pos_ne ht
  have tl3 : t.length ≤ 300 := by omega
  have g := I.g
  have r0 := I.r
  have len : ∀ f ∈ st, f.2.length ≤ 1000 := fun f hf => Nat.le_trans (I.len hf) (by decide)
  have up : ∀ {B' : List Nat} {xs : List PyData} {r : List FrD}, (∀ d ∈ xs, Gd d) → (∀ f ∈ r, ∀ d ∈ f.2, Gd d) → ∀ f ∈ (B', xs) :: r, ∀ d ∈ f.2, Gd d := fun h1 h2 f hf => by
    rcases List.mem_cons.mp hf with rfl | hf
    · exact h1
    · exact h2 f hf
  have app : ∀ {xs ys : List PyData}, (∀ d ∈ xs, Gd d) → (∀ d ∈ ys, Gd d) → ∀ d ∈ xs ++ ys, Gd d := fun h1 h2 d hd => (List.mem_append.mp hd).elim (h1 d) (h2 d)
  obtain ⟨B, ds, r, rfl, hc⟩ := stepD_inv h
  have g1 : ∀ d ∈ ds, Gd d := g (B, ds) List.mem_cons_self
  have gr : ∀ f ∈ r, ∀ d ∈ f.2, Gd d := fun f hf => g f (List.mem_cons_of_mem _ hf)
  have l1 : ds.length ≤ 1000 := len (B, ds) List.mem_cons_self
  rw [List.length_cons] at l0
  rcases hc with ⟨h1, rfl⟩ | ⟨h2, B2, es, r2, rfl, _, rfl⟩ | ⟨_, _, _, rfl⟩ | ⟨_, _, _, d, e, rfl⟩
  · exact ⟨by omega, by omega, up (fun _ h => nomatch h) (up g1 gr), .up h1 r0, by rw [List.length_cons, List.length_cons]; omega⟩
  · refine ⟨by omega, by omega, up (app (gr (B2, es) List.mem_cons_self) (wh_good l1 g1)) fun f hf => gr f (List.mem_cons_of_mem _ hf), ?_, by rw [List.length_cons] at l0 ⊢; omega⟩
    cases r0 with
    | up _ r => exact r.set
  · exact ⟨by omega, by omega, up (app g1 fun d hd => by rw [List.mem_singleton.mp hd]; exact Gd.str (by show t.length ≤ _; omega) (as7_iff.mpr lo)) gr, r0.set, by rw [List.length_cons]; omega⟩
  · exact ⟨by omega, by omega, up (app g1 fun d' hd => by rw [List.mem_singleton.mp hd]; exact lv_good tl3 lo e) gr, r0.set, by rw [List.length_cons]; omega⟩
theorem runD_iv : ∀ (ts : List (List Nat)) (st st' : List FrD) (m : Nat), (∀ t ∈ ts, t ≠ [] ∧ ∀ c ∈ t, c < 128) → Iv st ((ts.map List.length).sum + m) → runD ts st = some st' → Iv st' m
  | [], st, st', m, _, I, h => by
    cases h
    have e : (([] : List (List Nat)).map List.length).sum + m = m := Nat.zero_add m
    rw [e] at I
    exact I
  | t :: ts, st, st', m, ht, I, h => by
    obtain ⟨h1, h2⟩ := ht t List.mem_cons_self
    cases q : stepD t st with
    | none =>
      unfold runD at h
      rw [q] at h
      cases h
    | some s1 =>
      unfold runD at h
      rw [q] at h
      rw [List.map_cons, List.sum_cons, Nat.add_assoc] at I
      exact runD_iv ts s1 st' m (fun t ht' => ht t (List.mem_cons_of_mem _ ht')) (I.step h1 h2 q) h
theorem root_in : ∀ {st : List FrD}, Rt st → ∃ f ∈ st, f.2 = rootD st
  | [f], _ => ⟨f, List.mem_singleton.mpr rfl, rfl⟩
  | _ :: f :: r, h => by
    cases h with
    | up _ r' =>
      obtain ⟨g, hg, e⟩ := root_in r'
      exact ⟨g, List.mem_cons_of_mem _ hg, e⟩
theorem Lex.all {l : List Nat} {ts : List (List Nat)} (h : Lex l ts) : (∀ t ∈ ts, t ≠ [] ∧ ∀ c ∈ t, c ∈ l) ∧ (ts.map List.length).sum = l.length := by
  induction h with
  | nil => exact ⟨(fun _ h => nomatch h), rfl⟩
  | @cons l ts hne r ih =>
    obtain ⟨i1, i2⟩ := ih
    have p := tE_pos hne
    have lp := pos_ne hne
    refine ⟨fun t ht => ?_, ?_⟩
    · rcases List.mem_cons.mp ht with rfl | ht
      · refine ⟨fun z => ?_, fun c hc => List.mem_of_mem_take hc⟩
        have := congrArg List.length z
        rw [List.length_take] at this
        simp only [List.length_nil] at this
        omega
      · exact ⟨(i1 t ht).1, fun c hc => List.mem_of_mem_drop ((i1 t ht).2 c hc)⟩
    · rw [List.map_cons, List.sum_cons, i2, List.length_take, List.length_drop]
      omega
theorem filt_sum {p : List Nat → Bool} : ∀ ts : List (List Nat), ((ts.filter p).map List.length).sum ≤ (ts.map List.length).sum
  | [] => Nat.le_refl _
  | t :: r => by
    have := filt_sum (p := p) r
    rw [List.map_cons, List.sum_cons]
    by_cases h : p t = true
    · rw [List.filter_cons_of_pos h, List.map_cons, List.sum_cons]
      omega
    · rw [List.filter_cons_of_neg h]
      omega
theorem lex_ex : ∀ (n : Nat) (l : List Nat), l.length ≤ n → ∃ ts, Lex l ts
  | _, [], _ => ⟨[], .nil⟩
  | 0, _ :: _, h => absurd h (by simp)
  | n + 1, c :: r, h => by
    have p := tE_pos (l := c :: r) (by simp)
    obtain ⟨ts, z⟩ := lex_ex n ((c :: r).drop (tE (c :: r))) (by rw [List.length_drop]; omega)
    exact ⟨_, .cons (by simp) z⟩
theorem lex_one {l : List Nat} {ts : List (List Nat)} (h : Lex l ts) : ∀ {us : List (List Nat)}, Lex l us → ts = us := by
  induction h with
  | nil =>
    intro us h2
    cases h2 with
    | nil => rfl
    | cons h _ => exact absurd rfl h
  | cons h r ih =>
    intro us h2
    cases h2 with
    | nil => exact absurd rfl h
    | cons h' r' => rw [ih r']
/-- what is read of a text's tokens -/
theorem loosD_good {l : List Nat} {ts : List (List Nat)} (hl : l.length ≤ 300) (lo : ∀ c ∈ l, c < 128) (h : Lex l ts) : ∀ d ∈ loosD (ts.filter keepN), Tz d ∧ cnt d ≤ 900 ∧ Gd d := by
  intro d hd
  obtain ⟨h1, h2⟩ := h.all
  unfold loosD at hd
  cases q : runD (ts.filter keepN) [([], [])] with
  | none => rw [q] at hd; cases hd
  | some st =>
    rw [q] at hd
    have fs := filt_sum (p := keepN) ts
    have I := runD_iv (ts.filter keepN) _ st 0 (fun t ht => by
      obtain ⟨a, b⟩ := h1 t (List.mem_filter.mp ht).1
      exact ⟨a, fun c hc => lo c (b c hc)⟩) (Iv.start (by omega)) q
    obtain ⟨f, hf, e⟩ := root_in I.r
    have hd' : d ∈ f.2 := by rw [e]; exact hd
    have G := I.g f hf d hd'
    have one : ∀ {wt : PyData → Nat}, wt d ≤ wS wt st := fun {wt} => by
      refine Nat.le_trans ?_ (wS_mem (wt := wt) hf)
      generalize f.2 = ds at hd'
      induction ds with
      | nil => cases hd'
      | cons x r ih =>
        rw [List.map_cons, List.sum_cons]
        rcases List.mem_cons.mp hd' with rfl | z
        · omega
        · have := ih z
          omega
    have c := one (wt := cnt)
    have w := one (wt := w4)
    have Ic := I.c
    have Iw := I.w
    unfold w4 at w Iw
    exact ⟨⟨G.1, G.2.2, G.2.1, by omega⟩, by omega, G⟩
end K87
set_option Elab.async false
set_option linter.all false
set_option maxRecDepth 100000
set_option maxHeartbeats 8000000
/-! L88S: the text of a good document is read as one of the same text. -/
namespace K87
open PySem PySem.Spec L2 K00 TL
open PyProof.Rows (envOfC sortedS)
def qt (l : List Nat) : List Nat := 34 :: (esc l ++ [34])
theorem qt_len (l : List Nat) : (qt l).length = (esc l).length + 2 := by
  unfold qt
  rw [List.length_cons, List.length_append, List.length_singleton]
theorem stepD_open {t B : List Nat} {ds : List PyData} {st : List FrD} (h : t = [91] ∨ t = [123]) : stepD t ((B, ds) :: st) = some ((t, []) :: (B, ds) :: st) := if_pos h
theorem stepD_close {t B B2 : List Nat} {ds es : List PyData} {st : List FrD} (h1 : ¬ (t = [91] ∨ t = [123])) (h2 : t = [93] ∨ t = [125]) :
    stepD t ((B, ds) :: (B2, es) :: st) = (if whD B (t.headD 0) ds = [] then none else some ((B2, es ++ whD B (t.headD 0) ds) :: st)) := (if_neg h1).trans (if_pos h2)
theorem stepD_field {t B : List Nat} {ds : List PyData} {st : List FrD} (h1 : ¬ (t = [91] ∨ t = [123])) (h2 : ¬ (t = [93] ∨ t = [125])) (h3 : B = [123] ∧ ds.length % 2 = 0) : stepD t ((B, ds) :: st) = some ((B, ds ++ [.str (mk t)]) :: st) := (if_neg h1).trans ((if_neg h2).trans (if_pos h3))
theorem stepD_leaf {t B : List Nat} {ds : List PyData} {st : List FrD} (h1 : ¬ (t = [91] ∨ t = [123])) (h2 : ¬ (t = [93] ∨ t = [125])) (h3 : ¬ (B = [123] ∧ ds.length % 2 = 0)) : stepD t ((B, ds) :: st) = (if lv t = [] then none else some ((B, ds ++ lv t) :: st)) := (if_neg h1).trans ((if_neg h2).trans (if_neg h3))
def okR (rest : List Nat) : Prop := rest = [] ∨ ∃ c r, rest = c :: r ∧ c ∈ marksW
theorem wE_run : ∀ {r rest : List Nat}, (∀ c ∈ r, c ∉ marksW ∧ c ≠ 34) → okR rest → wE (r ++ rest) = r.length
  | [], rest, _, h => by
    rcases h with rfl | ⟨c, r, rfl, hc⟩
    · rfl
    · exact wE_stop r (.inl hc)
  | c :: r, rest, h, ok => by
    have hc := h c List.mem_cons_self
    show wE (c :: (r ++ rest)) = _
    rw [wE_go _ hc.1 hc.2, wE_run (fun d hd => h d (List.mem_cons_of_mem _ hd)) ok, List.length_cons]
    omega
theorem tE_word {c : Nat} {r rest : List Nat} (h : ∀ d ∈ c :: r, d ∉ marksW ∧ d ≠ 34) (ok : okR rest) : tE ((c :: r) ++ rest) = (c :: r).length := by
  have hc := h c List.mem_cons_self
  have e := wE_run (fun d hd => h d (List.mem_cons_of_mem _ hd)) ok
  show tE (c :: (r ++ rest)) = _
  simp [tE, hc.1, hc.2, e]
  omega
theorem tE_mark {c : Nat} {rest : List Nat} (h : c ∈ marksW) : tE ([c] ++ rest) = ([c] : List Nat).length := by
  have h34 : c ≠ 34 := fun z => by
    rw [z] at h
    exact absurd h (by decide)
  show tE (c :: rest) = 1
  simp [tE, h, h34]
theorem sE_esc : ∀ (l rest : List Nat), sE (esc l ++ (34 :: rest)) = (esc l).length
  | [], rest => sE_quote rest
  | c :: l, rest => by
    have ih := sE_esc l rest
    by_cases h : c = 34 ∨ c = 92
    · have e : esc (c :: l) = 92 :: c :: esc l := by rw [esc_cons]; rw [if_pos h]; rfl
      rw [e]
      show sE (92 :: (c :: (esc l ++ (34 :: rest)))) = _
      rw [sE_stroke _ _ rfl]
      show 2 + sE (esc l ++ (34 :: rest)) = _
      rw [ih, List.length_cons, List.length_cons]
      omega
    · have e : esc (c :: l) = c :: esc l := by rw [esc_cons]; rw [if_neg h]; rfl
      rw [e]
      show sE (c :: (esc l ++ (34 :: rest))) = _
      rw [sE_other _ (fun z => h (.inl z)) (fun z => h (.inr z)), ih, List.length_cons]
      omega
theorem tE_str (l rest : List Nat) : tE (qt l ++ rest) = (qt l).length := by
  have e : qt l ++ rest = 34 :: (esc l ++ (34 :: rest)) := by
    unfold qt
    simp
  rw [e, qt_len]
  show tE (34 :: (esc l ++ (34 :: rest))) = _
  simp only [tE, if_true]
  rw [sE_esc]
  omega
theorem lex1 {t rest : List Nat} {tr : List (List Nat)} (hne : t ≠ []) (h : tE (t ++ rest) = t.length) (r : Lex rest tr) : Lex (t ++ rest) (t :: tr) := by
  have z := Lex.cons (l := t ++ rest) (ts := tr) (fun e => hne (List.append_eq_nil_iff.mp e).1) (by rw [h, List.drop_left]; exact r)
  rw [h, List.take_left] at z
  exact z
theorem head_in {c : Nat} {r : List Nat} (h : c ∉ marksW) : (c :: r) ∉ ([[91], [123], [93], [125]] : List (List Nat)) ∧ keepN (c :: r) = true := by
  have e2 : marksW = [91, 93, 123, 125, 44, 58, 32] := rfl
  rw [e2] at h
  simp only [List.mem_cons, List.not_mem_nil, or_false, not_or] at h
  refine ⟨fun hm => ?_, ?_⟩
  · simp only [List.mem_cons, List.not_mem_nil, or_false, List.cons.injEq] at hm
    omega
  · unfold keepN
    rw [decide_eq_false (fun hm => ?_)]
    · rfl
    · simp only [List.mem_cons, List.not_mem_nil, or_false, List.cons.injEq] at hm
      omega
theorem numL_again (n : Nat) : numL (NumText.digitsVal (numL n)) = numL n ∧ (numL n).all digC = true ∧ (0 < n → 0 < NumText.digitsVal (numL n)) := by
  have ad : NumText.AllDigits (numL n) := numL_digits n
  refine ⟨numL_of ad (numL_ne n) fun h => ?_, List.all_eq_true.mpr fun c hc => ?_, fun hn => ?_⟩
  · by_cases hn : 0 < n
    · obtain ⟨c, r, e, hc⟩ := numL_head n hn
      rw [e] at h
      cases h
      exact absurd rfl hc
    · have e0 : n = 0 := by omega
      subst e0
      rw [numL_lt (by decide)]
      exact Nat.le_refl _
  · have := numL_digits n c hc
    exact Bool.and_eq_true_iff.mpr ⟨decide_eq_true this.1, decide_eq_true this.2⟩
  · obtain ⟨c, r, e, hc⟩ := numL_head n hn
    rw [e] at ad ⊢
    have := ad c List.mem_cons_self
    exact NumText.digitsVal_pos (by omega)
/-- a leaf's token -/
theorem leaf_tokG {d : PyData} (od : isOne d = true) (nL : isL d = false) (nK : isK d = false) :
    wr d ∉ ([[91], [123], [93], [125]] : List (List Nat)) ∧ keepN (wr d) = true ∧ wr d ≠ [] ∧ (∀ rest, okR rest → tE (wr d ++ rest) = (wr d).length) ∧ ∃ d', lv (wr d) = [d'] ∧ wr d' = wr d := by
  cases d with
  | none =>
    rw [wr_non]
    exact ⟨(head_in (by decide)).1, (head_in (by decide)).2, by decide, fun rest ok => tE_word (by decide) ok, .none, rfl, wr_non⟩
  | bool b =>
    rw [wr_bool]
    cases b with
    | true => exact ⟨(head_in (by decide)).1, (head_in (by decide)).2, by decide, fun rest ok => tE_word (by decide) ok, .bool true, rfl, wr_bool true⟩
    | false => exact ⟨(head_in (by decide)).1, (head_in (by decide)).2, by decide, fun rest ok => tE_word (by decide) ok, .bool false, rfl, wr_bool false⟩
  | int i =>
    have e2 : marksW = [91, 93, 123, 125, 44, 58, 32] := rfl
    have dg : ∀ n, ∀ e ∈ numL n, e ∉ marksW ∧ e ≠ 34 := fun n e he => by
      have := numL_digits n e he
      rw [e2]
      simp only [List.mem_cons, List.not_mem_nil, or_false, not_or]
      omega
    cases i with
    | ofNat n =>
      have e : wr (.int (Int.ofNat n)) = numL n := tl_num n
      obtain ⟨a1, a2, a3⟩ := numL_again n
      have hw : wr (.int ((NumText.digitsVal (numL n) : Nat) : Int)) = numL n := (tl_num _).trans a1
      have dn := numL_digits n
      rw [e]
      have dgn := dg n
      cases q : numL n with
      | nil => exact absurd q (numL_ne n)
      | cons c r =>
        rw [q] at dgn a2 hw dn
        have hc := dn c List.mem_cons_self
        have hm := dgn c List.mem_cons_self
        refine ⟨(head_in hm.1).1, (head_in hm.1).2, by simp, fun rest ok => tE_word dgn ok, _, ?_, hw⟩
        unfold lv
        rw [if_neg (fun z => by cases z; omega), if_neg (fun z => by cases z; omega), if_neg (fun z => by cases z; omega), if_neg (fun z => by cases z; omega), if_neg (fun z => by cases z; omega), if_pos a2]
    | negSucc k =>
      have e : wr (.int (Int.negSucc k)) = 45 :: numL (k + 1) := tl_neg8 k
      obtain ⟨a1, a2, a3⟩ := numL_again (k + 1)
      rw [e]
      have all : ∀ e ∈ 45 :: numL (k + 1), e ∉ marksW ∧ e ≠ 34 := fun e he => by
        rcases List.mem_cons.mp he with rfl | he
        · decide
        · exact dg _ e he
      refine ⟨(head_in (all 45 List.mem_cons_self).1).1, (head_in (all 45 List.mem_cons_self).1).2, by simp, fun rest ok => tE_word all ok, .int (-((NumText.digitsVal (numL (k + 1)) : Nat) : Int)), ?_, ?_⟩
      · unfold lv
        rw [if_neg (fun z => by cases z), if_neg (fun z => numL_ne (k + 1) (List.cons.inj z).2), if_neg (fun z => by cases z), if_neg (fun z => by cases z), if_pos (show (45 :: numL (k + 1)).head? = some 45 from rfl)]
        exact if_pos a2
      · rw [wr_negI (a3 (Nat.succ_pos k)), a1]
  | str s =>
    have e : wr (.str s) = qt (tl s) := rfl
    rw [e]
    refine ⟨(head_in (by decide)).1, (head_in (by decide)).2, by unfold qt; simp, fun rest _ => tE_str _ _, .str s, ?_, e⟩
    have e3 : qt (tl s) = 34 :: (esc (tl s) ++ [34]) := rfl
    rw [e3]
    unfold lv
    rw [if_pos (show (34 :: (esc (tl s) ++ [34])).head? = some 34 from rfl)]
    show [PyData.str (mk (uq (esc (tl s) ++ [34])))] = _
    have em : mk (tl s) = s := mk_tl s
    rw [uq_esc, em]
  | tuple xs => cases od
  | list xs => cases nL
  | dict xs => cases nK
/-- a field's name as a token -/
theorem name_tok {k : Str} (h : nameB k = true) : tl k ∉ ([[91], [123], [93], [125]] : List (List Nat)) ∧ keepN (tl k) = true ∧ tl k ≠ [] ∧ ∀ rest, okR rest → tE (tl k ++ rest) = (tl k).length := by
  unfold nameB at h
  obtain ⟨h1, h⟩ := He.ba h
  obtain ⟨_, h2⟩ := He.ba h
  have l1 : 1 ≤ k.length := of_decide_eq_true h1
  rw [len_tl] at l1
  have all : ∀ e ∈ tl k, e ∉ marksW ∧ e ≠ 34 := fun e he => by
    have := List.all_eq_true.mp h2 e he
    have hh : ∀ e ∈ LET.cps.toList, e ∉ marksW ∧ e ≠ 34 := by decide +kernel
    exact hh e (by simpa using this)
  cases q : tl k with
  | nil => rw [q] at l1; simp at l1
  | cons c r =>
    rw [q] at all
    exact ⟨(head_in (all c List.mem_cons_self).1).1, (head_in (all c List.mem_cons_self).1).2, by simp, fun rest ok => tE_word all ok⟩
/-- its text is read as one of the same text -/
def RdsD (d : PyData) : Prop := ∃ ts d', wr d' = wr d ∧ (∀ rest tr, okR rest → Lex rest tr → Lex (wr d ++ rest) (ts ++ tr)) ∧
  ∀ B es st rest, (B = [123] → es.length % 2 = 1) → runD (ts.filter keepN ++ rest) ((B, es) :: st) = runD rest ((B, es ++ [d']) :: st)
theorem not_open {t : List Nat} (h : t ∉ ([[91], [123], [93], [125]] : List (List Nat))) : ¬ (t = [91] ∨ t = [123]) ∧ ¬ (t = [93] ∨ t = [125]) := by
  simp only [List.mem_cons, List.not_mem_nil, or_false, not_or] at h
  obtain ⟨a, b, c, d⟩ := h
  exact ⟨fun z => z.elim a b, fun z => z.elim c d⟩
theorem rdsD_leaf {d : PyData} (od : isOne d = true) (nL : isL d = false) (nK : isK d = false) : RdsD d := by
  obtain ⟨h1, h2, h3, h4, d', h5, h6⟩ := leaf_tokG od nL nK
  obtain ⟨n1, n2⟩ := not_open h1
  refine ⟨[wr d], d', h6, fun rest tr ok r => lex1 h3 (h4 rest ok) r, fun B es st rest hB => ?_⟩
  rw [List.filter_cons_of_pos h2]
  show (stepD (wr d) ((B, es) :: st)).bind (runD rest) = _
  have e : stepD (wr d) ((B, es) :: st) = some ((B, es ++ lv (wr d)) :: st) := by
    rw [stepD_leaf n1 n2 (fun z => by have := hB z.1; omega), if_neg (by rw [h5]; simp)]
  rw [e, h5]
  rfl
theorem ok_mark {c : Nat} {r : List Nat} (h : c ∈ marksW) : okR ([c] ++ r) := .inr ⟨c, r, rfl, h⟩
theorem rdsD_items : ∀ {xs : List PyData}, (∀ x ∈ xs, RdsD x) → ∃ ts ds', ds'.map wr = xs.map wr ∧ (∀ rest tr, okR rest → Lex rest tr → Lex (jn [44, 32] (xs.map wr) ++ rest) (ts ++ tr)) ∧
    ∀ acc st rest, runD (ts.filter keepN ++ rest) (([91], acc) :: st) = runD rest (([91], acc ++ ds') :: st)
  | [], _ => ⟨[], [], rfl, fun rest tr _ r => r, fun acc st rest => by rw [List.append_nil]; rfl⟩
  | [x], h => by
    obtain ⟨ts, d', tm, lx, rn⟩ := h x List.mem_cons_self
    exact ⟨ts, [d'], congrArg (fun a => [a]) tm, lx, fun acc st rest => rn [91] acc st rest (fun z => by cases z)⟩
  | x :: y :: r, h => by
    obtain ⟨ts1, d', tm, lx, rn⟩ := h x List.mem_cons_self
    obtain ⟨ts2, ds', tms, lxs, rns⟩ := rdsD_items (xs := y :: r) fun z hz => h z (List.mem_cons_of_mem _ hz)
    refine ⟨ts1 ++ ([44] :: [32] :: ts2), d' :: ds', by rw [List.map_cons, List.map_cons, tm, tms], fun rest tr ok lr => ?_, fun acc st rest => ?_⟩
    · have e : jn [44, 32] ((x :: y :: r).map wr) ++ rest = wr x ++ ([44] ++ ([32] ++ (jn [44, 32] ((y :: r).map wr) ++ rest))) := by
        show (wr x ++ [44, 32] ++ jn [44, 32] ((y :: r).map wr)) ++ rest = _
        simp
      rw [e, List.append_assoc]
      exact lx _ _ (ok_mark (by decide)) (lex1 (by decide) (tE_mark (by decide)) (lex1 (by decide) (tE_mark (by decide)) (lxs rest tr ok lr)))
    · rw [List.filter_append, List.append_assoc, rn [91] acc st _ (fun z => by cases z)]
      have e : (([44] :: [32] :: ts2).filter keepN) = ts2.filter keepN := by
        rw [List.filter_cons_of_neg (by decide), List.filter_cons_of_neg (by decide)]
      rw [e, rns, List.append_assoc]
      rfl
theorem rdsD_list {xs : List PyData} (h : ∀ x ∈ xs, RdsD x) : RdsD (.list xs) := by
  obtain ⟨ts, ds', tms, lx, rn⟩ := rdsD_items h
  refine ⟨[91] :: (ts ++ [[93]]), .list ds', by rw [wr_list, wr_list, tms], fun rest tr ok lr => ?_, fun B es st rest hB => ?_⟩
  · have e : wr (.list xs) ++ rest = [91] ++ (jn [44, 32] (xs.map wr) ++ ([93] ++ rest)) := by
      rw [wr_list]
      simp
    rw [e]
    have e2 : ([91] :: (ts ++ [[93]])) ++ tr = [91] :: (ts ++ ([93] :: tr)) := by simp
    rw [e2]
    exact lex1 (by decide) (tE_mark (by decide)) (lx _ _ (ok_mark (by decide)) (lex1 (by decide) (tE_mark (by decide)) lr))
  · have e : (([91] :: (ts ++ [[93]])).filter keepN) ++ rest = [91] :: (ts.filter keepN ++ ([93] :: rest)) := by
      rw [List.filter_cons_of_pos (by decide), List.filter_append, List.filter_cons_of_pos (by decide)]
      simp
    rw [e]
    show (stepD [91] ((B, es) :: st)).bind (runD (ts.filter keepN ++ ([93] :: rest))) = _
    have s1 : stepD [91] ((B, es) :: st) = some (([91], []) :: (B, es) :: st) := stepD_open (.inl rfl)
    rw [s1, Option.bind_some, rn, List.nil_append]
    show (stepD [93] (([91], ds') :: (B, es) :: st)).bind (runD rest) = _
    have wh : whD [91] (([93] : List Nat).headD 0) ds' = [.list ds'] := if_pos rfl
    have s2 : stepD [93] (([91], ds') :: (B, es) :: st) = some ((B, es ++ [.list ds']) :: st) := by
      rw [stepD_close (by decide) (.inl rfl), wh, if_neg (by simp)]
    rw [s2]
    rfl
def altD : List (Str × PyData) → List PyData
  | [] => []
  | (k, d) :: r => .str k :: d :: altD r
theorem altD_evs : ∀ es : List (Str × PyData), evs (altD es) = es.map (fun e => .str e.1) ∧ ods (altD es) = es.map (·.2) ∧ (altD es).length % 2 = 0
  | [] => ⟨rfl, rfl, rfl⟩
  | (k, d) :: r => by
    obtain ⟨a, b, c⟩ := altD_evs r
    refine ⟨?_, ?_, ?_⟩
    · show PyData.str k :: evs (altD r) = _
      rw [a]
      rfl
    · show d :: ods (altD r) = _
      rw [b]
      rfl
    · show ((altD r).length + 1 + 1) % 2 = 0
      omega
theorem zip_pairs : ∀ es : List (Str × PyData), ((es.map (fun e => PyData.str e.1)).map kS).zip (es.map (·.2)) = es
  | [] => rfl
  | (k, d) :: r => by
    show (k, d) :: _ = _
    exact congrArg _ (zip_pairs r)
theorem whD_alt {es : List (Str × PyData)} (hn : (es.map (·.1)).Nodup) (hk : ∀ e ∈ es, nameB e.1 = true) : whD [123] 125 (altD es) = [.dict (es.map fun e => (.str e.1, e.2))] := by
  obtain ⟨a, b, c⟩ := altD_evs es
  unfold whD
  rw [if_neg (by decide), if_neg, a, b, zip_pairs, mergeD_new es [] hn, List.nil_append]
  rintro (z | z | z)
  · exact z rfl
  · omega
  · rw [a] at z
    have : (es.map (fun e => PyData.str e.1)).all keyB = true := List.all_eq_true.mpr fun x hx => by
      obtain ⟨e, he, rfl⟩ := List.mem_map.mp hx
      exact hk e he
    rw [this] at z
    cases z
theorem altD_append : ∀ (a b : List (Str × PyData)), altD (a ++ b) = altD a ++ altD b
  | [], _ => rfl
  | (k, d) :: r, b => by
    show PyData.str k :: d :: altD (r ++ b) = _
    rw [altD_append r b]
    rfl
theorem rdsD_fields {ds : List (PyData × PyData)} : ∀ {ks : List Str}, (∀ k ∈ ks, nameB k = true ∧ RdsD (lookD ds k)) → ∃ (ts : List (List Nat)) (es : List (Str × PyData)), es.map (·.1) = ks ∧ (∀ e ∈ es, wr e.2 = wr (lookD ds e.1)) ∧ (∀ rest tr, okR rest → Lex rest tr → Lex (jn [44, 32] (ks.map (wrow ds)) ++ rest) (ts ++ tr)) ∧
    ∀ acc st rest, acc.length % 2 = 0 → runD (ts.filter keepN ++ rest) (([123], acc) :: st) = runD rest (([123], acc ++ altD es) :: st)
  | [], _ => ⟨[], [], rfl, (fun _ h => nomatch h), fun rest tr _ r => r, fun acc st rest _ => by
    show runD rest (([123], acc) :: st) = runD rest (([123], acc ++ []) :: st)
    rw [List.append_nil]⟩
  | k :: ks, h => by
    obtain ⟨hn, ts1, d', tm, lx, rn⟩ := h k List.mem_cons_self
    obtain ⟨n4, nk, nne, nte⟩ := name_tok hn
    obtain ⟨m1, m2⟩ := not_open n4
    obtain ⟨ts2, es, ek, tms, lxs, rns⟩ := rdsD_fields (ks := ks) fun z hz => h z (List.mem_cons_of_mem _ hz)
    have row : ∀ rest tr, okR rest → Lex rest tr → Lex (wrow ds k ++ rest) ((tl k :: [58] :: [32] :: ts1) ++ tr) := fun rest tr ok lr => by
      have e : wrow ds k ++ rest = tl k ++ ([58] ++ ([32] ++ (wr (lookD ds k) ++ rest))) := by
        unfold wrow
        simp
      rw [e]
      exact lex1 nne (nte _ (ok_mark (by decide))) (lex1 (by decide) (tE_mark (by decide)) (lex1 (by decide) (tE_mark (by decide)) (lx rest tr ok lr)))
    have run : ∀ acc st rest, acc.length % 2 = 0 → runD ((tl k :: [58] :: [32] :: ts1).filter keepN ++ rest) (([123], acc) :: st) = runD rest (([123], acc ++ [.str k, d']) :: st) := fun acc st rest ha => by
      rw [List.filter_cons_of_pos nk, List.filter_cons_of_neg (by decide), List.filter_cons_of_neg (by decide)]
      show (stepD (tl k) (([123], acc) :: st)).bind (runD (ts1.filter keepN ++ rest)) = _
      have s1 : stepD (tl k) (([123], acc) :: st) = some (([123], acc ++ [.str k]) :: st) := by
        have em : mk (tl k) = k := mk_tl k
        rw [stepD_field m1 m2 ⟨rfl, ha⟩]
      rw [s1, Option.bind_some, rn [123] _ st rest (fun _ => by rw [List.length_append, List.length_singleton]; omega), List.append_assoc]
      rfl
    have tmm : ∀ e ∈ (k, d') :: es, wr e.2 = wr (lookD ds e.1) := fun e he => by
      rcases List.mem_cons.mp he with z | z
      · rw [z]; exact tm
      · exact tms e z
    cases ks with
    | nil =>
      have : es = [] := List.map_eq_nil_iff.mp ek
      subst this
      exact ⟨tl k :: [58] :: [32] :: ts1, [(k, d')], rfl, tmm, row, fun acc st rest ha => run acc st rest ha⟩
    | cons k2 ks2 =>
      refine ⟨(tl k :: [58] :: [32] :: ts1) ++ ([44] :: [32] :: ts2), (k, d') :: es, by rw [List.map_cons, ek], tmm, fun rest tr ok lr => ?_, fun acc st rest ha => ?_⟩
      · have e : jn [44, 32] ((k :: k2 :: ks2).map (wrow ds)) ++ rest = wrow ds k ++ ([44] ++ ([32] ++ (jn [44, 32] ((k2 :: ks2).map (wrow ds)) ++ rest))) := by
          show (wrow ds k ++ [44, 32] ++ jn [44, 32] ((k2 :: ks2).map (wrow ds))) ++ rest = _
          simp
        rw [e, List.append_assoc]
        exact row _ _ (ok_mark (by decide)) (lex1 (by decide) (tE_mark (by decide)) (lex1 (by decide) (tE_mark (by decide)) (lxs rest tr ok lr)))
      · rw [List.filter_append, List.append_assoc, run acc st _ ha]
        have e : (([44] :: [32] :: ts2).filter keepN) = ts2.filter keepN := by
          rw [List.filter_cons_of_neg (by decide), List.filter_cons_of_neg (by decide)]
        rw [e, rns _ st rest (by rw [List.length_append]; show (acc.length + 2) % 2 = 0; omega), List.append_assoc]
        rfl
theorem es_keys (es : List (Str × PyData)) : ((es.map fun e => (PyData.str e.1, e.2)).map fun p => kS p.1) = es.map (·.1) := by
  rw [List.map_map]
  rfl
theorem rdsD_dict {ds : List (PyData × PyData)} (od : isOne (.dict ds) = true) (sm : SmN 1000 (.dict ds)) (h : ∀ k ∈ ds.map (fun p => kS p.1), RdsD (lookD ds k)) : RdsD (.dict ds) := by
  obtain ⟨s1, s2, s3⟩ := sm
  have hkey : ∀ k ∈ fls ds, nameB k = true ∧ RdsD (lookD ds k) := fun k hk => by
    have hm := (fls_perm ds).mem_iff.mp hk
    exact ⟨(Tz.key od hm).1, h k hm⟩
  obtain ⟨ts, es, ek, tms, lx, rn⟩ := rdsD_fields hkey
  have knd : (es.map (·.1)).Nodup := by rw [ek]; exact (fls_perm ds).nodup_iff.mpr s2
  have hnm : ∀ e ∈ es, nameB e.1 = true := fun e he => (hkey e.1 (by rw [← ek]; exact List.mem_map.mpr ⟨e, he, rfl⟩)).1
  have nd2 : ((es.map fun e => (PyData.str e.1, e.2)).map fun p => kS p.1).Nodup := by rw [es_keys]; exact knd
  refine ⟨[123] :: (ts ++ [[125]]), .dict (es.map fun e => (PyData.str e.1, e.2)), ?_, fun rest tr ok lr => ?_, fun B es0 st rest hB => ?_⟩
  · rw [wr_dict nd2 (ys := fls ds) (by rw [es_keys, ek]) (fls_sorted ds), wr_dictF s2]
    congr 3
    refine List.map_congr_left fun k hk => ?_
    rw [← ek] at hk
    obtain ⟨e, he, rfl⟩ := List.mem_map.mp hk
    have := lookD_of nd2 (p := (PyData.str e.1, e.2)) (List.mem_map.mpr ⟨e, he, rfl⟩)
    have e2 : lookD (es.map fun e => (PyData.str e.1, e.2)) e.1 = e.2 := this
    unfold wrow
    rw [e2, tms e he]
  · have e : wr (.dict ds) ++ rest = [123] ++ (jn [44, 32] ((fls ds).map (wrow ds)) ++ ([125] ++ rest)) := by
      rw [wr_dictF s2]
      simp
    rw [e]
    have e2 : ([123] :: (ts ++ [[125]])) ++ tr = [123] :: (ts ++ ([125] :: tr)) := by simp
    rw [e2]
    exact lex1 (by decide) (tE_mark (by decide)) (lx _ _ (ok_mark (by decide)) (lex1 (by decide) (tE_mark (by decide)) lr))
  · have e : (([123] :: (ts ++ [[125]])).filter keepN) ++ rest = [123] :: (ts.filter keepN ++ ([125] :: rest)) := by
      rw [List.filter_cons_of_pos (by decide), List.filter_append, List.filter_cons_of_pos (by decide)]
      simp
    rw [e]
    show (stepD [123] ((B, es0) :: st)).bind (runD (ts.filter keepN ++ ([125] :: rest))) = _
    have st1 : stepD [123] ((B, es0) :: st) = some (([123], []) :: (B, es0) :: st) := stepD_open (.inr rfl)
    rw [st1, Option.bind_some, rn _ _ _ rfl, List.nil_append]
    show (stepD [125] (([123], altD es) :: (B, es0) :: st)).bind (runD rest) = _
    have wh : whD [123] (([125] : List Nat).headD 0) (altD es) = [.dict (es.map fun e => (.str e.1, e.2))] := whD_alt knd hnm
    have st2 : stepD [125] (([123], altD es) :: (B, es0) :: st) = some ((B, es0 ++ [.dict (es.map fun e => (.str e.1, e.2))]) :: st) := by
      rw [stepD_close (by decide) (.inr rfl), wh, if_neg (by simp)]
    rw [st2]
    rfl
theorem rdsD : ∀ (n : Nat) (d : PyData), d.depth ≤ n → isOne d = true → SmN 1000 d → RdsD d := by
  intro n
  induction n with
  | zero =>
    intro d hd od sm
    cases d with
    | list xs => simp [PyData.depth] at hd
    | dict ds => simp [PyData.depth] at hd
    | tuple xs => cases od
    | none => exact rdsD_leaf od rfl rfl
    | bool b => exact rdsD_leaf od rfl rfl
    | int i => exact rdsD_leaf od rfl rfl
    | str s => exact rdsD_leaf od rfl rfl
  | succ n ih =>
    intro d hd od sm
    cases d with
    | list xs => exact rdsD_list fun x hx => ih x (by have := depth_kids7 (d := .list xs) hx; omega) (isOne_kidsOf od x hx) (smN_kids (d := .list xs) sm hx)
    | dict ds =>
      refine rdsD_dict od sm fun k hk => ?_
      obtain ⟨_, p, _, _, e, hm⟩ := Tz.key od hk
      rw [e]
      exact ih _ (by have := depth_kids7 hm; omega) (isOne_kidsOf od _ hm) (smN_kids sm hm)
    | tuple xs => cases od
    | none => exact rdsD_leaf od rfl rfl
    | bool b => exact rdsD_leaf od rfl rfl
    | int i => exact rdsD_leaf od rfl rfl
    | str s => exact rdsD_leaf od rfl rfl
/-- the text of a good document is read as one document of the same text -/
theorem reads_backD {d : PyData} (od : isOne d = true) (sm : SmN 1000 d) {ts : List (List Nat)} (h : Lex (wr d) ts) : ∃ d', loosD (ts.filter keepN) = [d'] ∧ wr d' = wr d := by
  obtain ⟨us, d', e, lx, rn⟩ := rdsD d.depth d (Nat.le_refl _) od sm
  have h2 := lx [] [] (.inl rfl) .nil
  rw [List.append_nil, List.append_nil] at h2
  have := lex_one h h2
  subst this
  have r := rn [] [] [] [] (fun z => by cases z)
  rw [List.append_nil, List.nil_append] at r
  refine ⟨d', ?_, e⟩
  unfold loosD
  rw [r]
  rfl
end K87
set_option Elab.async false
set_option linter.all false
set_option maxRecDepth 100000
set_option maxHeartbeats 8000000
/-! L88T: read_loosely, of any text. -/
namespace K87
open PySem PySem.Spec L2 K00 TL
open PyProof.Rows (envOfC sortedS)
section
variable {P : Program} {w : World} {H H' H0 H1 H2 : Hp}
/-- what a frame's list holds -/
def FrW (P : Program) (w : World) (H : Hp) (f : FrD) (vs : List V) : Prop := ∃ us, vs = .str (mk f.1) :: us ∧ DaL P w H us f.2
theorem FrW.kp {f : FrD} {vs : List V} (h : FrW P w H f vs) (k : Kp H H') : FrW P w H' f vs := by
  obtain ⟨us, h1, h2⟩ := h
  exact ⟨us, h1, h2.kp k⟩
structure LJ (P : Program) (w : World) (H0 H1 : Hp) (L : Addr) (as : List Addr) (st : List FrD) : Prop where
  lst : H1 L = some (.lst (as.reverse.map V.ref))
  fr : Paired (fun (a : Addr) (f : FrD) => ∃ vs, H1 a = some (.lst vs) ∧ FrW P w H1 f vs) as st
  nd : (L :: as).Nodup
  new : ∀ a ∈ L :: as, H0 a = none
  keep : Same H0 H1
theorem LJ.same {L : Addr} {as : List Addr} {st : List FrD} (h : LJ P w H0 H1 L as st) (k : Same H1 H2) : LJ P w H0 H2 L as st :=
  ⟨k _ _ h.lst, Paired.mapP h.fr fun a f ⟨vs, h1, h2⟩ => ⟨vs, k _ _ h1, h2.kp (.same k)⟩, h.nd, h.new, h.keep.trans k⟩
theorem rev_snoc (a : Addr) (as : List Addr) : (a :: as).reverse.map V.ref = as.reverse.map V.ref ++ [V.ref a] := by
  rw [List.reverse_cons, List.map_append]
  rfl
theorem paired_off {as : List Addr} {st : List FrD} {b : Addr} {o : HO} (h : Paired (fun (a : Addr) (f : FrD) => ∃ vs, H1 a = some (.lst vs) ∧ FrW P w H1 f vs) as st) (hb : b ∉ as) (k : Kp H1 (upd H1 b o)) :
    Paired (fun (a : Addr) (f : FrD) => ∃ vs, upd H1 b o a = some (.lst vs) ∧ FrW P w (upd H1 b o) f vs) as st := by
  induction h with
  | nil => exact .nil
  | @cons a f as' st' h r ih =>
    obtain ⟨vs, h1, h2⟩ := h
    refine .cons ⟨vs, ?_, h2.kp k⟩ (ih fun z => hb (List.mem_cons_of_mem _ z))
    rw [upd_ne (fun z => hb (by rw [← z]; exact List.mem_cons_self))]
    exact h1
theorem LJ.push {L a : Addr} {as : List Addr} {st : List FrD} {f : FrD} {vs : List V} (h : LJ P w H0 H1 L as st) (ha : H1 a = none) (hf : ∀ H, FrW P w H f vs) :
    LJ P w H0 (upd (upd H1 a (.lst vs)) L (.lst (as.reverse.map V.ref ++ [V.ref a]))) L (a :: as) (f :: st) := by
  have nL : L ≠ a := ne_of_none h.lst ha
  have k1 := same_new ha (.lst vs)
  have h1 := h.same k1
  have hLas := (List.nodup_cons.mp h.nd)
  have naas : a ∉ as := fun z => by
    obtain ⟨f', _, vs', e1, _⟩ := paired_memL h.fr z
    rw [ha] at e1
    cases e1
  have k2 : Kp (upd H1 a (.lst vs)) (upd (upd H1 a (.lst vs)) L (.lst (as.reverse.map V.ref ++ [V.ref a]))) := .lst h1.lst _
  refine ⟨by rw [upd_same, rev_snoc], .cons ⟨vs, ?_, hf _⟩ (paired_off h1.fr hLas.1 k2), ?_, fun b hb => ?_, fun b o e => ?_⟩
  · rw [upd_ne (Ne.symm nL), upd_same]
  · refine List.nodup_cons.mpr ⟨fun z => ?_, List.nodup_cons.mpr ⟨naas, hLas.2⟩⟩
    rcases List.mem_cons.mp z with z | z
    · exact nL z
    · exact hLas.1 z
  · rcases List.mem_cons.mp hb with z | z
    · exact h.new b (by rw [z]; exact List.mem_cons_self)
    · rcases List.mem_cons.mp z with z | z
      · rw [z]
        exact Same.free h.keep ha
      · exact h.new b (List.mem_cons_of_mem _ z)
  · have nb : b ≠ L := ne_of_none e (h.new L List.mem_cons_self)
    rw [upd_ne nb]
    exact k1 _ _ (h.keep _ _ e)
theorem LJ.pop {L a : Addr} {as : List Addr} {st : List FrD} {f : FrD} (h : LJ P w H0 H1 L (a :: as) (f :: st)) :
    LJ P w H0 (upd H1 L (.lst (as.reverse.map V.ref))) L as st ∧ ∃ vs, upd H1 L (.lst (as.reverse.map V.ref)) a = some (.lst vs) ∧ FrW P w (upd H1 L (.lst (as.reverse.map V.ref))) f vs := by
  obtain ⟨n1, n2⟩ := List.nodup_cons.mp h.nd
  have k2 : Kp H1 (upd H1 L (.lst (as.reverse.map V.ref))) := .lst h.lst _
  have p := paired_off h.fr n1 k2
  cases p with
  | cons h1 r =>
    refine ⟨⟨upd_same, r, ?_, fun b hb => ?_, fun b o e => ?_⟩, h1⟩
    · exact List.nodup_cons.mpr ⟨fun z => n1 (List.mem_cons_of_mem _ z), (List.nodup_cons.mp n2).2⟩
    · rcases List.mem_cons.mp hb with z | z
      · exact h.new b (by rw [z]; exact List.mem_cons_self)
      · exact h.new b (List.mem_cons_of_mem _ (List.mem_cons_of_mem _ z))
    · rw [upd_ne (ne_of_none e (h.new L List.mem_cons_self))]
      exact h.keep _ _ e
theorem LJ.set {L a : Addr} {as : List Addr} {st : List FrD} {f f' : FrD} {vs ws : List V} (h : LJ P w H0 H1 L (a :: as) (f :: st)) (ha : H1 a = some (.lst vs)) (hf : FrW P w H1 f' ws) : LJ P w H0 (upd H1 a (.lst ws)) L (a :: as) (f' :: st) := by
  obtain ⟨n1, n2⟩ := List.nodup_cons.mp h.nd
  have k2 : Kp H1 (upd H1 a (.lst ws)) := .lst ha _
  have nL : L ≠ a := fun z => n1 (by rw [z]; exact List.mem_cons_self)
  cases h.fr with
  | cons h1 r =>
    refine ⟨by rw [upd_ne nL]; exact h.lst, .cons ⟨ws, upd_same, hf.kp k2⟩ (paired_off r (List.nodup_cons.mp n2).1 k2), h.nd, h.new, fun b o e => ?_⟩
    rw [upd_ne (ne_of_none e (h.new a (List.mem_cons_of_mem _ List.mem_cons_self)))]
    exact h.keep _ _ e
theorem root_at {as : List Addr} {st : List FrD} (h : Paired (fun (a : Addr) (f : FrD) => ∃ vs, H1 a = some (.lst vs) ∧ FrW P w H1 f vs) as st) (hne : st ≠ []) :
    ∃ a0 tail vs f, as.reverse = a0 :: tail ∧ H1 a0 = some (.lst vs) ∧ FrW P w H1 f vs ∧ rootD st = f.2 := by
  induction h with
  | nil => exact absurd rfl hne
  | @cons a f as' st' h r ih =>
    cases r with
    | nil =>
      obtain ⟨vs, h1, h2⟩ := h
      exact ⟨a, [], vs, f, rfl, h1, h2, rfl⟩
    | @cons a2 f2 as2 st2 h2 r2 =>
      obtain ⟨a0, tail, vs, f0, e, h3, h4, h5⟩ := ih (by simp)
      exact ⟨a0, tail ++ [a], vs, f0, by rw [List.reverse_cons, e]; rfl, h3, h4, h5⟩
end
theorem at_last {xs : List V} {x : V} : atI (xs ++ [x]) (-1) = some x := by
  unfold atI ixN
  rw [if_neg (by decide), if_pos (by rw [List.length_append, List.length_singleton]; omega)]
  show (xs ++ [x])[((-1 : Int) + ((xs ++ [x]).length : Nat)).toNat]? = some x
  have e : ((-1 : Int) + ((xs ++ [x]).length : Nat)).toNat = xs.length := by
    rw [List.length_append]
    simp
    omega
  rw [e]
  simp
theorem in_two (t : List Nat) (a b : Nat) (A B : Str) (hA : tl A = [a]) (hB : tl B = [b]) : inV (.str (mk t)) [.str A, .str B] = decide (t = [a] ∨ t = [b]) := by
  show inV (.str (mk t)) (([A, B] : List Str).map V.str) = _
  rw [inV_strs, mk_eq hA, mk_eq hB]
  have inj : ∀ u : List Nat, mk t = mk u ↔ t = u := fun u => ⟨fun h => congrArg tl h, fun h => congrArg mk h⟩
  simp only [List.mem_cons, List.not_mem_nil, or_false, inj]
section
variable {P : Program} {w : World} {K : PySem.W.Frag} {mg : Str → Option Value} {base : Heap} {f g g2 g3 : Addr} {fd gd gd2 gd3 : FuncData}
def rootO : Option (List FrD) → List PyData
  | some st => rootD st
  | none => []
theorem loosD_eq (ts : List (List Nat)) : loosD ts = rootO (runD ts [([], [])]) := rfl
def spLooseG (P : Program) (w : World) : Sp := fun vs H Q _ => ∃ (z : Str) (ts : List (List Nat)), vs = [.str z] ∧ (tl z).length ≤ 300 ∧ (∀ c ∈ tl z, c < 128) ∧ Lex (tl z) ts ∧
  ∀ l xs H', Same H H' → H l = none → H' l = some (.lst xs) → DaL P w H' xs (loosD (ts.filter keepN)) → Q (.ref l) H'
abbrev NgR : List Str := ["text", "frames", "token", "found"]
theorem scLoose : FnScope NgR ["text"] (defScope (top 28)) := ⟨rfl, rfl, rfl, by decide +kernel, rfl, by decide +kernel, by decide +kernel⟩
theorem ok_looseG (F : FnD K "read_loosely" 28 f fd) (B : Bl mg)
    (GT : FnOk P w K mg base CX0 3 g gd ["text"] spTokens) (bT : Binds K gd ["text"] []) (kT : PySem.W.keepIn K (.ref g) = true) (gT : mg "tokens_of" = some (.ref g))
    (GW : FnOk P w K mg base CX0 2 g2 gd2 ["frame", "token"] (spWholeG P w)) (bW : Binds K gd2 ["frame", "token"] []) (kW : PySem.W.keepIn K (.ref g2) = true) (gW : mg "wholes_in" = some (.ref g2))
    (GL : FnOk P w K mg base CX0 2 g3 gd3 ["token"] (spLv P w)) (bL : Binds K gd3 ["token"] []) (kL : PySem.W.keepIn K (.ref g3) = true) (gL : mg "leaves_in" = some (.ref g3)) :
    FnOk P w K mg base CX0 4 f fd ["text"] (spLooseG P w) := by
  refine F.ok scLoose (fun vs H Q E h => ?_) (fun cdv A outer s H vs Q E hr h => ?_)
  · obtain ⟨z, ts, rfl, _⟩ := h
    rfl
  obtain ⟨z, ts, rfl, hz, lo, hx, q⟩ := h
  have hr2 : Room 2 _ := hr.mono (by decide)
  refine ⟨_, PSs.nox (pss_cons (ps_set (i := 1) scLoose.nd rfl (Or.inl rfl) (pe_lst (pa_cons (pe_lst (pa_cons pe_str pa_nil)) pa_nil)))
    (pss_cons (ps_for PassesOwn.never rfl (pi_list (pe_call GT hr rfl gT kT bT .nil pass0 (pa_cons (pv 0) pa_nil))) (pg_name (i := 2) scLoose.nd rfl (Or.inl rfl))
      (pss_cons (ps_if (pt_cmpR op_in_seq (pv 2) (pe_tup (pa_cons pe_str (pa_cons pe_str pa_nil))) (by rfl))
        (pss_cons (ps_expr (pe_bm PySem.F.plainAttrs_list PySem.F.slot_list_append PySem.F.type_list_append mt_append (pv 1) (pa_cons (pe_lst (pa_cons (pv 2) pa_nil)) pa_nil))) (pss_one ps_continue)) pss_nil)
      (C8.pss_cut (ps_if (pt_cmpR op_in_seq (pv 2) (pe_tup (pa_cons pe_str (pa_cons pe_str pa_nil))) (by rfl))
        (pss_one (ps_set (i := 3) scLoose.nd rfl (Or.inl rfl) (pe_call GW hr2 rfl gW kW bW .nil pass0 (pa_cons (pe_bm0 PySem.F.plainAttrs_list PySem.F.slot_list_pop PySem.F.type_list_pop mt_pop (pv 1)) (pa_cons (pv 2) pa_nil)))))
        (pss_one (ps_if (PW.pt (pw_and (pt_cmpR op_eq (pe_ix ix_list (pe_ix ix_list (pv 1) (pe_un un_neg pe_int) (fun _ _ => rfl)) pe_int (fun _ _ => rfl)) pe_str (nomark _))
            (pw_and1 (pt_cmpR op_eq (pe_op op_mod (pe_callB call_len_seq (by rfl) B.len PySem.boot_len (pa_cons (pe_ix ix_list (pv 1) (pe_un un_neg pe_int) (fun _ _ => rfl)) pa_nil)) pe_int) pe_int (nomark _)))))
          (pss_one (ps_set (i := 3) scLoose.nd rfl (Or.inl rfl) (pe_lst (pa_cons (pv 2) pa_nil))))
          (pss_one (ps_set (i := 3) scLoose.nd rfl (Or.inl rfl) (pe_call GL hr2 rfl gL kL bL .nil pass0 (pa_cons (pv 2) pa_nil)))))))
      (pss_cons (ps_if (pt_not (pt_truth (pv 3) (by intro _; rfl))) (pss_one (ps_ret (pe_lst pa_nil))) pss_nil)
      (pss_one (ps_expr (pe_bm PySem.F.plainAttrs_list PySem.F.slot_list_extend PySem.F.type_list_extend mt_extend (pe_ix ix_list (pv 1) (pe_un un_neg pe_int) (fun _ _ => rfl)) (pa_cons (pv 3) pa_nil)))))))
    )
    (pss_one (ps_ret (pe_slice sl_list (pe_ix ix_list (pv 1) pe_int (fun _ _ => rfl)) (po_some pe_int) po_none))))), ?_⟩
  have two : 2 ≤ sizeLine := by decide
  have one : 1 ≤ sizeLine := by decide
  have zero : 0 ≤ sizeLine := by decide
  have b1 : tl ("[" : Str) = [91] := by decide +kernel
  have b2 : tl ("{" : Str) = [123] := by decide +kernel
  have b3 : tl ("]" : Str) = [93] := by decide +kernel
  have b4 : tl ("}" : Str) = [125] := by decide +kernel
  have e0 : ("" : Str) = mk [] := by decide +kernel
  obtain ⟨hall, hsum⟩ := hx.all
  have zl : z.length ≤ 300 := by rw [len_tl]; exact hz
  refine ⟨one, fun r0 hr0 => ⟨one, fun L hL => ?_⟩⟩
  have k0 := same_new hr0 (.lst [.str (Str.ofString "")])
  have nrL : r0 ≠ L := ne_of_none upd_same hL
  have kL := same_new hL (.lst [V.ref r0])
  have li0 : LJ P w H (upd (upd H r0 (.lst [.str (Str.ofString "")])) L (.lst [V.ref r0])) L [r0] [([], [])] :=
    ⟨upd_same, .cons ⟨_, kL _ _ upd_same, ⟨[], by rw [e0], .nil⟩⟩ .nil, by simp [Ne.symm nrL], fun b hb => by
      rcases List.mem_cons.mp hb with z | z
      · rw [z]; exact Same.free k0 hL
      · rw [List.mem_singleton.mp z]; exact hr0, k0.trans kL⟩
  generalize upd (upd H r0 (.lst [.str (Str.ofString "")])) L (.lst [V.ref r0]) = H1 at li0 ⊢
  have htok : ∀ t ∈ ts.filter keepN, t ≠ [] ∧ t.length ≤ 300 ∧ ∀ c ∈ t, c < 128 := fun t ht => by
    have hm := (List.mem_filter.mp ht).1
    obtain ⟨a, b⟩ := hall t hm
    refine ⟨a, ?_, fun c hc => lo c (b c hc)⟩
    have : ∀ us : List (List Nat), t ∈ us → t.length ≤ (us.map List.length).sum := fun us h => mem_sum h
    have := this ts hm
    omega
  have fsum := filt_sum (p := keepN) ts
  generalize htoks : ts.filter keepN = toks at htok fsum q
  obtain ⟨R, hR⟩ : ∃ R, runD toks [([], [])] = R := ⟨_, rfl⟩
  have q' : ∀ l xs H', Same H H' → H l = none → H' l = some (.lst xs) → DaL P w H' xs (rootO R) → Q (.ref l) H' := by
    rw [← hR]
    exact q
  have qn : R = none → ∀ l H', Same H H' → H l = none → H' l = some (.lst []) → Q (.ref l) H' := fun e l H' k h1 h2 => q' l [] H' k h1 h2 (by rw [e]; exact .nil)
  refine ⟨_, rfl, z, ts, rfl, by omega, hx, fun tk H1b k1 htk htk1 => ⟨tk, rfl, ⟨_, SqL.of htk1⟩, ?_⟩⟩
  rw [htoks] at htk1
  have ntk : tk ∉ L :: [r0] := fun h => by
    rcases List.mem_cons.mp h with y | y
    · rw [y, li0.lst] at htk; cases htk
    · cases li0.fr with
      | cons h1 _ =>
        obtain ⟨vs, h2, _⟩ := h1
        rw [List.mem_singleton.mp y, h2] at htk; cases htk
  refine for_it (walk_list (K := K) (a := tk) (xs := toks.map fun t => V.str (mk t))) (fun i σ H2 => ∃ (tv fv : Option V) (as : List Addr) (st : List FrD), σ = [some (.str z), some (.ref L), tv, fv] ∧ LJ P w H H2 L as st ∧ Iv st ((toks.drop i).map List.length).sum ∧ runD (toks.drop i) st = R ∧ H2 tk = some (.lst (toks.map fun t => V.str (mk t))) ∧ tk ∉ L :: as)
    ⟨none, none, [r0], [([], [])], rfl, li0.same k1, Iv.start (by show (toks.map List.length).sum ≤ 300; omega), hR, htk1, ntk⟩ (fun _ _ H2 _ ⟨_, _, _, _, _, _, _, _, y, _⟩ => SqL.of y) ?turn ?after
  case after =>
    rintro σ H2 ⟨tv, fv, as, st, rfl, li, I, hr', _, _⟩
    rw [List.length_map, List.drop_length] at hr'
    have hst : R = some st := hr'.symm
    have ne : st ≠ [] := fun e => by
      have := I.r
      rw [e] at this
      cases this
    obtain ⟨a0, tail, vs, fr0, ea, h3, ⟨us, rfl, h4⟩, h5⟩ := root_at li.fr ne
    have hlst := li.lst
    rw [ea] at hlst
    refine ⟨_, rfl, L, _, 0, .ref a0, rfl, rfl, SqL.of hlst, atI_nat (j := 0) rfl, 1, rfl, a0, _, rfl, SqL.of h3, fun l hl => ?_⟩
    rw [cut_from _ (by decide)]
    have kl := same_new hl (.lst ((V.str (mk fr0.1) :: us).drop (1 : Int).toNat))
    exact q' l _ _ (li.keep.trans kl) (Same.free li.keep hl) upd_same (by rw [hst]; show DaL P w _ us (rootD st); rw [h5]; exact h4.kp (.same kl))
  case turn =>
    rintro i v σ H2 H2' hi ⟨tv, fv, as, st, rfl, li, I, hr', htk2, hnt⟩ ⟨rfl, hv⟩
    rw [List.length_map] at hi
    rw [List.getElem?_map, List.getElem?_eq_getElem hi] at hv
    have hv' : V.str (mk toks[i]) = v := Option.some.inj hv
    subst hv'
    have htm : toks[i] ∈ toks := List.getElem_mem hi
    obtain ⟨tne, t300, tlo⟩ := htok _ htm
    rw [List.drop_eq_getElem_cons hi] at hr' I
    generalize toks[i] = t at hr' I tne t300 tlo
    rw [List.map_cons, List.sum_cons] at I
    have hr2 : (stepD t st).bind (runD (toks.drop (i + 1))) = R := hr'
    refine ⟨_, rfl, two, fun p1 hp1 => ⟨p1, _, rfl, .inr (SqT.of upd_same), rfl, rfl, _, rfl, ?_⟩⟩
    have kp1 := same_new hp1 (.tup [.str (Str.ofString "["), .str (Str.ofString "{")])
    have li3 := li.same kp1
    have htk3 := kp1 _ _ htk2
    generalize upd H2' p1 (.tup [.str (Str.ofString "["), .str (Str.ofString "{")]) = H3 at li3 htk3 ⊢
    have lst3 := li3.lst
    have alen : as.length = st.length := Paired.length li3.fr
    have stl : st.length ≤ 301 := by have := I.l; omega
    obtain ⟨B0, ds, r, est⟩ : ∃ B ds r, st = (B, ds) :: r := by
      have := I.r
      cases this with
      | root ds => exact ⟨_, _, _, rfl⟩
      | up h r => exact ⟨_, _, _, rfl⟩
    subst est
    by_cases hop : t = [91] ∨ t = [123]
    · refine ite_t (by show inV (.str (mk t)) [.str "[", .str "{"] = true; rw [in_two t 91 123 _ _ b1 b2]; exact decide_eq_true hop) ?_
      refine ⟨_, rfl, .inl ⟨rfl, _, SqL.of lst3⟩, _, rfl, one, fun a ha => ⟨L, _, _, rfl, rfl, (same_new ha _) _ _ lst3, K00.small1000 (by rw [List.length_map, List.length_reverse]; omega), ?_⟩⟩
      have nta : tk ≠ a := ne_of_none htk3 ha
      have keepT : upd (upd H3 a (.lst [V.str (mk t)])) L (.lst (as.reverse.map V.ref ++ [V.ref a])) tk = some (.lst (toks.map fun t => V.str (mk t))) := by
        rw [upd_ne (fun y => hnt (by rw [y]; exact List.mem_cons_self)), upd_ne nta]
        exact htk3
      have notin : tk ∉ L :: (a :: as) := fun y => by
        rcases List.mem_cons.mp y with y | y
        · exact hnt (by rw [y]; exact List.mem_cons_self)
        · rcases List.mem_cons.mp y with y | y
          · exact nta y
          · exact hnt (List.mem_cons_of_mem _ y)
      have hs := stepD_open (B := B0) (ds := ds) (st := r) hop
      rw [hs] at hr2
      exact ⟨_, _, a :: as, _, rfl, li3.push (f := (t, [])) ha (fun _ => ⟨[], rfl, .nil⟩), I.step tne tlo hs, hr2, keepT, notin⟩
    · refine ite_f (by show inV (.str (mk t)) [.str "[", .str "{"] = false; rw [in_two t 91 123 _ _ b1 b2]; exact decide_eq_false hop) ?_
      refine ⟨fun σ H4 => ∃ (fl : Addr) (xs : List V) (fs : List PyData), σ = [some (.str z), some (.ref L), some (.str (mk t)), some (.ref fl)] ∧ H4 fl = some (.lst xs) ∧ DaL P w H4 xs fs ∧ Same H H4 ∧
        ((fs = [] ∧ R = none) ∨ (fs ≠ [] ∧ ∃ (a : Addr) (as' : List Addr) (vs : List V) (B2 : List Nat) (es : List PyData) (r2 : List FrD), H4 a = some (.lst vs) ∧ vs.length ≤ 1000 ∧ xs.length ≤ 1000 ∧ FrW P w H4 (B2, es) vs ∧ LJ P w H H4 L (a :: as') ((B2, es) :: r2) ∧
          stepD t ((B0, ds) :: r) = some ((B2, es ++ fs) :: r2) ∧ H4 tk = some (.lst (toks.map fun t => V.str (mk t))) ∧ tk ∉ L :: (a :: as'))), ?m1, ?m2⟩
      case m2 =>
        rintro σ H4 ⟨fl, xs, fs, rfl, hfl, hda, kk, hcase⟩
        have xl := hda.length
        rcases hcase with ⟨rfl, hn⟩ | ⟨hne, a, as', vs, B2, es, r2, ha4, hvl, hxl, hF, li5, hst, htk4, hn4⟩
        · have x0 : xs = [] := List.eq_nil_of_length_eq_zero (by rw [xl]; rfl)
          subst x0
          refine ⟨_, rfl, false, .inl ⟨_, SqL.of hfl, rfl⟩, iteT ⟨zero, fun l hl => ?_⟩⟩
          exact qn hn l _ (kk.trans (same_new hl _)) (Same.free kk hl) upd_same
        · have xne : xs ≠ [] := fun e => hne (List.eq_nil_of_length_eq_zero (by rw [← xl, e]; rfl))
          have xt : decide (xs.length = 0) = false := decide_eq_false fun e => xne (List.eq_nil_of_length_eq_zero e)
          refine ⟨_, rfl, true, .inl ⟨xs, SqL.of hfl, by cases xs with | nil => exact absurd rfl xne | cons _ _ => rfl⟩, iteF ?_⟩
          obtain ⟨us, rfl, hus⟩ := hF
          have hL4 := li5.lst
          rw [rev_snoc] at hL4
          refine ⟨_, rfl, _, rfl, L, _, _, .ref a, rfl, rfl, SqL.of hL4, at_last, .inl ⟨rfl, _, SqL.of ha4⟩, _, rfl, a, fl, _, xs, rfl, rfl, ha4, hfl, Nat.le_of_lt (Nat.lt_of_lt_of_le (by omega : _ < 1000000) (by decide)), ?_⟩
          rw [hst] at hr2
          refine ⟨_, _, a :: as', _, rfl, li5.set (f' := (B2, es ++ fs)) ha4 ⟨us ++ xs, rfl, hus.append hda⟩, I.step tne tlo hst, hr2, ?_, hn4⟩
          rw [upd_ne (fun y => hn4 (by rw [y]; exact List.mem_cons_of_mem _ List.mem_cons_self))]
          exact htk4
      case m1 =>
        refine ⟨_, rfl, two, fun p2 hp2 => ⟨p2, _, rfl, .inr (SqT.of upd_same), rfl, rfl, _, rfl, ?_⟩⟩
        have kp2 := same_new hp2 (.tup [.str (Str.ofString "]"), .str (Str.ofString "}")])
        have li4 := li3.same kp2
        have htk4 := kp2 _ _ htk3
        generalize upd H3 p2 (.tup [.str (Str.ofString "]"), .str (Str.ofString "}")]) = H4 at li4 htk4 ⊢
        have lst4 := li4.lst
        have tkL : tk ≠ L := fun y => hnt (by rw [y]; exact List.mem_cons_self)
        have dsl : ds.length ≤ 300 := I.len (f := (B0, ds)) List.mem_cons_self
        have str1000 : ∀ {f : FrD}, f ∈ (B0, ds) :: r → ∀ d ∈ f.2, ∀ y, d = .str y → y.length ≤ 1000 := fun hf d hd y e => by
          have := (I.g _ hf d hd).2.2
          rw [e] at this
          exact this.1
        by_cases hcl : t = [93] ∨ t = [125]
        · refine ite_t (by show inV (.str (mk t)) [.str "]", .str "}"] = true; rw [in_two _ 93 125 _ _ b3 b4]; exact decide_eq_true hcl) ?_
          obtain ⟨c, rfl⟩ : ∃ c, t = [c] := by rcases hcl with e | e <;> exact ⟨_, e⟩
          cases hpf : li4.fr with
          | @cons a _ as1 _ h1 r1 =>
            obtain ⟨lp, vs, ha, us, rfl, hda⟩ := li4.pop
            have lus := hda.length
            rw [rev_snoc] at lst4
            refine ⟨_, rfl, .inl ⟨rfl, _, SqL.of lst4⟩, L, _, .ref a, rfl, rfl, lst4, by simp, ?_⟩
            rw [List.dropLast_concat]
            refine ⟨_, rfl, a, B0, c, us, ds, rfl, I.r.top, ha, by show us.length ≤ 1000; have : us.length = ds.length := lus; omega, hda, str1000 List.mem_cons_self, fun l ys H5 k5 hl5 hl51 hys => ?_⟩
            have ysl := hys.length
            refine ⟨l, ys, _, rfl, hl51, hys, lp.keep.trans k5, ?_⟩
            by_cases hw : whD B0 c ds = []
            · refine .inl ⟨hw, ?_⟩
              have : stepD [c] ((B0, ds) :: r) = none := by
                cases r with
                | nil => exact (if_neg hop).trans (if_pos hcl)
                | cons f2 r2 =>
                  obtain ⟨B2, es⟩ := f2
                  rw [stepD_close hop hcl]
                  exact if_pos hw
              rw [this] at hr2
              exact hr2.symm
            · cases r with
              | nil =>
                have hb : B0 = [] := by
                  have := I.r
                  cases this with
                  | root => rfl
                  | up _ r => cases r
                rw [hb, wh_root] at hw
                exact absurd rfl hw
              | cons f2 r2 =>
                obtain ⟨B2, es⟩ := f2
                have hst : stepD [c] ((B0, ds) :: (B2, es) :: r2) = some ((B2, es ++ whD B0 c ds) :: r2) := by
                  rw [stepD_close hop hcl]
                  exact if_neg hw
                have lp5 := lp.same k5
                cases hp5 : lp5.fr with
                | @cons a' _ as2 _ h2 r2' =>
                  obtain ⟨vs', hv', hF'⟩ := h2
                  obtain ⟨us', e', hus'⟩ := hF'
                  have l' := hus'.length
                  have l'' : es.length ≤ 300 := I.len (f := (B2, es)) (by simp)
                  refine .inr ⟨hw, a', as2, vs', B2, es, r2, hv', ?_, ?_, ⟨us', e', hus'⟩, lp5, hst, k5 _ _ (by rw [upd_ne tkL]; exact htk4), fun y => ?_⟩
                  · rw [e', List.length_cons]
                    have : us'.length = es.length := l'
                    omega
                  · rcases wh_cases B0 c ds with e | e | ⟨_, e⟩
                    · exact absurd e hw
                    · rw [ysl, e]; show 1 ≤ 1000; decide
                    · rw [ysl, e]; show 1 ≤ 1000; decide
                  · rcases List.mem_cons.mp y with y | y
                    · exact tkL y
                    · exact hnt (List.mem_cons_of_mem _ (List.mem_cons_of_mem _ y))
        · refine ite_f (by show inV (.str (mk t)) [.str "]", .str "}"] = false; rw [in_two _ 93 125 _ _ b3 b4]; exact decide_eq_false hcl) ?_
          cases hpf : li4.fr with
          | @cons a _ as1 _ h1 r1 =>
            obtain ⟨vs, ha, hF⟩ := h1
            obtain ⟨us, rfl, hda⟩ := hF
            have lus : us.length = ds.length := hda.length
            rw [rev_snoc] at lst4
            have leafc : ¬ (B0 = [123] ∧ ds.length % 2 = 0) → ∀ l ys H', Same H4 H' → H4 l = none → H' l = some (.lst ys) → DaL P w H' ys (lv t) → ∃ (fl : Addr) (xs : List V) (fs : List PyData), [some (V.str z), some (V.ref L), some (V.str (mk t)), some (V.ref l)] = [some (.str z), some (.ref L), some (.str (mk t)), some (.ref fl)] ∧ H' fl = some (.lst xs) ∧ DaL P w H' xs fs ∧ Same H H' ∧
                ((fs = [] ∧ R = none) ∨ (fs ≠ [] ∧ ∃ (a : Addr) (as' : List Addr) (vs : List V) (B2 : List Nat) (es : List PyData) (r2 : List FrD), H' a = some (.lst vs) ∧ vs.length ≤ 1000 ∧ xs.length ≤ 1000 ∧ FrW P w H' (B2, es) vs ∧ LJ P w H H' L (a :: as') ((B2, es) :: r2) ∧
                  stepD t ((B0, ds) :: r) = some ((B2, es ++ fs) :: r2) ∧ H' tk = some (.lst (toks.map fun t => V.str (mk t))) ∧ tk ∉ L :: (a :: as'))) := by
              intro hnf l ys H' k5 hl5 hl51 hys
              have ysl := hys.length
              refine ⟨l, ys, _, rfl, hl51, hys, li4.keep.trans k5, ?_⟩
              rcases lv_cases t with e | ⟨d, e, _⟩
              · refine .inl ⟨e, ?_⟩
                have : stepD t ((B0, ds) :: r) = none := by
                  rw [stepD_leaf hop hcl hnf]
                  exact if_pos e
                rw [this] at hr2
                exact hr2.symm
              · refine .inr ⟨by rw [e]; simp, a, as1, _, B0, ds, r, k5 _ _ ha, by rw [List.length_cons]; omega, by rw [ysl, e]; show 1 ≤ 1000; decide, ⟨us, rfl, hda.kp (.same k5)⟩, li4.same k5, ?_, k5 _ _ htk4, hnt⟩
                rw [stepD_leaf hop hcl hnf]
                exact if_neg (by rw [e]; simp)
            refine ⟨_, rfl, _, rfl, L, _, _, .ref a, rfl, rfl, SqL.of lst4, at_last, a, _, _, _, rfl, rfl, SqL.of ha, atI_nat (j := 0) rfl, rfl, _, rfl, ?_⟩
            by_cases hB : B0 = [123]
            · refine ite_t (decide_eq_true (by rw [hB]; exact congrArg V.str (ext_tl b2.symm))) ?_
              refine ⟨_, rfl, _, rfl, L, _, _, .ref a, rfl, rfl, SqL.of lst4, at_last, a, _, rfl, .inl (SqL.of ha), _, _, rfl, rfl, (by show (0 : Int) < 2; decide), rfl, _, rfl, ?_⟩
              by_cases hev : ds.length % 2 = 0
              · refine ite_t (decide_eq_true (congrArg V.int (by rw [List.length_cons]; omega))) ?_
                refine ⟨_, rfl, one, fun fl hfl => ?_⟩
                have k5 := same_new hfl (.lst [V.str (mk t)])
                refine ⟨fl, _, [.str (mk t)], rfl, upd_same, .cons (.str _) .nil, li4.keep.trans k5, .inr ⟨by simp, a, as1, _, B0, ds, r, k5 _ _ ha, by rw [List.length_cons]; omega, by show 1 ≤ 1000; decide, ⟨us, rfl, hda.kp (.same k5)⟩, li4.same k5, stepD_field hop hcl ⟨hB, hev⟩, k5 _ _ htk4, hnt⟩⟩
              · refine ite_f (decide_eq_false fun h => ?_) ?_
                · have h' := V.int.inj h
                  rw [List.length_cons] at h'
                  omega
                · exact ⟨_, rfl, t, rfl, tne, t300, leafc fun z => hev z.2⟩
            · refine ite_f (decide_eq_false fun h => hB ?_) (iteF ?_)
              · have := congrArg tl (V.str.inj h)
                rw [b2] at this
                exact this
              · exact ⟨_, rfl, t, rfl, tne, t300, leafc fun z => hB z.1⟩
end
end K87
set_option Elab.async false
set_option linter.all false
set_option maxRecDepth 100000
set_option maxHeartbeats 8000000
/-! L88U: documents_in, read_document, of anything. -/
namespace K87
open PySem PySem.Spec L2 K00 TL
open PyProof.Rows (envOfC sortedS)
/-- what documents_in tells of a text whose loose reading is this -/
def docD (l : List Nat) : List PyData → List PyData
  | [d] => if wr d = l then [d] else []
  | _ => []
section
variable {P : Program} {w : World} {K : PySem.W.Frag} {mg : Str → Option Value} {base : Heap} {f g g2 g3 C fI : Addr} {fd gd gd2 gd3 : FuncData}
def isTx : PyData → Bool
  | .str _ => true
  | _ => false
def spDocsG (P : Program) (w : World) : Sp := fun vs H Q _ => ∃ (x : V) (d : PyData), vs = [x] ∧ Da P w H x d ∧
  (isTx d = false → ∀ l H', Same H H' → H l = none → H' l = some (.lst []) → Q (.ref l) H') ∧
  (∀ z, d = .str z → ∃ ts, (tl z).length ≤ 300 ∧ (∀ c ∈ tl z, c < 128) ∧ Lex (tl z) ts ∧ ∀ l xs H', Same H H' → H l = none → H' l = some (.lst xs) → DaL P w H' xs (docD (tl z) (loosD (ts.filter keepN))) → Q (.ref l) H')
theorem scDocs : FnScope ["text", "found"] ["text"] (defScope (top 29)) := ⟨rfl, rfl, rfl, by decide +kernel, rfl, by decide +kernel, by decide +kernel⟩
theorem ok_docsG (F : FnD K "documents_in" 29 f fd) (B : Bl mg)
    (GR : FnOk P w K mg base CX0 4 g gd ["text"] (spLooseG P w)) (bR : Binds K gd ["text"] []) (kR : PySem.W.keepIn K (.ref g) = true) (gR : mg "read_loosely" = some (.ref g))
    (GT : FnOk P w K mg base CX0 3 g2 gd2 ["document"] (spText P w)) (bT : Binds K gd2 ["document"] []) (kT : PySem.W.keepIn K (.ref g2) = true) (gT : mg "text_of" = some (.ref g2)) :
    FnOk P w K mg base CX0 5 f fd ["text"] (spDocsG P w) := by
  refine F.ok scDocs (fun vs H Q E h => ?_) (fun cdv A outer s H vs Q E hr h => ?_)
  · obtain ⟨z, d, rfl, _⟩ := h
    rfl
  obtain ⟨x, d, rfl, hd, q1, q2⟩ := h
  have hr3 : Room 3 _ := hr.mono (by decide)
  refine ⟨_, PSs.nox (pss_cons (ps_if (pt_not (pt_val (pe_callB call_isDa (by rfl) B.isi (by decide +kernel) (pa_cons (pv 0) (pa_cons (pe_bltn (v := .ty "str") (by rfl) B.str (by decide +kernel) rfl) pa_nil))))) (pss_one (ps_ret (pe_lst pa_nil))) pss_nil)
    (pss_cons (ps_set (i := 1) scDocs.nd rfl (Or.inl rfl) (pe_call GR hr rfl gR kR bR .nil pass0 (pa_cons (pv 0) pa_nil)))
    (pss_one (ps_ret (pe_ifExp (PW.pt (pw_and (pt_cmpR op_eq (pe_callB call_len_seq (by rfl) B.len PySem.boot_len (pa_cons (pv 1) pa_nil)) pe_int (nomark _))
        (pw_and1 (pt_cmpR op_eq (pe_call GT hr3 rfl gT kT bT .nil pass0 (pa_cons (pe_ix ix_list (pv 1) pe_int (fun _ _ => rfl)) pa_nil)) (pv 0) (nomark _))))) (pv 1) (pe_lst pa_nil)))))), ?_⟩
  have zero : 0 ≤ sizeLine := by decide
  have no : ∀ {x : V} {d : PyData}, Da P w H x d → isTx d = false → (isTx d = false → ∀ l H', Same H H' → H l = none → H' l = some (.lst []) → Q (.ref l) H') → _ := fun {x d} h e q => q e
  cases hd with
  | non => exact ⟨_, rfl, _, "str", _, _, rfl, .non, kt_s _, _, rfl, iteT ⟨zero, fun l hl => q1 rfl l _ (same_new hl _) hl upd_same⟩⟩
  | bl b => exact ⟨_, rfl, _, "str", _, _, rfl, .bl b, kt_s _, _, rfl, iteT ⟨zero, fun l hl => q1 rfl l _ (same_new hl _) hl upd_same⟩⟩
  | int b => exact ⟨_, rfl, _, "str", _, _, rfl, .int b, kt_s _, _, rfl, iteT ⟨zero, fun l hl => q1 rfl l _ (same_new hl _) hl upd_same⟩⟩
  | tup h r => exact ⟨_, rfl, _, "str", _, _, rfl, .tup h r, kt_s _, _, rfl, iteT ⟨zero, fun l hl => q1 rfl l _ (same_new hl _) hl upd_same⟩⟩
  | lst h r => exact ⟨_, rfl, _, "str", _, _, rfl, .lst h r, kt_s _, _, rfl, iteT ⟨zero, fun l hl => q1 rfl l _ (same_new hl _) hl upd_same⟩⟩
  | dic h r => exact ⟨_, rfl, _, "str", _, _, rfl, .dic h r, kt_s _, _, rfl, iteT ⟨zero, fun l hl => q1 rfl l _ (same_new hl _) hl upd_same⟩⟩
  | str z =>
    obtain ⟨ts, hz, lo, hx, q⟩ := q2 z rfl
    have good := loosD_good hz lo hx
    refine ⟨_, rfl, _, "str", _, _, rfl, .str z, kt_s _, _, rfl, iteF ⟨_, rfl, z, ts, rfl, hz, lo, hx, fun l xs H1 k1 hl hl1 hda => ?_⟩⟩
    generalize loosD (ts.filter keepN) = ds at good hda q
    have hlen := hda.length
    refine ⟨_, rfl, l, _, rfl, .inl (SqL.of hl1), rfl, _, rfl, ?_⟩
    by_cases h1 : xs.length = 1
    · refine ite_t (decide_eq_true (congrArg V.int (by omega))) ?_
      match xs, ds, hda, h1 with
      | [x], [d], .cons hxd .nil, _ =>
        obtain ⟨tz, hc, _⟩ := good d List.mem_cons_self
        refine ⟨_, rfl, l, _, _, _, rfl, rfl, SqL.of hl1, atI_nat (j := 0) rfl, _, d, rfl, hxd, tz, hc, fun H2 k2 => ⟨_, rfl, rfl, _, rfl, ?_⟩⟩
        by_cases hw : wr d = tl z
        · have e : docD (tl z) [d] = [d] := if_pos hw
          refine ite_t (decide_eq_true (congrArg V.str (by rw [hw]))) ⟨_, rfl, ?_⟩
          exact q l [x] H2 (k1.trans k2) hl (k2 _ _ hl1) (by rw [e]; exact .cons (hxd.kp (.same k2)) .nil)
        · have e : docD (tl z) [d] = [] := if_neg hw
          refine ite_f (decide_eq_false fun h => hw ?_) ⟨zero, fun l2 hl2 => ?_⟩
          · exact congrArg tl (V.str.inj h)
          · exact q l2 [] _ ((k1.trans k2).trans (same_new hl2 _)) (Same.free (k1.trans k2) hl2) upd_same (by rw [e]; exact .nil)
    · refine ite_f (decide_eq_false fun h => h1 (by have := V.int.inj h; omega)) ⟨zero, fun l2 hl2 => ?_⟩
      have e : docD (tl z) ds = [] := by
        match ds, hlen with
        | [], _ => rfl
        | [d], hlen => exact absurd hlen h1
        | _ :: _ :: _, _ => rfl
      exact q l2 [] _ (k1.trans (same_new hl2 _)) (Same.free k1 hl2) upd_same (by rw [e]; exact .nil)
/-- a text is read as a document of this text, if there is a good one -/
def spReadG (P : Program) (w : World) (C : Addr) : Sp := fun vs H Q E => ∃ (x : V) (d : PyData), vs = [x] ∧ Da P w H x d ∧
  (isTx d = false → ∀ dd H', Same H H' → H' dd = some (.xd [(("value" : Str), x)]) → E (.ref C) (some dd) H') ∧
  (∀ z, d = .str z → (tl z).length ≤ 300 ∧ (∀ c ∈ tl z, c < 128) ∧
    ((∀ e, isOne e = true → SmN 1000 e → wr e ≠ tl z) → ∀ dd H', Same H H' → H' dd = some (.xd [(("value" : Str), x)]) → E (.ref C) (some dd) H') ∧
    (∀ e y H', wr e = tl z → Tz e → Same H H' → Da P w H' y e → Q y H'))
theorem scRead : FnScope ["text", "found"] ["text"] (defScope (top 30)) := ⟨rfl, rfl, rfl, by decide +kernel, rfl, by decide +kernel, by decide +kernel⟩
theorem ok_readG (F : FnD K "read_document" 30 f fd) (B : Bl mg)
    (GD : FnOk P w K mg base CX0 5 g gd ["text"] (spDocsG P w)) (bD : Binds K gd ["text"] []) (kD : PySem.W.keepIn K (.ref g) = true) (gD : mg "documents_in" = some (.ref g))
    (T : ErrT K C fI) (T0 : InitT K fI) (gC : mg "BadText" = some (.ref C)) :
    FnOk P w K mg base (L2.CX P w) 6 f fd ["text"] (spReadG P w C) := by
  refine F.ok scRead (fun vs H Q E h => ?_) (fun cdv A outer s H vs Q E hr h => ?_)
  · obtain ⟨z, d, rfl, _⟩ := h
    rfl
  obtain ⟨x, d, rfl, hd, q1, q2⟩ := h
  refine ⟨_, pss_cons (ps_set (i := 1) scRead.nd rfl (Or.inl rfl) (pe_call GD hr rfl gD kD bD .nil pass0 (pa_cons (pv 0) pa_nil)))
    (pss_cons (ps_if (pt_not (pt_truth (pv 1) (by intro _; rfl))) (pss_one (ps_raise rfl (takes_of rfl rfl rfl rfl) (pmk_err T T0 gC hr (pa_cons (pv 0) pa_nil)))) pss_nil)
    (pss_one (ps_ret (pe_ix ix_list (pv 1) pe_int (fun _ _ => rfl))))), ?_⟩
  refine ⟨_, rfl, x, d, rfl, hd, fun nt l H1 k1 hl hl1 => ?_, fun z ez => ?_⟩
  · refine ⟨_, rfl, false, .inl ⟨_, SqL.of hl1, rfl⟩, iteT ⟨_, rfl, _, rfl, fun dd hdd => ?_⟩⟩
    exact q1 nt dd _ (k1.trans (same_new hdd _)) upd_same
  · obtain ⟨hz, lo, r1, r2⟩ := q2 z ez
    obtain ⟨ts, hx⟩ := lex_ex _ (tl z) (Nat.le_refl _)
    refine ⟨ts, hz, lo, hx, fun l xs H1 k1 hl hl1 hda => ?_⟩
    have good := loosD_good hz lo hx
    have back : ∀ e, isOne e = true → SmN 1000 e → wr e = tl z → docD (tl z) (loosD (ts.filter keepN)) ≠ [] := fun e od sm hw => by
      obtain ⟨d', h1, h2⟩ := reads_backD od sm (ts := ts) (by rw [hw]; exact hx)
      rw [h1]
      show (if wr d' = tl z then [d'] else []) ≠ []
      rw [if_pos (h2.trans hw)]
      simp
    generalize loosD (ts.filter keepN) = ds at good hda back
    have cases2 : docD (tl z) ds = [] ∨ ∃ d', ds = [d'] ∧ wr d' = tl z ∧ docD (tl z) ds = [d'] := by
      match ds with
      | [] => exact .inl rfl
      | [d'] =>
        by_cases hw : wr d' = tl z
        · exact .inr ⟨d', rfl, hw, if_pos hw⟩
        · exact .inl (if_neg hw)
      | _ :: _ :: _ => exact .inl rfl
    rcases cases2 with e | ⟨d', rfl, hw, e⟩
    · rw [e] at hda back
      cases hda
      refine ⟨_, rfl, false, .inl ⟨_, SqL.of hl1, rfl⟩, iteT ⟨_, rfl, _, rfl, fun dd hdd => ?_⟩⟩
      exact r1 (fun e' od sm hw => back e' od sm hw rfl) dd _ (k1.trans (same_new hdd _)) upd_same
    · rw [e] at hda
      cases hda with
      | @cons y _ xs' _ hy hr' =>
        cases hr'
        refine ⟨_, rfl, true, .inl ⟨_, SqL.of hl1, rfl⟩, iteF ⟨_, rfl, l, _, _, _, rfl, rfl, SqL.of hl1, atI_nat (j := 0) rfl, ?_⟩⟩
        exact r2 d' y H1 hw (good d' List.mem_cons_self).1 k1 hy
end
end K87
set_option Elab.async false
set_option linter.all false
set_option maxRecDepth 100000
set_option maxHeartbeats 8000000
/-! L88V: _law_items, of any text. -/
namespace K87
open PySem PySem.Spec L2 K00 TL
open PyProof.Rows (envOfC sortedS)
theorem tw_step {p : Nat → Bool} : ∀ (l : List Nat) (i : Nat), i ≤ (l.takeWhile p).length → (i < (l.takeWhile p).length ↔ ∃ c, l[i]? = some c ∧ p c = true)
  | [], i, h => by simp
  | x :: r, i, h => by
    by_cases hx : p x = true
    · rw [List.takeWhile_cons, if_pos hx] at h ⊢
      cases i with
      | zero => simp [hx]
      | succ j =>
        have := tw_step (p := p) r j (by simpa using h)
        simpa using this
    · rw [List.takeWhile_cons, if_neg hx] at h ⊢
      have : i = 0 := by simpa using h
      subst this
      simp [hx]
theorem low_le (c : Nat) : (!decide ((tl (mk [c])) < tl ("a" : Str))) = decide (97 ≤ c) := by
  have e : tl ("a" : Str) = [97] := by decide +kernel
  rw [e]
  show (!decide ([c] < [97])) = _
  by_cases h : 97 ≤ c
  · rw [decide_eq_true h, decide_eq_false (fun z => by rw [List.cons_lt_cons_iff] at z; rcases z with z | ⟨_, z⟩; omega; exact absurd z (by simp))]
    rfl
  · rw [decide_eq_false h, decide_eq_true (by rw [List.cons_lt_cons_iff]; exact .inl (by omega))]
    rfl
theorem le_low (c : Nat) : (!decide (tl ("z" : Str) < (tl (mk [c])))) = decide (c ≤ 122) := by
  have e : tl ("z" : Str) = [122] := by decide +kernel
  rw [e]
  show (!decide ([122] < [c])) = _
  by_cases h : c ≤ 122
  · rw [decide_eq_true h, decide_eq_false (fun z => by rw [List.cons_lt_cons_iff] at z; rcases z with z | ⟨_, z⟩; omega; exact absurd z (by simp))]
    rfl
  · rw [decide_eq_false h, decide_eq_true (by rw [List.cons_lt_cons_iff]; exact .inl (by omega))]
    rfl
section
variable {P : Program} {w : World} {H H' : Hp}
/-- rows read -/
def RwL (P : Program) (w : World) (H : Hp) (xs : List V) (rows : List (Str × PyData)) : Prop := Paired (fun (x : V) (q : Str × PyData) => ∃ tr v, x = .ref tr ∧ H tr = some (.tup [.str q.1, v]) ∧ Da P w H v q.2) xs rows
theorem RwL.kp {xs : List V} {rows : List (Str × PyData)} (h : RwL P w H xs rows) (k : ∀ b vs, H b = some (.tup vs) → H' b = some (.tup vs)) (k2 : Kp H H') : RwL P w H' xs rows :=
  Paired.mapP h fun x q ⟨tr, v, e, h1, h2⟩ => ⟨tr, v, e, k _ _ h1, h2.kp k2⟩
end
theorem opn_drop {z : List Nat} {a b n : Nat} (h : opn (z.drop a) ≤ n) (hab : a ≤ b) : opn (z.drop b) ≤ n := by
  have e : z.drop b = (z.drop a).drop (b - a) := by rw [List.drop_drop]; congr 1; omega
  have : ∀ (l : List Nat) (k : Nat), opn (l.drop k) ≤ opn l := fun l k => by
    have := opn_app (l.take k) (l.drop k)
    rw [List.take_append_drop] at this
    omega
  rw [e]
  exact Nat.le_trans (this _ _) h
section
variable {P : Program} {w : World} {K : PySem.W.Frag} {mg : Str → Option Value} {base : Heap} {f g g2 g3 : Addr} {fd gd gd2 gd3 : FuncData}
/-- a part that the law reads -/
def spPt (P : Program) (w : World) (n : Nat) : Sp := fun vs H Q _ => ∃ (z : Str) (a : Nat), vs = [.str z, .int (a : Nat)] ∧ (tl z).length ≤ 300 ∧ (∀ c ∈ tl z, c < 128) ∧ a ≤ (tl z).length ∧ opn ((tl z).drop a) ≤ n ∧
  (partR n ((tl z).drop a) = none → ∀ H', Same H H' → Q .non H') ∧
  ∀ d s, partR n ((tl z).drop a) = some (d, s) → ∀ t v H' (e : Nat), Same H H' → H t = none → H' t = some (.tup [v, .int (e : Nat)]) → Da P w H' v d → e ≤ (tl z).length → (tl z).drop e = s → a ≤ e → Q (.ref t) H'
def spIt (P : Program) (w : World) (n : Nat) : Sp := fun vs H Q _ => ∃ (z : Str) (a : Nat) (hf : Bool), vs = [.str z, .int (a : Nat), .bl hf] ∧ (tl z).length ≤ 300 ∧ (∀ c ∈ tl z, c < 128) ∧ a < (tl z).length ∧ opn ((tl z).drop (a + 1)) ≤ n ∧
  (itemsR (partR n) hf ((tl z).drop (a + 1)) = none → ∀ H', Same H H' → Q .non H') ∧
  ∀ rows s, itemsR (partR n) hf ((tl z).drop (a + 1)) = some (rows, s) → ∀ t l xs H' (e : Nat), Same H H' → H t = none → H' t = some (.tup [.ref l, .int (e : Nat)]) → H' l = some (.lst xs) → RwL P w H' xs rows → e ≤ (tl z).length → (tl z).drop e = s → a ≤ e → Q (.ref t) H'
def ItW (P : Program) (w : World) (H : Hp) (z : Str) (a n : Nat) (hf : Bool) (l : Addr) (m : Nat) (σ : L2.St) (H' : Hp) : Prop :=
  ∃ (b : Nat) (xs : List V) (rows : List (Str × PyData)) (fv sv tv : Option V), σ = [some (.str z), some (.int (b : Nat)), some (.bl hf), some (.str (mk [endC hf])), some (.ref l), fv, sv, tv] ∧ Same H H' ∧ H' l = some (.lst xs) ∧ RwL P w H' xs rows ∧
    a + 1 ≤ b ∧ b ≤ (tl z).length ∧ ((tl z).drop b).length < m ∧ rows.length ≤ b ∧ itemsR (partR n) hf ((tl z).drop (a + 1)) = (loopR (partR n) hf m (rows.getLast?.map (·.1)) ((tl z).drop b)).map (fun p => (rows ++ p.1, p.2))
abbrev NgIt : List Str := ["_law_text", "_law_at", "_law_has_fields", "_law_end", "_law_rows", "_law_field", "_law_stop", "_law_told"]
theorem scIt : FnScope NgIt ["_law_text", "_law_at", "_law_has_fields"] (defScope (top 39)) := ⟨rfl, rfl, rfl, by decide +kernel, rfl, by decide +kernel, by decide +kernel⟩
theorem cut_mk (z : Str) {a e : Nat} (h : a ≤ (tl z).length) : cutS z (some (a : Int)) (some (e : Int)) = mk (((tl z).drop a).take (e - a)) := ext_tl (tl_cut z (by rw [len_tl]; exact h))
theorem ok_it {n : Nat} (F : FnD K "_law_items" 39 f fd) (B : Bl mg)
    (GP : FnOk P w K mg base CX0 (2 * n + 2) g gd ["_law_text", "_law_at"] (spPt P w n)) (bP : Binds K gd ["_law_text", "_law_at"] []) (kP : PySem.W.keepIn K (.ref g) = true) (gP : mg "_law_part" = some (.ref g)) :
    FnOk P w K mg base CX0 (2 * n + 3) f fd ["_law_text", "_law_at", "_law_has_fields"] (spIt P w n) := by
  refine F.ok scIt (fun vs H Q E h => ?_) (fun cdv A outer s H vs Q E hr h => ?_)
  · obtain ⟨z, a, hf, rfl, _⟩ := h
    rfl
  obtain ⟨z, a, hf, rfl, hz, lo, ha, ho, qn, qs⟩ := h
  have hu1 := hu_of hr
  refine ⟨_, PSs.nox (C8.pss_cut (ps_par3 (i := 3) (j := 4) (l := 1) rfl scIt.nd rfl rfl rfl (by decide) (by decide) (by decide) rfl rfl rfl (pa_cons (pe_ifExp (pt_val (pv 2)) pe_str pe_str) (pa_cons (pe_lst pa_nil) (pa_cons (pe_op op_add (pv 1) pe_int) pa_nil))) (by rfl)) (pss_cons (ps_if (pt_cmpR op_eq (pe_slice sl_str (pv 0) (po_some (pv 1)) (po_some (pe_op op_add (pv 1) pe_int))) (pv 3) (nomark _)) (pss_one (ps_ret (pe_tup (pa_cons (pe_lst pa_nil) (pa_cons (pe_op op_add (pv 1) pe_int) pa_nil))))) pss_nil) (pss_one (ps_while PassesOwn.never (pt_val pe_bl) (pss_cons (ps_set (i := 5) scIt.nd rfl (Or.inl rfl) pe_str) (C8.pss_cut (ps_if (pt_val (pv 2)) (pss_cons (ps_set (i := 6) scIt.nd rfl (Or.inl rfl) (pv 1)) (C8.pss_cut (ps_while PassesOwn.never (PW.pt (pw_and (pt_cmpR op_lt (pv 6) (pe_callB call_len_str (by rfl) B.len PySem.boot_len (pa_cons (pv 0) pa_nil)) (nomark _)) (pw_and1 (pt_chain op_le_str op_le_str pe_str (pe_ix ix_str (pv 0) (pv 6) (fun _ _ => rfl)) pe_str)))) (pss_one (ps_set (i := 6) scIt.nd rfl (Or.inl rfl) (pe_op op_add (pv 6) pe_int)))) (pss_cons (ps_set (i := 5) scIt.nd rfl (Or.inl rfl) (pe_slice sl_str (pv 0) (po_some (pv 1)) (po_some (pv 6)))) (pss_cons (ps_if (PW.pt (pw_or (pt_not (pt_chain op_le op_le pe_int (pe_callB call_len_str (by rfl) B.len PySem.boot_len (pa_cons (pv 5) pa_nil)) pe_int)) (pw_or (pt_cmpR op_ne (pe_slice sl_str (pv 0) (po_some (pv 6)) (po_some (pe_op op_add (pv 6) pe_int))) pe_str (nomark _)) (pw_or1 (PW.pt (pw_and (pt_cmpR (op_neNil (Nat.lt_of_succ_lt hu1)) (pv 4) (pe_lst pa_nil) (nomark _)) (pw_and1 (pt_cmpR op_le_str (pv 5) (pe_ix ix_tup (pe_ix ix_list (pv 4) (pe_un un_neg pe_int) (fun _ _ => rfl)) pe_int (fun _ _ => rfl)) (nomark _))))))))) (pss_one (ps_ret pe_non)) pss_nil) (pss_one (ps_set (i := 1) scIt.nd rfl (Or.inl rfl) (pe_op op_add (pv 6) pe_int))))))) pss_nil) (pss_cons (ps_set (i := 7) scIt.nd rfl (Or.inl rfl) (pe_call GP hr rfl gP kP bP .nil pass0 (pa_cons (pv 0) (pa_cons (pv 1) pa_nil)))) (pss_cons (ps_if (pt_cmpR op_isN (pv 7) pe_non (nomark _)) (pss_one (ps_ret pe_non)) pss_nil) (pss_cons (ps_expr (pe_bm PySem.F.plainAttrs_list PySem.F.slot_list_append PySem.F.type_list_append mt_append (pv 4) (pa_cons (pe_tup (pa_cons (pv 5) (pa_cons (pe_ix ix_tup (pv 7) pe_int (fun _ _ => rfl)) pa_nil))) pa_nil))) (pss_cons (ps_set (i := 1) scIt.nd rfl (Or.inl rfl) (pe_ix ix_tup (pv 7) pe_int (fun _ _ => rfl))) (pss_cons (ps_if (pt_cmpR op_eq (pe_slice sl_str (pv 0) (po_some (pv 1)) (po_some (pe_op op_add (pv 1) pe_int))) (pv 3) (nomark _)) (pss_one (ps_ret (pe_tup (pa_cons (pv 4) (pa_cons (pe_op op_add (pv 1) pe_int) pa_nil))))) pss_nil) (pss_cons (ps_if (pt_cmpR op_ne (pe_slice sl_str (pv 0) (po_some (pv 1)) (po_some (pe_op op_add (pv 1) pe_int))) pe_str (nomark _)) (pss_one (ps_ret pe_non)) pss_nil) (pss_one (ps_set (i := 1) scIt.nd rfl (Or.inl rfl) (pe_op op_add (pv 1) pe_int))))))))))))))), ?_⟩
  have two : 2 ≤ sizeLine := by decide
  have zero : 0 ≤ sizeLine := by decide
  have big : (1000000 : Nat) ≤ sizeLine := by decide
  have zl : z.length = (tl z).length := len_tl z
  have e93 : ("]" : Str) = mk [93] := by decide +kernel
  have e125 : ("}" : Str) = mk [125] := by decide +kernel
  have esep : (", " : Str) = mk [44, 32] := by decide +kernel
  have ecol : (": " : Str) = mk [58, 32] := by decide +kernel
  have enil : ("" : Str) = mk [] := by decide +kernel
  have inj : ∀ {a b : List Nat}, V.str (mk a) = V.str (mk b) → a = b := fun h => congrArg tl (V.str.inj h)
  have take1 : ∀ (l : List Nat) (c : Nat), l.take 1 = [c] ↔ l.head? = some c := fun l c => by
    cases l with
    | nil => simp
    | cons x r => simp
  have cutA : ∀ b, b ≤ (tl z).length → cutS z (some (b : Int)) (some ((b : Int) + 1)) = mk (((tl z).drop b).take 1) := fun b hb => by
    have e : ((b : Int) + 1) = ((b + 1 : Nat) : Int) := by omega
    rw [e, cut_mk z hb, Nat.add_sub_cancel_left]
  have cutB : ∀ b, b ≤ (tl z).length → cutS z (some (b : Int)) (some ((b : Int) + 2)) = mk (((tl z).drop b).take 2) := fun b hb => by
    have e : ((b : Int) + 2) = ((b + 2 : Nat) : Int) := by omega
    rw [e, cut_mk z hb, Nat.add_sub_cancel_left]
  refine ⟨fun σ H1 => ∃ l, Same H H1 ∧ H l = none ∧ H1 l = some (.lst []) ∧ σ = [some (.str z), some (.int ((a + 1 : Nat) : Int)), some (.bl hf), some (.str (mk [endC hf])), some (.ref l), none, none, none], ?m1, ?m2⟩
  case m1 =>
    cases hf with
    | true => exact ⟨_, rfl, _, rfl, iteT ⟨zero, fun l hl => ⟨_, rfl, _, _, rfl, rfl, _, _, _, rfl, l, same_new hl _, hl, upd_same, by rw [e125]; rfl⟩⟩⟩
    | false => exact ⟨_, rfl, _, rfl, iteF ⟨zero, fun l hl => ⟨_, rfl, _, _, rfl, rfl, _, _, _, rfl, l, same_new hl _, hl, upd_same, by rw [e93]; rfl⟩⟩⟩
  case m2 =>
    rintro σ H1 ⟨l, k1, hlH, hl1, rfl⟩
    refine ⟨_, rfl, _, rfl, _, rfl, _, rfl, _, _, rfl, rfl, _, rfl, z, rfl, by omega, _, rfl, rfl, _, rfl, ?_⟩
    rw [cutA (a + 1) (by omega)]
    by_cases h0 : ((tl z).drop (a + 1)).head? = some (endC hf)
    · have e0 : itemsR (partR n) hf ((tl z).drop (a + 1)) = some ([], ((tl z).drop (a + 1)).drop 1) := if_pos h0
      refine ite_t (decide_eq_true (by rw [(take1 _ _).mpr h0])) ⟨zero, fun l2 hl2 => ⟨_, rfl, _, _, rfl, rfl, two, fun t ht => ?_⟩⟩
      have k2 := same_new hl2 (.lst [])
      have e1 : (((a + 1 : Nat) : Int) + 1) = ((a + 2 : Nat) : Int) := by omega
      have la2 : a + 2 ≤ (tl z).length := by
        have := congrArg List.length (head1 h0)
        rw [List.length_drop, List.length_cons] at this
        omega
      exact qs _ _ e0 t l2 [] _ (a + 2) ((k1.trans k2).trans (same_new ht _)) (Same.free (k1.trans k2) ht) (by rw [upd_same, ← e1]) ((same_new ht _) _ _ upd_same) .nil la2 (by rw [List.drop_drop]) (by omega)
    refine ite_f (decide_eq_false fun h => h0 ((take1 _ _).mp (inj h))) ?_
    have e0 : itemsR (partR n) hf ((tl z).drop (a + 1)) = loopR (partR n) hf (((tl z).drop (a + 1)).length + 1) none ((tl z).drop (a + 1)) := if_neg h0
    refine ⟨ItW P w H z a n hf l, ⟨((tl z).drop (a + 1)).length + 1, a + 1, [], [], none, none, none, rfl, k1, hl1, .nil, Nat.le_refl _, by omega, by omega, Nat.zero_le _, ?_⟩, ?_⟩
    · rw [e0]
      show _ = Option.map _ (loopR (partR n) hf _ none _)
      cases loopR (partR n) hf (((tl z).drop (a + 1)).length + 1) none ((tl z).drop (a + 1)) <;> rfl
    rintro m σ H2 ⟨b, xs, rows, fv, sv, tv, rfl, k2, hl2, hrw, hab, hbz, hm, hrl, hrel⟩
    obtain ⟨m, rfl⟩ : ∃ m', m = m' + 1 := ⟨m - 1, by omega⟩
    refine ⟨_, rfl, iteT ⟨ItW P w H z a n hf l m, fun σ' H' h => ⟨m, Nat.lt_succ_self m, h⟩, ?_⟩⟩
    have hrl2 : xs.length = rows.length := Paired.length hrw
    -- what the turn's result is
    have hnone : ∀ {H'}, loopR (partR n) hf (m + 1) (rows.getLast?.map (·.1)) ((tl z).drop b) = none → Same H H' → Q .non H' := fun h k => qn (by rw [hrel, h]; rfl) _ k
    refine ⟨fun σ H3 => ∃ (b1 : Nat) (k : Str) (sv' tv' : Option V), σ = [some (.str z), some (.int (b1 : Nat)), some (.bl hf), some (.str (mk [endC hf])), some (.ref l), some (.str k), sv', tv'] ∧ Same H2 H3 ∧ k.length ≤ 1000 ∧
      fldR hf (rows.getLast?.map (·.1)) ((tl z).drop b) = some (k, (tl z).drop b1) ∧ b ≤ b1 ∧ b1 ≤ (tl z).length, ?f1, ?f2⟩
    case f2 =>
      rintro σ H3 ⟨b1, k, sv', tv', rfl, k3, hkl, hfl, hb1, hb1z⟩
      have k13 := k2.trans k3
      have hl3 := k3 _ _ hl2
      have unf : loopR (partR n) hf (m + 1) (rows.getLast?.map (·.1)) ((tl z).drop b) = (match partR n ((tl z).drop b1) with
          | none => none
          | some (d, l2) => if l2.head? = some (endC hf) then some ([(k, d)], l2.drop 1)
            else if l2.take 2 = [44, 32] then (loopR (partR n) hf m (some k) (l2.drop 2)).map (fun p => ((k, d) :: p.1, p.2)) else none) := by
        conv => lhs; unfold loopR
        rw [hfl]
        all_goals
          show (match partR n ((tl z).drop b1) with
            | none => none
            | some (d, l2) => _) = _
          cases partR n ((tl z).drop b1) with
          | none => rfl
          | some p => rfl
      refine ⟨_, rfl, _, rfl, z, b1, rfl, hz, lo, hb1z, opn_drop ho (by omega), fun hp H4 k4 => ?pn, fun d s hp t v H4 e k4 htn ht hd he hes hbe => ?ps⟩
      case pn =>
        exact ⟨_, rfl, rfl, _, rfl, iteT (hnone (by rw [unf, hp]) (k13.trans k4))⟩
      case ps =>
        rw [hp] at unf
        simp only at unf
        have hl4 := k4 _ _ hl3
        have hrw4 : RwL P w H4 xs rows := hrw.kp (fun b vs h => k4 _ _ (k3 _ _ h)) (.same (k3.trans k4))
        refine ⟨_, rfl, rfl, _, rfl, iteF ⟨_, rfl, .inl ⟨rfl, _, SqL.of hl4⟩, _, rfl, _, rfl, t, _, _, _, rfl, rfl, SqT.of ht, atI_nat (j := 0) rfl, two, fun tr htr => ⟨l, _, _, rfl, rfl, (same_new htr _) _ _ hl4, ?_, ?_⟩⟩⟩
        · exact K00.small1000 (by omega)
        have ntr : l ≠ tr := ne_of_none hl4 htr
        have ntl : t ≠ l := fun y => by rw [y, hl4] at ht; cases ht
        have kb := same_new htr (.tup [.str k, v])
        have kp5 : Kp H4 (upd (upd H4 tr (.tup [.str k, v])) l (.lst (xs ++ [V.ref tr]))) := (Kp.same kb).trans (.lst (kb _ _ hl4) _)
        have tup5 : ∀ b vs, H4 b = some (.tup vs) → upd (upd H4 tr (.tup [.str k, v])) l (.lst (xs ++ [V.ref tr])) b = some (.tup vs) := fun b vs h => by
          rw [upd_ne (fun y => by rw [y, hl4] at h; cases h)]
          exact kb _ _ h
        have k5 : Same H (upd (upd H4 tr (.tup [.str k, v])) l (.lst (xs ++ [V.ref tr]))) := fun b o y => by
          rw [upd_ne (ne_of_none y hlH)]
          exact kb _ _ (k4 _ _ (k13 _ _ y))
        have hrw5 : RwL P w (upd (upd H4 tr (.tup [.str k, v])) l (.lst (xs ++ [V.ref tr]))) (xs ++ [V.ref tr]) (rows ++ [(k, d)]) :=
          paired_append (hrw4.kp tup5 kp5) (.cons ⟨tr, v, rfl, by rw [upd_ne (Ne.symm ntr), upd_same], hd.kp kp5⟩ .nil)
        have hl5 : upd (upd H4 tr (.tup [.str k, v])) l (.lst (xs ++ [V.ref tr])) l = some (.lst (xs ++ [V.ref tr])) := upd_same
        have ht5 := tup5 _ _ ht
        have nH : H t = none := by
          cases q : H t with
          | none => rfl
          | some o => rw [k13 _ _ q] at htn; cases htn
        generalize upd (upd H4 tr (.tup [.str k, v])) l (.lst (xs ++ [V.ref tr])) = H5 at k5 hrw5 hl5 ht5
        refine ⟨_, rfl, t, _, _, _, rfl, rfl, SqT.of ht5, atI_nat (j := 1) rfl, ?_⟩
        refine ⟨_, rfl, _, rfl, _, rfl, _, rfl, _, _, rfl, rfl, _, rfl, z, rfl, by omega, _, rfl, rfl, _, rfl, ?_⟩
        rw [cutA e he, hes]
        by_cases hend : s.head? = some (endC hf)
        · refine ite_t (decide_eq_true (by rw [(take1 _ _).mpr hend])) ⟨_, rfl, _, rfl, _, _, rfl, rfl, two, fun t2 ht2 => ?_⟩
          rw [if_pos hend] at unf
          have la2 : e + 1 ≤ (tl z).length := by
            have := congrArg List.length (head1 hend)
            rw [← hes, List.length_drop, List.length_cons] at this
            omega
          exact qs _ _ (by rw [hrel, unf]; rfl) t2 l _ _ (e + 1) (k5.trans (same_new ht2 _)) (Same.free k5 ht2) upd_same ((same_new ht2 _) _ _ hl5) (hrw5.kp (fun b vs h => (same_new ht2 _) _ _ h) (.same (same_new ht2 _))) la2 (by rw [← hes, List.drop_drop]) (by omega)
        refine ite_f (decide_eq_false fun h => hend ((take1 _ _).mp (inj h))) ?_
        rw [if_neg hend] at unf
        refine ⟨_, rfl, _, rfl, _, rfl, _, rfl, _, _, rfl, rfl, _, rfl, z, rfl, by omega, rfl, _, rfl, ?_⟩
        rw [cutB e he, hes]
        by_cases hsep : s.take 2 = [44, 32]
        · rw [if_pos hsep] at unf
          have la2 : e + 2 ≤ (tl z).length := by
            have := congrArg List.length (take2 hsep)
            rw [← hes, List.length_drop, List.length_cons, List.length_cons] at this
            omega
          have dl1 := List.length_drop (l := tl z) (i := b)
          have dl2 := List.length_drop (l := tl z) (i := e + 2)
          refine ite_f (by rw [hsep, ← esep, decide_eq_true rfl]; rfl) ⟨_, rfl, _, _, rfl, rfl, e + 2, _, rows ++ [(k, d)], _, _, _, rfl, k5, hl5, hrw5, by omega, la2, by omega, by rw [List.length_append, List.length_singleton]; omega, ?_⟩
          have gl : (rows ++ [(k, d)]).getLast?.map (·.1) = some k := by simp
          have ed : (tl z).drop (e + 2) = s.drop 2 := by rw [← hes, List.drop_drop]
          rw [hrel, unf, gl, ed, Option.map_map]
          congr 1
          funext p
          show (rows ++ ((k, d) :: p.1), p.2) = ((rows ++ [(k, d)]) ++ p.1, p.2)
          rw [List.append_assoc]
          rfl
        · rw [if_neg hsep] at unf
          exact ite_t (by rw [decide_eq_false fun h => hsep (inj (h.trans (congrArg V.str esep)))]; rfl) (hnone unf k5)
    case f1 =>
      refine ⟨_, rfl, _, rfl, ?_⟩
      cases hf with
      | false => exact iteF ⟨b, mk [], _, _, by rw [← enil]; rfl, same_refl _, by decide, rfl, Nat.le_refl _, hbz⟩
      | true =>
        refine iteT ⟨_, rfl, ?_⟩
        generalize hlt : ((tl z).drop b).takeWhile lowC = lt
        have twl : lt.length ≤ ((tl z).drop b).length := by rw [← hlt]; exact (List.takeWhile_sublist _).length_le
        have dl := List.length_drop (l := tl z) (i := b)
        refine ⟨fun σ H3 => σ = [some (.str z), some (.int (b : Nat)), some (.bl true), some (.str (mk [endC true])), some (.ref l), some (.str (Str.ofString "")), some (.int ((b + lt.length : Nat) : Int)), tv] ∧ H3 = H2, ?w, ?rest⟩
        case w =>
          refine ⟨fun j σ H3 => ∃ i, j + i = lt.length ∧ σ = [some (.str z), some (.int (b : Nat)), some (.bl true), some (.str (mk [endC true])), some (.ref l), some (.str (Str.ofString "")), some (.int ((b + i : Nat) : Int)), tv] ∧ H3 = H2, ⟨lt.length, 0, rfl, rfl, rfl⟩, ?_⟩
          rintro j σ H3 ⟨i, hji, rfl, rfl⟩
          have tws := tw_step (p := lowC) ((tl z).drop b) i (by rw [hlt]; omega)
          rw [hlt, List.getElem?_drop] at tws
          have stopE : ¬ i < lt.length → b + i = b + lt.length := fun h => by omega
          refine ⟨_, rfl, _, rfl, z, rfl, by omega, _, _, rfl, rfl, _, rfl, ?_⟩
          refine ite2 (fun c => ?_) (fun c => ?_)
          · have c' : ((b + i : Nat) : Int) < (z.length : Int) := of_decide_eq_true c
            have hlt2 : b + i < (tl z).length := by omega
            have hg : (tl z)[b + i]? = some (tl z)[b + i] := List.getElem?_eq_getElem hlt2
            generalize (tl z)[b + i] = ch at hg
            refine ⟨_, rfl, _, rfl, z, _, ch, rfl, rfl, by omega, atI_nat hg, _, _, rfl, rfl, _, rfl, ?_⟩
            have lowch : lowC ch = (decide (97 ≤ ch) && decide (ch ≤ 122)) := rfl
            by_cases h97 : 97 ≤ ch
            · refine ite_t ((low_le ch).trans (decide_eq_true h97)) ⟨_, _, rfl, rfl, _, rfl, ?_⟩
              by_cases h122 : ch ≤ 122
              · have il : i < lt.length := tws.mpr ⟨ch, hg, by rw [lowch, decide_eq_true h97, decide_eq_true h122]; rfl⟩
                refine ite_t ((le_low ch).trans (decide_eq_true h122)) ⟨_, fun σ' H' h => ⟨j - 1, by omega, h⟩, _, rfl, _, _, rfl, rfl, i + 1, by omega, rfl, rfl⟩
              · have il : ¬ i < lt.length := fun h => by
                  obtain ⟨c2, e2, z2⟩ := tws.mp h
                  rw [hg] at e2
                  cases e2
                  rw [lowch, decide_eq_false h122, Bool.and_false] at z2
                  cases z2
                rw [stopE il]
                exact ite_f ((le_low ch).trans (decide_eq_false h122)) ⟨rfl, rfl⟩
            · have il : ¬ i < lt.length := fun h => by
                obtain ⟨c2, e2, z2⟩ := tws.mp h
                rw [hg] at e2
                cases e2
                rw [lowch, decide_eq_false h97, Bool.false_and] at z2
                cases z2
              rw [stopE il]
              exact ite_f ((low_le ch).trans (decide_eq_false h97)) ⟨_, rfl, iteF ⟨rfl, rfl⟩⟩
          · have c' : ¬ ((b + i : Nat) : Int) < (z.length : Int) := fun h => c (decide_eq_true h)
            rw [stopE (by omega)]
            exact iteF ⟨rfl, rfl⟩
        case rest =>
          rintro σ H3 ⟨rfl, rfl⟩
          have dwl : ((tl z).drop b).dropWhile lowC = (tl z).drop (b + lt.length) := by
            have := List.takeWhile_append_dropWhile (p := lowC) (l := (tl z).drop b)
            rw [hlt] at this
            rw [← List.drop_drop]
            have h2 := congrArg (List.drop lt.length) this
            rw [List.drop_left] at h2
            exact h2
          have ltk : ((tl z).drop b).take lt.length = lt := by
            have := List.takeWhile_append_dropWhile (p := lowC) (l := (tl z).drop b)
            rw [hlt] at this
            have h2 := congrArg (List.take lt.length) this
            rw [List.take_left] at h2
            exact h2.symm
          have ecut : cutS z (some (b : Int)) (some ((b + lt.length : Nat) : Int)) = mk lt := by rw [cut_mk z hbz, Nat.add_sub_cancel_left, ltk]
          have hfld : fldR true (rows.getLast?.map (·.1)) ((tl z).drop b) = if lt.length = 0 ∨ 8 < lt.length ∨ ((tl z).drop (b + lt.length)).take 2 ≠ [58, 32] ∨ lateB (rows.getLast?.map (·.1)) lt = true then none else some (mk lt, ((tl z).drop (b + lt.length)).drop 2) := by
            unfold fldR
            rw [if_pos rfl, hlt, dwl]
          refine ⟨_, rfl, _, rfl, _, rfl, _, rfl, _, rfl, z, rfl, by omega, ?_⟩
          rw [ecut]
          have noF : (lt.length = 0 ∨ 8 < lt.length ∨ ((tl z).drop (b + lt.length)).take 2 ≠ [58, 32] ∨ lateB (rows.getLast?.map (·.1)) lt = true) → ∀ H', Same H H' → Q .non H' := fun hc H' k => by
            refine hnone ?_ k
            unfold loopR
            rw [hfld, if_pos hc]
          have ml : (mk lt).length = lt.length := rfl
          refine ⟨_, rfl, mk lt, rfl, by omega, _, _, rfl, rfl, _, rfl, ?_⟩
          by_cases h1 : 1 ≤ lt.length
          · refine ite_t (decide_eq_true (by omega)) ⟨_, _, rfl, rfl, _, rfl, ?_⟩
            by_cases h8 : lt.length ≤ 8
            · have ed : decide (((mk lt).length : Int) ≤ 8) = true := decide_eq_true (by omega)
              rw [ed]
              have cutC : cutS z (some ((b + lt.length : Nat) : Int)) (some (((b + lt.length : Nat) : Int) + 2)) = mk (((tl z).drop (b + lt.length)).take 2) := cutB _ (by omega)
              refine iteF ⟨_, rfl, _, rfl, _, rfl, _, rfl, _, _, rfl, rfl, _, rfl, z, rfl, by omega, rfl, _, rfl, ?_⟩
              rw [cutC]
              by_cases hsep : ((tl z).drop (b + lt.length)).take 2 = [58, 32]
              · refine ite_f (by rw [hsep, ← ecol, decide_eq_true rfl]; rfl) ?_
                refine ⟨_, rfl, zero, fun l2 hl2' => ⟨l, l2, xs, rfl, rfl, SqL.of ((same_new hl2' _) _ _ hl2), SqL.of upd_same, _, rfl, ?_⟩⟩
                have kz := same_new hl2' (.lst [])
                have la2 : b + lt.length + 2 ≤ (tl z).length := by
                  have := congrArg List.length (take2 hsep)
                  rw [List.length_drop, List.length_cons, List.length_cons] at this
                  omega
                have okF : lateB (rows.getLast?.map (·.1)) lt ≠ true → fldR true (rows.getLast?.map (·.1)) ((tl z).drop b) = some (mk lt, (tl z).drop (b + lt.length + 2)) := fun hl => by
                  rw [hfld, if_neg, List.drop_drop]
                  rintro (y | y | y | y)
                  · omega
                  · omega
                  · exact y hsep
                  · exact hl y
                rcases List.eq_nil_or_concat rows with hr0 | ⟨rows', q0, hr0⟩
                · subst hr0
                  have hx0 : xs = [] := List.eq_nil_of_length_eq_zero (by rw [hrl2]; rfl)
                  subst hx0
                  refine iteF (iteF ⟨_, rfl, _, _, rfl, rfl, b + lt.length + 2, mk lt, _, _, rfl, kz, by omega, okF (fun z => by cases z), by omega, la2⟩)
                · rw [List.concat_eq_append] at hr0
                  subst hr0
                  have hrv := paired_rev hrw
                  rw [List.reverse_append] at hrv
                  obtain ⟨x0, xr, hxr⟩ : ∃ x0 xr, xs.reverse = x0 :: xr := by
                    cases q : xs.reverse with
                    | nil => rw [q] at hrv; cases hrv
                    | cons x0 xr => exact ⟨x0, xr, rfl⟩
                  have hxs : xs = xr.reverse ++ [x0] := by
                    have := congrArg List.reverse hxr
                    rw [List.reverse_reverse, List.reverse_cons] at this
                    exact this
                  rw [hxr] at hrv
                  cases hrv with
                  | cons hq0 _ =>
                  obtain ⟨tr, v0, rfl, htr, _⟩ := hq0
                  have gl : (rows' ++ [q0]).getLast?.map (·.1) = some q0.1 := by simp
                  rw [gl] at noF okF ⊢
                  subst hxs
                  have ne : (!(xr.reverse ++ [V.ref tr]).isEmpty) = true := by cases xr.reverse <;> rfl
                  refine ite_t ne ⟨_, rfl, _, rfl, _, rfl, l, _, _, .ref tr, rfl, rfl, SqL.of (kz _ _ hl2), at_last, tr, _, _, _, rfl, rfl, SqT.of (kz _ _ htr), atI_nat (j := 0) rfl, _, _, rfl, rfl, _, rfl, ?_⟩
                  have el : (!decide (tl q0.1 < tl (mk lt))) = lateB (some q0.1) lt := rfl
                  by_cases hlate : lateB (some q0.1) lt = true
                  · exact ite_t (el.trans hlate) (noF (.inr (.inr (.inr hlate))) _ (k2.trans kz))
                  · refine ite_f (el.trans (by simpa using hlate)) ⟨_, rfl, _, _, rfl, rfl, b + lt.length + 2, mk lt, _, _, rfl, kz, by omega, ?_, by omega, la2⟩
                    exact okF hlate
              · exact ite_t (by rw [decide_eq_false fun h => hsep (inj (h.trans (congrArg V.str ecol)))]; rfl) (iteT (noF (.inr (.inr (.inl hsep))) _ k2))
            · have ed : decide (((mk lt).length : Int) ≤ 8) = false := decide_eq_false (by omega)
              rw [ed]
              exact iteT (iteT (noF (.inr (.inl (by omega))) _ k2))
          · exact ite_f (decide_eq_false (by omega)) ⟨_, rfl, iteT (iteT (noF (.inl (by omega)) _ k2))⟩
end
end K87
set_option Elab.async false
set_option linter.all false
set_option maxRecDepth 100000
set_option maxHeartbeats 8000000
/-! L88W: _law_part, of any text. -/
namespace K87
open PySem PySem.Spec L2 K00 TL CwR
open PyProof.Rows (envOfC sortedS)
section
variable {X : Cx} {st : Stmt} {rest : List Stmt} {t u : TS}
theorem psst_cut (h1 : PS X st t) (h2 : PSsT X rest u) : PSsT X (st :: rest) (C8.tCut t u) := by
  intro pins s σ H D h0 I h
  obtain ⟨Mid, hm, hu⟩ := h
  refine wpAny_execs_cons (wpAny_mono (PySem.wpAny_toks (h1.run pins s σ H { D with nx := Mid } I hm)) (fun f s1 q => ?_) fun _ _ x => x.2)
  obtain ⟨hk, q⟩ := q
  cases f with
  | next =>
    obtain ⟨σ', H', I', q⟩ := q
    exact h2 pins s1 σ' H' D (Nat.le_trans h0 hk) I' (hu σ' H' q)
  | ret v => exact q
  | brk => exact q
  | cont => exact q
theorem PSsT.nox {st : List Stmt} {t : TS} (h : PSsT X.nox st t) : PSsT X st t := fun pins s σ H D h0 I hw =>
  wpAny_mono (h pins s σ H D h0 (I.wish _) hw) (fun _ _ q => q.unwish) fun _ _ z => False.elim z
end
/-- rows as they stand -/
theorem rows_ent {P : Program} {w : World} {H : Hp} {xs : List V} {rows : List (Str × PyData)} (h : RwL P w H xs rows) :
    ∃ (ps : List Addr) (kvs : List (Key × V)), xs = ps.map V.ref ∧ Paired (fun (p : Addr) (kv : Key × V) => H p = some (.tup [kV kv.1, kv.2])) ps kvs ∧ Ent P w H kvs rows ∧ kvs.length = rows.length := by
  unfold RwL at h
  induction h with
  | nil => exact ⟨[], [], rfl, .nil, .nil, rfl⟩
  | @cons x q xs rows hx r ih =>
    obtain ⟨ps, kvs, rfl, h1, h2, h3⟩ := ih
    obtain ⟨tr, v, rfl, ht, hv⟩ := hx
    exact ⟨tr :: ps, (Sum.inr q.1, v) :: kvs, rfl, .cons ht h1, .cons hv h2, by rw [List.length_cons, List.length_cons, h3]⟩
theorem paired_get {α β : Type} {F : α → β → Prop} : ∀ {xs : List α} {ys : List β}, Paired F xs ys → ∀ {i : Nat} (h1 : i < xs.length) (h2 : i < ys.length), F xs[i] ys[i]
  | _, _, .cons a t, 0, _, _ => a
  | _, _, .cons a t, i + 1, h1, h2 => paired_get t (Nat.lt_of_succ_lt_succ h1) (Nat.lt_of_succ_lt_succ h2)
theorem ent_dal {P : Program} {w : World} {H : Hp} {kvs : List (Key × V)} {rows : List (Str × PyData)} (h : Ent P w H kvs rows) : DaL P w H (kvs.map (·.2)) (rows.map (·.2)) := by
  induction h with
  | nil => exact .nil
  | cons h r ih => exact .cons h ih
theorem Ent.kp {P : Program} {w : World} {H H' : Hp} {kvs : List (Key × V)} {rows : List (Str × PyData)} (h : Ent P w H kvs rows) (k : Kp H H') : Ent P w H' kvs rows := by
  induction h with
  | nil => exact .nil
  | cons h r ih => exact .cons (h.kp k) ih
theorem repl_none (c : Nat) : ∀ l : List Nat, c ∉ l → (l.map fun x => if x = c then ([] : List Nat) else [x]).flatten = l
  | [], _ => rfl
  | x :: r, h => by
    rw [List.map_cons, List.flatten_cons, if_neg (fun e => h (by rw [e]; exact List.mem_cons_self)), repl_none c r fun z => h (List.mem_cons_of_mem _ z)]
    rfl
section
variable {P : Program} {w : World} {K : PySem.W.Frag} {mg : Str → Option Value} {base : Heap} {f g g2 g3 : Addr} {fd gd gd2 gd3 : FuncData}
abbrev NgPt : List Str := ["_law_text", "_law_at", "_law_sign", "_law_told", "_law_row", "_law_word", "_law_document", "_law_stop", "_law_figures"]
theorem scPt : FnScope NgPt ["_law_text", "_law_at"] (defScope (top 41)) := ⟨rfl, rfl, rfl, by decide +kernel, rfl, by decide +kernel, by decide +kernel⟩
/-- _law_items, of so many that open, less one -/
def spItP (P : Program) (w : World) (n : Nat) : Sp := fun vs H Q E => ∃ m, n = m + 1 ∧ spIt P w m vs H Q E
theorem ok_pt {n : Nat} (F : FnD K "_law_part" 41 f fd) (B : Bl mg)
    (GS : FnOk P w K mg base CX0 1 g gd ["_law_text", "_law_at"] spLS) (bS : Binds K gd ["_law_text", "_law_at"] []) (kS : PySem.W.keepIn K (.ref g) = true) (gS : mg "_law_string" = some (.ref g))
    (GI : FnOk P w K mg base CX0 (2 * n + 1) g2 gd2 ["_law_text", "_law_at", "_law_has_fields"] (spItP P w n)) (bI : Binds K gd2 ["_law_text", "_law_at", "_law_has_fields"] []) (kI : PySem.W.keepIn K (.ref g2) = true) (gI : mg "_law_items" = some (.ref g2)) :
    FnOk P w K mg base CX0 (2 * n + 2) f fd ["_law_text", "_law_at"] (spPt P w n) := by
  obtain ⟨oc, od, dV, kVV, doc, pm, an, cdv, ct, osl, rfl, lk, hcd, _, _⟩ := F.ex
  refine fn_ofT lk hcd scPt (by decide +kernel) (by decide) (fun vs H Q E h => ?_) fun A outer s H vs Q E hr h => ?_
  · obtain ⟨z, a, rfl, _⟩ := h
    rfl
  obtain ⟨z, a, rfl, hz, lo, ha, ho, qn, qs⟩ := h
  have hr1 : Room 1 _ := hr.mono (by omega)
  have hrI : Room (2 * n + 1) _ := hr
  refine ⟨_, PSsT.nox (psst_cons (PST.of (ps_set (i := 2) scPt.nd rfl (Or.inl rfl) (pe_slice sl_str (pv 0) (po_some (pv 1)) (po_some (pe_op op_add (pv 1) pe_int))))) (psst_cons (PST.of (ps_if (pt_cmpR op_eq (pv 2) pe_str (nomark _)) (pss_one (ps_ret (pe_call GS hr1 rfl gS kS bS .nil pass0 (pa_cons (pv 0) (pa_cons (pv 1) pa_nil))))) pss_nil)) (psst_cons (PST.of (ps_if (pt_cmpR op_in_seq (pv 2) (pe_tup (pa_cons pe_str (pa_cons pe_str pa_nil))) (by rfl)) (pss_cons (ps_set (i := 3) scPt.nd rfl (Or.inl rfl) (pe_call GI hrI rfl gI kI bI .nil pass0 (pa_cons (pv 0) (pa_cons (pv 1) (pa_cons (pe_cmpR op_eq (pv 2) pe_str (nomark _)) pa_nil))))) (pss_cons (ps_if (pt_cmpR op_isN (pv 3) pe_non (nomark _)) (pss_one (ps_ret pe_non)) pss_nil) (pss_one (ps_ret (pe_tup (pa_cons (pe_ifExp (pt_cmpR op_eq (pv 2) pe_str (nomark _)) (pe_fzK (pe_callTy (call_dictP rfl) (by rfl) B.dict (by decide +kernel) (pa_cons (pe_ix ix_tup (pv 3) pe_int (fun _ _ => rfl)) pa_nil))) (pe_fz (pe_lc (own := [("_law_row", 4)]) (g := gName 4) (tt := tYes) (te := tOp (rIxT K) (tVar 4) (tC (.int 1))) rfl scPt.nd (pi_list (pe_ix ix_tup (pv 3) pe_int (fun _ _ => rfl))) (blkOk_by (N := NgPt) (sc := defScope (top 41)) (by decide +kernel)) (fun _ _ _ _ _ => pg_name (i := 4) scPt.nd rfl (Or.inl rfl)) (fun _ _ _ _ _ => pts_nil) (fun _ _ _ _ _ => pe_ix (r := rIxT K) ix_tup (pv 4) pe_int (fun _ _ => rfl))))) (pa_cons (pe_ix ix_tup (pv 3) pe_int (fun _ _ => rfl)) pa_nil))))))) pss_nil)) (psst_cut (ps_for PassesOwn.never rfl (pi_tup (pe_tup (pa_cons (pe_tup (pa_cons pe_str (pa_cons pe_bl pa_nil))) (pa_cons (pe_tup (pa_cons pe_str (pa_cons pe_bl pa_nil))) pa_nil)))) (pg_tup (by rfl) (pgs_cons (pg_name (i := 5) scPt.nd rfl (Or.inl rfl)) (pgs_cons (pg_name (i := 6) scPt.nd rfl (Or.inl rfl)) pgs_nil))) (pss_one (ps_if (pt_cmpR op_eq (pe_slice sl_str (pv 0) (po_some (pv 1)) (po_some (pe_op op_add (pv 1) (pe_callB call_len_str (by rfl) B.len PySem.boot_len (pa_cons (pv 5) pa_nil))))) (pv 5) (nomark _)) (pss_one (ps_ret (pe_tup (pa_cons (pv 6) (pa_cons (pe_op op_add (pv 1) (pe_callB call_len_str (by rfl) B.len PySem.boot_len (pa_cons (pv 5) pa_nil))) pa_nil))))) pss_nil))) (psst_cons (PST.of (ps_set (i := 7) scPt.nd rfl (Or.inl rfl) (pe_op op_add (pv 1) (pe_callTy call_int1 (by rfl) B.int (by decide +kernel) (pa_cons (pe_cmpR op_eq (pv 2) pe_str (nomark _)) pa_nil))))) (psst_cut (ps_while PassesOwn.never (PW.pt (pw_and (pt_cmpR op_lt (pv 7) (pe_callB call_len_str (by rfl) B.len PySem.boot_len (pa_cons (pv 0) pa_nil)) (nomark _)) (pw_and1 (pt_cmpR op_in_sign (pe_ix ix_str (pv 0) (pv 7) (fun _ _ => rfl)) pe_str (by rfl))))) (pss_one (ps_set (i := 7) scPt.nd rfl (Or.inl rfl) (pe_op op_add (pv 7) pe_int)))) (psst_cons (pst_set (i := 8) scPt.nd rfl (Or.inl rfl) (pet_replC (pe_slice sl_str (pv 0) (po_some (pv 1)) (po_some (pv 7))))) (psst_cons (PST.of (ps_if (pt_cmpR op_eq (pv 8) pe_str (nomark _)) (pss_one (ps_ret (pe_ifExp (pt_cmpR op_eq (pv 2) pe_str (nomark _)) (pe_tup (pa_cons pe_non (pa_cons (pe_op op_add (pv 1) pe_int) pa_nil))) pe_non))) pss_nil)) (psst_cons (PST.of (ps_if (PW.pt (pw_and (pt_cmpR op_eq (pe_ix ix_str (pv 8) pe_int (fun _ _ => rfl)) pe_str (nomark _)) (pw_and1 (PW.pt (pw_or (pt_cmpR op_gt (pe_callB call_len_str (by rfl) B.len PySem.boot_len (pa_cons (pv 8) pa_nil)) pe_int (nomark _)) (pw_or1 (pt_cmpR op_eq (pv 2) pe_str (nomark _)))))))) (pss_one (ps_ret pe_non)) pss_nil)) (psst_one (PST.of (ps_ret (pe_tup (pa_cons (pe_callTy call_int_str (by rfl) B.int (by decide +kernel) (pa_cons (pe_slice sl_str (pv 0) (po_some (pv 1)) (po_some (pv 7))) pa_nil)) (pa_cons (pv 7) pa_nil))))))))))))))), ?_⟩
  have two : 2 ≤ sizeLine := by decide
  have zero : 0 ≤ sizeLine := by decide
  have big : (1000000 : Nat) ≤ sizeLine := by decide
  have zl : z.length = (tl z).length := len_tl z
  have cutA : ∀ b, b ≤ (tl z).length → cutS z (some (b : Int)) (some ((b : Int) + 1)) = mk (((tl z).drop b).take 1) := fun b hb => by
    have e : ((b : Int) + 1) = ((b + 1 : Nat) : Int) := by omega
    rw [e, cut_mk z hb, Nat.add_sub_cancel_left]
  have inj : ∀ {a b : List Nat}, V.str (mk a) = V.str (mk b) → a = b := fun h => congrArg tl (V.str.inj h)
  have e34 : ("\"" : Str) = mk [34] := by decide +kernel
  have b1 : tl ("[" : Str) = [91] := by decide +kernel
  have b2 : tl ("{" : Str) = [123] := by decide +kernel
  refine ⟨_, rfl, _, rfl, _, rfl, _, rfl, _, _, rfl, rfl, _, rfl, z, rfl, by omega, ?_⟩
  rw [cutA a ha]
  generalize hL : (tl z).drop a = l at ho qn qs ⊢
  have llen : l.length = (tl z).length - a := by rw [← hL, List.length_drop]
  have lol : ∀ c ∈ l, c < 128 := fun c hc => lo c (by rw [← hL] at hc; exact List.mem_of_mem_drop hc)
  have take1 : ∀ (c : Nat), l.take 1 = [c] ↔ l.head? = some c := fun c => by
    cases l with
    | nil => simp
    | cons x r => simp
  have dropN : ∀ k, (tl z).drop (a + k) = l.drop k := fun k => by rw [← hL, List.drop_drop]
  obtain ⟨R, eR, hR⟩ : ∃ R, partR n = partC R ∧ ∀ m, n = m + 1 → R = partR m := by
    cases n with
    | zero => exact ⟨_, rfl, fun m h => by omega⟩
    | succ m => exact ⟨_, rfl, fun m' h => by cases h; rfl⟩
  rw [eR] at qn qs
  have more : ∀ {e k : Nat}, e ≤ (tl z).length → ((tl z).drop e).length + k ≤ l.length → a + k ≤ e := fun h1 h2 => by
    rw [List.length_drop] at h2
    omega
  refine ⟨_, rfl, rfl, _, rfl, ?_⟩
  by_cases h34 : l.head? = some 34
  · have el := head1 h34
    refine ite_t (decide_eq_true (congrArg V.str ((congrArg mk ((take1 34).mpr h34)).trans e34.symm))) ?_
    have lp : 1 ≤ l.length := by rw [el]; exact Nat.succ_le_succ (Nat.zero_le _)
    have hp : ∀ o, strR (l.drop 1) = o → partC R l = o.map (fun p => (PyData.str (mk p.1), p.2)) := fun o h => by
      rw [el, partC_cons, if_pos rfl, h]
    refine ⟨_, rfl, _, rfl, z, a, rfl, by omega, by omega, fun h H' k => ?_, fun f s h t H' e k hn ht he hs => ?_⟩
    · rw [dropN 1] at h
      exact qn (hp _ h) H' k
    · rw [dropN 1] at h
      have snd := congrArg List.length (strR_sound _ _ (Nat.le_refl _) f s h)
      rw [List.length_append, List.length_cons, List.length_drop] at snd
      have := more (e := e) (k := 1) (by omega) (by rw [hs]; omega)
      exact qs _ _ (hp _ h) t _ H' e k hn ht (.str _) (by omega) hs (by omega)
  have n34 : l.head? ≠ some 34 := h34
  refine ite_f (decide_eq_false fun h => h34 ((take1 34).mp (inj (h.trans (congrArg V.str e34))))) ?_
  refine ⟨_, rfl, two, fun p1 hp1 => ⟨p1, _, rfl, .inr (SqT.of upd_same), rfl, rfl, _, rfl, ?_⟩⟩
  have k1 := same_new hp1 (.tup [.str (Str.ofString "["), .str (Str.ofString "{")])
  generalize upd H p1 (.tup [.str (Str.ofString "["), .str (Str.ofString "{")]) = H1 at k1 ⊢
  have ein := in_two (l.take 1) 91 123 _ _ b1 b2
  by_cases hbr : ∃ hf : Bool, l.head? = some (if hf = true then 123 else 91)
  · obtain ⟨hf, hh⟩ := hbr
    have el := head1 hh
    generalize er : l.drop 1 = r at el
    have sg : l.take 1 = [if hf = true then 123 else 91] := (take1 _).mpr hh
    refine ite_t (ein.trans (decide_eq_true (by rw [sg]; cases hf; exact .inl rfl; exact .inr rfl))) ?_
    have hfe : decide (V.str (mk (l.take 1)) = V.str (Str.ofString "{")) = hf := by
      rw [sg]
      cases hf with
      | true => exact decide_eq_true (congrArg V.str (ext_tl b2.symm))
      | false => exact decide_eq_false fun h => absurd (congrArg tl (V.str.inj h)) (by rw [b2]; decide)
    have ol : opn l = opn r + 1 := by
      rw [el]
      cases hf with
      | true => exact opn_123 r
      | false => exact opn_91 r
    obtain ⟨m, rfl⟩ : ∃ m, n = m + 1 := ⟨n - 1, by omega⟩
    have eRm := hR m rfl
    subst eRm
    have hpc : partC (partR m) l = (itemsR (partR m) hf r).map (fun p => (if hf = true then PyData.dict (p.1.map fun q => (.str q.1, q.2)) else PyData.list (p.1.map (·.2)), p.2)) := by
      rw [el, partC_cons]
      cases hf <;> rfl
    have lp : l.length = r.length + 1 := by rw [el, List.length_cons]
    refine ⟨_, rfl, _, rfl, _, rfl, rfl, m, rfl, z, a, hf, (by rw [hfe]; rfl), hz, lo, by omega, by rw [dropN 1, er]; omega, fun h H2 k2 => ?_, fun rows s h t lr xs H2 e k2 hn2 ht hlr hrw he hs hae => ?_⟩
    · rw [dropN 1, er] at h
      exact ⟨_, rfl, rfl, _, rfl, iteT (qn (by rw [hpc, h]; rfl) H2 (k1.trans k2))⟩
    rw [dropN 1, er] at h
    have sound := itemsR_sound (P := partR m) (fun l d s a b c => partR_sound m l d s a b c) hf (by omega) (fun c hc => lol c (by rw [el]; exact List.mem_cons_of_mem _ hc)) h
    obtain ⟨ps, kvs, rfl, hps, hent, hkl⟩ := rows_ent hrw
    have k12 := k1.trans k2
    refine ⟨_, rfl, rfl, _, rfl, iteF ⟨_, rfl, rfl, _, rfl, ?_⟩⟩
    rw [hfe]
    have hd := qs _ s (by rw [hpc, h]; rfl)
    cases hf with
    | true =>
      have nd : (rows.map (·.1)).Nodup := by
        refine List.pairwise_map.mpr ((sound.2.2.2 rfl).imp fun {a b} hab e => ?_)
        rw [e] at hab
        exact List.lt_irrefl _ hab
      have em : mergeD [] rows = rows := by rw [mergeD_new rows [] nd, List.nil_append]
      refine iteT ⟨_, rfl, t, _, _, _, rfl, rfl, SqT.of ht, atI_nat (j := 0) rfl, lr, ps, kvs, rfl, SqL.of hlr, Paired.mapP hps fun p kv z => SqT.of z, fun pd hpd => ⟨pd, _, rfl, upd_same, fun nd' o => ?_⟩⟩
      rw [upd_upd]
      have k3 := same_new hpd (.frz o (.dK (mergeK [] kvs)))
      refine ⟨_, rfl, t, _, _, _, rfl, rfl, SqT.of (k3 _ _ ht), atI_nat (j := 1) rfl, two, fun t2 ht2 => ?_⟩
      have k4 := same_new ht2 (.tup [V.ref pd, .int (e : Nat)])
      have en : Ent P w _ _ _ := Ent.merge (hent.kp (.same (k3.trans k4))) (.nil (P := P) (w := w))
      rw [em] at en
      exact hd t2 _ _ e ((k12.trans k3).trans k4) (Same.free (k12.trans k3) ht2) upd_same (.dic (.inl ⟨_, k4 _ _ upd_same, rfl⟩) en.daE) he hs hae
    | false =>
      refine iteF ⟨_, rfl, t, _, _, _, rfl, rfl, SqT.of ht, atI_nat (j := 0) rfl, lr, rfl, ⟨_, SqL.of hlr⟩, fun D hD => ?_⟩
      refine lc_it (te := tOp (rIxT K) (tVar 4) (tC (.int 1))) (walk_list (K := K) (a := lr) (xs := ps.map V.ref)) (fun i H3 => Same H2 H3 ∧ H3 D = some (.lst ((kvs.map (·.2)).take i))) ⟨same_new hD _, upd_same⟩ (fun _ H3 _ y => SqL.of (y.1 _ _ hlr)) ?_ ?_
      · rintro i v H3 H3' hi ⟨k3, hD3⟩ ⟨rfl, hv⟩
        rw [List.length_map] at hi
        have hi2 : i < kvs.length := by rw [← (Paired.length hps)]; exact hi
        rw [List.getElem?_map, List.getElem?_eq_getElem hi] at hv
        have hv' : V.ref ps[i] = v := Option.some.inj hv
        subst hv'
        have hp : H2 ps[i] = some (.tup [kV kvs[i].1, kvs[i].2]) := paired_get hps hi hi2
        refine ⟨rfl, ?_⟩
        simp only [tYes, if_true]
        refine ⟨_, rfl, ps[i], _, _, _, rfl, rfl, SqT.of (k3 _ _ hp), atI_nat (j := 1) rfl, _, hD3, ?_, fun b o y => ?_, ?_⟩
        · refine K00.small1000 ?_
          rw [List.length_take, List.length_map]
          have := sound.2.2.1
          omega
        · rw [upd_ne (ne_of_none y hD)]
          exact k3 _ _ y
        · rw [upd_same, List.take_add_one, List.getElem?_map, List.getElem?_eq_getElem hi2]
          rfl
      · rintro H3 ⟨k3, hD3⟩
        have el2 : (ps.map V.ref).length = (kvs.map (·.2)).length := by rw [List.length_map, List.length_map]; exact Paired.length hps
        rw [el2, List.take_length] at hD3
        refine ⟨D, _, rfl, hD3, trivial, fun o => ?_⟩
        have ntD : t ≠ D := fun y => by rw [y, hD] at ht; cases ht
        have k5 : Same H2 (upd H3 D (.frz o (.lst (kvs.map (·.2))))) := fun b o' y => by
          rw [upd_ne (ne_of_none y hD)]
          exact k3 _ _ y
        refine ⟨_, rfl, t, _, _, _, rfl, rfl, SqT.of (k5 _ _ ht), atI_nat (j := 1) rfl, two, fun t2 ht2 => ?_⟩
        have k4 := same_new ht2 (.tup [V.ref D, .int (e : Nat)])
        exact hd t2 _ _ e ((k12.trans k5).trans k4) (Same.free (k12.trans k5) ht2) upd_same (.lst (k4 _ _ upd_same) ((ent_dal hent).kp (.same (k5.trans k4)))) he hs hae
  have hop : ¬ (l.take 1 = [91] ∨ l.take 1 = [123]) := fun h => by
    rcases h with h | h
    · exact hbr ⟨false, (take1 91).mp h⟩
    · exact hbr ⟨true, (take1 123).mp h⟩
  refine ite_f (ein.trans (decide_eq_false hop)) ?_
  have n91 : l.head? ≠ some 91 := fun h => hop (.inl ((take1 91).mpr h))
  have n123 : l.head? ≠ some 123 := fun h => hop (.inr ((take1 123).mpr h))
  have w1 : ("yes" : Str) = mk [121, 101, 115] := by decide +kernel
  have w2 : ("no" : Str) = mk [110, 111] := by decide +kernel
  have l1 : ("yes" : Str).length = 3 := by decide
  have l2 : ("no" : Str).length = 2 := by decide
  have cutK : ∀ (k : Nat), cutS z (some (a : Int)) (some ((a : Int) + (k : Nat))) = mk (l.take k) := fun k => by
    have e : ((a : Int) + (k : Nat)) = ((a + k : Nat) : Int) := by omega
    rw [e, cut_mk z ha, Nat.add_sub_cancel_left, hL]
  refine ⟨fun σ H2 => ∃ wv dv, σ = [some (.str z), some (.int (a : Nat)), some (.str (mk (l.take 1))), none, none, wv, dv, none, none] ∧ Same H H2 ∧ l.take 3 ≠ [121, 101, 115] ∧ l.take 2 ≠ [110, 111], ?w1, ?w2⟩
  case w1 =>
    refine ⟨two, fun t1 ht1 => ⟨two, fun t2 ht2 => ⟨two, fun t0 ht0 => ⟨t0, rfl, ⟨_, SqT.of upd_same⟩, ?_⟩⟩⟩⟩
    have s1 := same_new ht1 (.tup [.str (Str.ofString "yes"), .bl true])
    have s2 := same_new ht2 (.tup [.str (Str.ofString "no"), .bl false])
    have s0 := same_new ht0 (.tup [.ref t1, .ref t2])
    have m1 := s0 _ _ (s2 _ _ (upd_same (H := H1) (a := t1) (o := .tup [.str (Str.ofString "yes"), .bl true])))
    have m2 := s0 _ _ (upd_same (H := upd H1 t1 (.tup [.str (Str.ofString "yes"), .bl true])) (a := t2) (o := .tup [.str (Str.ofString "no"), .bl false]))
    have m0 := upd_same (H := upd (upd H1 t1 (.tup [.str (Str.ofString "yes"), .bl true])) t2 (.tup [.str (Str.ofString "no"), .bl false])) (a := t0) (o := .tup [.ref t1, .ref t2])
    have k3 := (k1.trans s1).trans (s2.trans s0)
    generalize upd (upd (upd H1 t1 (.tup [.str (Str.ofString "yes"), .bl true])) t2 (.tup [.str (Str.ofString "no"), .bl false])) t0 (.tup [.ref t1, .ref t2]) = H3 at m0 m1 m2 k3 ⊢
    refine for_it (walk_tup (K := K) (a := t0) (xs := [.ref t1, .ref t2])) (fun i σ H2 => ∃ wv dv, σ = [some (.str z), some (.int (a : Nat)), some (.str (mk (l.take 1))), none, none, wv, dv, none, none] ∧ H2 = H3 ∧ (1 ≤ i → l.take 3 ≠ [121, 101, 115]) ∧ (2 ≤ i → l.take 2 ≠ [110, 111]))
      ⟨none, none, rfl, rfl, fun h => by omega, fun h => by omega⟩ (fun _ _ H2 _ ⟨_, _, _, y, _⟩ => by rw [y]; exact SqT.of m0) ?turn ?after
    case after =>
      rintro σ H2 ⟨wv, dv, rfl, rfl, h1, h2⟩
      exact ⟨wv, dv, rfl, k3, h1 (by show 1 ≤ 2; decide), h2 (by show 2 ≤ 2; decide)⟩
    case turn =>
      rintro i v σ H2 H2' hi ⟨wv, dv, rfl, rfl, h1, h2⟩ ⟨rfl, hv⟩
      have hi : i < 2 := hi
      match i, hi, hv with
      | 0, _, hv =>
        cases hv
        refine ⟨t1, _, rfl, SqT.of m1, rfl, .str (Str.ofString "yes"), [.bl true], rfl, .bl true, [], rfl, rfl, ?_⟩
        refine ⟨_, rfl, _, rfl, _, rfl, _, rfl, _, rfl, _, rfl, by rw [l1]; omega, _, _, rfl, rfl, _, rfl, z, rfl, by omega, _, rfl, rfl, _, rfl, ?_⟩
        rw [l1, cutK 3]
        by_cases hy : l.take 3 = [121, 101, 115]
        · have e3 : l = 121 :: 101 :: 115 :: l.drop 3 := by
            have := List.take_append_drop 3 l
            rw [hy] at this
            exact this.symm
          have hp : partC R l = some (.bool true, l.drop 3) := by
            rw [e3, partC_cons, if_neg (by decide), if_neg (by decide), if_neg (by decide), if_pos (by rfl)]
          have ll : 3 ≤ l.length := by rw [e3]; simp only [List.length_cons]; omega
          refine ite_t (decide_eq_true (by rw [hy]; exact congrArg V.str w1.symm)) ⟨_, rfl, _, rfl, _, rfl, _, rfl, by rw [l1]; omega, _, _, rfl, rfl, two, fun t ht => ?_⟩
          rw [l1]
          exact qs _ _ hp t _ _ (a + 3) (k3.trans (same_new ht _)) (Same.free k3 ht) upd_same (.bl true) (by omega) (dropN 3) (by omega)
        · exact ite_f (decide_eq_false fun h => hy (inj (h.trans (congrArg V.str w1)))) ⟨_, _, rfl, rfl, fun _ => hy, fun h => by omega⟩
      | 1, _, hv =>
        cases hv
        have hy := h1 (by decide)
        refine ⟨t2, _, rfl, SqT.of m2, rfl, .str (Str.ofString "no"), [.bl false], rfl, .bl false, [], rfl, rfl, ?_⟩
        refine ⟨_, rfl, _, rfl, _, rfl, _, rfl, _, rfl, _, rfl, by rw [l2]; omega, _, _, rfl, rfl, _, rfl, z, rfl, by omega, _, rfl, rfl, _, rfl, ?_⟩
        rw [l2, cutK 2]
        by_cases hn : l.take 2 = [110, 111]
        · have e3 : l = 110 :: 111 :: l.drop 2 := take2 hn
          have hp : partC R l = some (.bool false, l.drop 2) := by
            rw [e3, partC_cons, if_neg (by decide), if_neg (by decide), if_neg (by decide), if_neg (by intro h; cases h), if_pos (by rfl)]
          have ll : 2 ≤ l.length := by rw [e3]; simp only [List.length_cons]; omega
          refine ite_t (decide_eq_true (by rw [hn]; exact congrArg V.str w2.symm)) ⟨_, rfl, _, rfl, _, rfl, _, rfl, by rw [l2]; omega, _, _, rfl, rfl, two, fun t ht => ?_⟩
          rw [l2]
          exact qs _ _ hp t _ _ (a + 2) (k3.trans (same_new ht _)) (Same.free k3 ht) upd_same (.bl false) (by omega) (dropN 2) (by omega)
        · exact ite_f (decide_eq_false fun h => hn (inj (h.trans (congrArg V.str w2)))) ⟨_, _, rfl, rfl, fun _ => hy, fun _ => hn⟩
  case w2 =>
    rintro σ H2 ⟨wv, dv, rfl, k2, ny, nn⟩
    have d5 : tl ("-" : Str) = [45] := by decide +kernel
    have e45 : ("-" : Str) = mk [45] := by decide +kernel
    obtain ⟨neg, hneg, b0, L', hb0, hb0z, hL', hpt, hpre⟩ : ∃ (neg : Bool) (_ : decide (V.str (mk (l.take 1)) = V.str (Str.ofString "-")) = neg) (b0 : Nat) (L' : List Nat), ((a : Int) + (if neg = true then 1 else 0) = (b0 : Nat)) ∧ b0 ≤ (tl z).length ∧ (tl z).drop b0 = L' ∧ partC R l = numR neg L' ∧
        (∀ k, ((tl z).drop a).take (b0 + k - a) = (if neg = true then [45] else []) ++ L'.take k) ∧ a ≤ b0 ∧ (neg = true → b0 = a + 1) := by
      by_cases h45 : l.head? = some 45
      · have el := head1 h45
        have lp : 1 ≤ l.length := by rw [el]; exact Nat.succ_le_succ (Nat.zero_le _)
        refine ⟨true, decide_eq_true (by rw [(take1 45).mpr h45]; exact congrArg V.str e45.symm), a + 1, l.drop 1, by rw [if_pos rfl]; omega, by omega, dropN 1, ?_, fun k => ?_, by omega, fun _ => rfl⟩
        · rw [el, partC_cons, if_neg (by decide), if_neg (by decide), if_neg (by decide), if_neg (by rw [← el]; exact ny), if_neg (by rw [← el]; exact nn), if_pos rfl]
          rfl
        · have e : a + 1 + k - a = k + 1 := by omega
          rw [hL, e]
          conv => lhs; rw [el]
          rfl
      · refine ⟨false, decide_eq_false fun h => h45 ((take1 45).mp (inj (h.trans (congrArg V.str e45)))), a, l, by rw [if_neg (by decide)]; omega, ha, hL, ?_, fun k => ?_, Nat.le_refl _, fun h => by cases h⟩
        · cases l with
          | nil => rfl
          | cons c r =>
            rw [partC_cons, if_neg (fun h => n34 (congrArg some h)), if_neg (fun h => n91 (congrArg some h)), if_neg (fun h => n123 (congrArg some h)), if_neg ny, if_neg nn, if_neg (fun h => h45 (congrArg some h))]
        · rw [Nat.add_sub_cancel_left, hL]
          rfl
    obtain ⟨hpre, hab0, hb1⟩ := hpre
    rw [hpt] at qn qs
    refine ⟨_, rfl, _, rfl, rfl, .inr ⟨_, rfl, _, _, rfl, rfl, ?_⟩⟩
    rw [hneg]
    show gName 7 (V.int ((a : Int) + (if neg = true then 1 else 0))) _ _ _
    rw [hb0]
    generalize hds : L'.takeWhile digC = ds
    have twl : ds.length ≤ L'.length := by rw [← hds]; exact (List.takeWhile_sublist _).length_le
    have Ll : L'.length = (tl z).length - b0 := by rw [← hL', List.length_drop]
    refine ⟨fun σ H3 => σ = [some (.str z), some (.int (a : Nat)), some (.str (mk (l.take 1))), none, none, wv, dv, some (.int ((b0 + ds.length : Nat) : Int)), none] ∧ H3 = H2, ?x1, ?x2⟩
    case x1 =>
      refine ⟨fun j σ H3 => ∃ i, j + i = ds.length ∧ σ = [some (.str z), some (.int (a : Nat)), some (.str (mk (l.take 1))), none, none, wv, dv, some (.int ((b0 + i : Nat) : Int)), none] ∧ H3 = H2, ⟨ds.length, 0, rfl, rfl, rfl⟩, ?_⟩
      rintro j σ H3 ⟨i, hji, rfl, rfl⟩
      have tws := tw_step (p := digC) L' i (by rw [hds]; omega)
      rw [hds, ← hL', List.getElem?_drop] at tws
      have stopE : ¬ i < ds.length → b0 + i = b0 + ds.length := fun h => by omega
      refine ⟨_, rfl, _, rfl, z, rfl, by omega, _, _, rfl, rfl, _, rfl, ?_⟩
      refine ite2 (fun c => ?_) (fun c => ?_)
      · have c' : ((b0 + i : Nat) : Int) < (z.length : Int) := of_decide_eq_true c
        have hlt2 : b0 + i < (tl z).length := by omega
        have hg : (tl z)[b0 + i]? = some (tl z)[b0 + i] := List.getElem?_eq_getElem hlt2
        generalize (tl z)[b0 + i] = ch at hg
        refine ⟨_, rfl, _, rfl, z, _, ch, rfl, rfl, by omega, atI_nat hg, ch, _, rfl, rfl, _, rfl, ?_⟩
        by_cases hc : digC ch = true
        · have il : i < ds.length := tws.mpr ⟨ch, hg, hc⟩
          exact ite_t ((dig_iff ch).trans hc) ⟨_, fun σ' H' h => ⟨j - 1, by omega, h⟩, _, rfl, _, _, rfl, rfl, i + 1, by omega, rfl, rfl⟩
        · have il : ¬ i < ds.length := fun h => by
            obtain ⟨c2, e2, z2⟩ := tws.mp h
            rw [hg] at e2
            cases e2
            exact hc z2
          rw [stopE il]
          exact ite_f ((dig_iff ch).trans (by simpa using hc)) ⟨rfl, rfl⟩
      · have c' : ¬ ((b0 + i : Nat) : Int) < (z.length : Int) := fun h => c (decide_eq_true h)
        rw [stopE (by omega)]
        exact iteF ⟨rfl, rfl⟩
    case x2 =>
      rintro σ H3 ⟨rfl, rfl⟩
      have dtk : L'.take ds.length = ds := by
        have := List.takeWhile_append_dropWhile (p := digC) (l := L')
        rw [hds] at this
        have h2 := congrArg (List.take ds.length) this
        rw [List.take_left] at h2
        exact h2.symm
      have ddr : L'.dropWhile digC = (tl z).drop (b0 + ds.length) := by
        have := List.takeWhile_append_dropWhile (p := digC) (l := L')
        rw [hds] at this
        rw [← List.drop_drop, hL']
        have h2 := congrArg (List.drop ds.length) this
        rw [List.drop_left] at h2
        exact h2
      have ecut : cutS z (some (a : Int)) (some ((b0 + ds.length : Nat) : Int)) = mk ((if neg = true then [45] else []) ++ ds) := by rw [cut_mk z ha, hpre, dtk]
      have dall : NumText.AllDigits ds := by rw [← hds]; exact dig_all L'
      have hnum : numR neg L' = if ds = [] then (if neg = true then some (.none, L') else none) else if ds.head? = some 48 ∧ (1 < ds.length ∨ neg = true) then none else some (.int (if neg = true then -((NumText.digitsVal ds : Nat) : Int) else ((NumText.digitsVal ds : Nat) : Int)), (tl z).drop (b0 + ds.length)) := by
        unfold numR
        simp only
        rw [hds, ddr]
      rw [hnum] at qn qs
      have lenX : (mk ((if neg = true then [45] else []) ++ ds)).length ≤ 301 := by
        show ((if neg = true then [45] else []) ++ ds).length ≤ 301
        rw [List.length_append]
        cases neg
        · show 0 + ds.length ≤ 301
          omega
        · show 1 + ds.length ≤ 301
          omega
      refine ⟨_, rfl, _, rfl, _, rfl, _, rfl, _, rfl, z, rfl, by omega, _, rfl, ?_, ?_⟩
      · rw [ecut]
        have l0 : ("" : Str).length = 0 := rfl
        rw [l0]
        omega
      have eF : Txt.replace (cutS z (some (a : Int)) (some ((b0 + ds.length : Nat) : Int))) ("-" : Str) ("" : Str) = mk ds := by
        refine ext_tl ?_
        have r1 := PySem.StrLaws.replace_list (x := cutS z (some (a : Int)) (some ((b0 + ds.length : Nat) : Int))) (y := ("-" : Str)) (z := ("" : Str)) (by decide)
        refine r1.trans ?_
        have z0 : tl ("" : Str) = [] := by decide +kernel
        show PySem.StrLaws.replL (tl ("-" : Str)) (tl ("" : Str)) (tl (cutS z (some (a : Int)) (some ((b0 + ds.length : Nat) : Int)))) = ds
        rw [d5, z0, repl1, ecut]
        have nod : 45 ∉ ds := fun h => by have := dall 45 h; omega
        show ((((if neg = true then [45] else []) ++ ds)).map _).flatten = ds
        rw [List.map_append, List.flatten_append, repl_none 45 ds nod]
        cases neg <;> rfl
      show gName 8 (V.str (Txt.replace (cutS z (some (a : Int)) (some ((b0 + ds.length : Nat) : Int))) ("-" : Str) ("" : Str))) _ _ _
      rw [eF]
      refine ⟨_, rfl, rfl, _, rfl, ?_⟩
      have enil : ("" : Str) = mk [] := by decide +kernel
      by_cases hd0 : ds = []
      · rw [if_pos hd0] at qn qs
        refine ite_t (decide_eq_true (by rw [hd0]; exact congrArg V.str enil.symm)) ⟨_, rfl, rfl, _, rfl, ?_⟩
        rw [hneg]
        cases neg with
        | true =>
          have e1 := hb1 rfl
          subst e1
          refine iteT ⟨_, rfl, _, _, rfl, rfl, two, fun t ht => ?_⟩
          exact qs _ _ rfl t _ _ (a + 1) (k2.trans (same_new ht _)) (Same.free k2 ht) upd_same .non hb0z hL' (by omega)
        | false => exact iteF (qn rfl _ k2)
      rw [if_neg hd0] at qn qs
      refine ite_f (decide_eq_false fun h => hd0 (inj (h.trans (congrArg V.str enil)))) ?_
      obtain ⟨c0, ds', eds⟩ : ∃ c r, ds = c :: r := by
        cases ds with
        | nil => exact absurd rfl hd0
        | cons c r => exact ⟨c, r, rfl⟩
      have d0 : tl ("0" : Str) = [48] := by decide +kernel
      have mkl : (mk ds).length = ds.length := rfl
      refine ⟨_, rfl, mk ds, _, c0, rfl, rfl, by omega, atI_nat (j := 0) (by rw [eds]; rfl), rfl, _, rfl, ?_⟩
      rw [one_eq c0 48 _ d0]
      have bad : (ds.head? = some 48 ∧ (1 < ds.length ∨ neg = true)) → Q .non H3 := fun h => qn (if_pos h) _ k2
      have fin : ¬ (ds.head? = some 48 ∧ (1 < ds.length ∨ neg = true)) → ∀ t H', Same H3 H' → H3 t = none → H' t = some (.tup [.int (if neg = true then -((NumText.digitsVal ds : Nat) : Int) else ((NumText.digitsVal ds : Nat) : Int)), .int ((b0 + ds.length : Nat) : Int)]) → Q (.ref t) H' := fun h t H' k hn ht =>
        qs _ _ (if_neg h) t _ H' (b0 + ds.length) (k2.trans k) (Same.free k2 hn) ht (.int _) (by omega) rfl (by omega)
      have rd : intText? (mk ((if neg = true then [45] else []) ++ ds)) = some (if neg = true then -((NumText.digitsVal ds : Nat) : Int) else ((NumText.digitsVal ds : Nat) : Int)) := by
        cases neg with
        | true => exact PySem.intText_neg (x := mk (45 :: ds)) (cs := ds) rfl dall hd0 (by show ds.length + 1 ≤ _; omega)
        | false => exact PySem.intText_digits (x := mk ds) dall hd0 (by show ds.length ≤ _; omega)
      have h0 : ds.head? = some c0 := by rw [eds]; rfl
      by_cases h48 : c0 = 48
      · rw [decide_eq_true h48]
        refine iteT ⟨_, rfl, mk ds, rfl, by omega, _, _, rfl, rfl, _, rfl, ?_⟩
        by_cases h1 : 1 < ds.length
        · exact ite_t (decide_eq_true (by omega)) (iteT (bad ⟨by rw [h0, h48], .inl h1⟩))
        · refine ite_f (decide_eq_false (by omega)) ⟨_, rfl, rfl, _, rfl, ?_⟩
          rw [hneg]
          cases neg with
          | true => exact iteT (bad ⟨by rw [h0, h48], .inr rfl⟩)
          | false =>
            have nb : ¬ (ds.head? = some 48 ∧ (1 < ds.length ∨ false = true)) := fun h => by
              rcases h.2 with y | y
              · exact h1 y
              · cases y
            exact iteF ⟨_, rfl, _, rfl, _, rfl, _, rfl, _, rfl, z, rfl, by omega, _, _, rfl, by rw [ecut]; exact rd, by rw [ecut]; omega, _, rfl, two, fun t ht => fin nb t _ (same_new ht _) ht upd_same⟩
      · rw [decide_eq_false h48]
        have nb : ¬ (ds.head? = some 48 ∧ (1 < ds.length ∨ neg = true)) := fun h => h48 (by
          have := h.1
          rw [h0] at this
          exact Option.some.inj this)
        exact iteF (iteF ⟨_, rfl, _, rfl, _, rfl, _, rfl, _, rfl, z, rfl, by omega, _, _, rfl, by rw [ecut]; exact rd, by rw [ecut]; omega, _, rfl, two, fun t ht => fin nb t _ (same_new ht _) ht upd_same⟩)
end
end K87
set_option Elab.async false
set_option linter.all false
set_option maxRecDepth 100000
set_option maxHeartbeats 4000000
/-! K00N: an error that is kept: its value, isinstance of it; a lambda handed on, what it raises told at the very slots; _law_heard. -/
namespace K00
open PySem PySem.Spec L2 LamX
open PyProof.Rows (envOfC)
/-- u is an error of the class at C that holds v, kept behind its except clause -/
def IsKept (H : Hp) (C : Addr) (v u : V) : Prop := ∃ a d : Addr, u = .ref a ∧ H a = some (erk a (.ref C) (some d)) ∧ H d = some (.xd [(("value" : Str), v)])
theorem IsKept.same {H H' : Hp} {C : Addr} {v u : V} (h : IsKept H C v u) (k : Same H H') : IsKept H' C v u := by
  obtain ⟨a, d, h0, h1, h2⟩ := h
  exact ⟨a, d, h0, k _ _ h1, k _ _ h2⟩
section
variable {X : Cx} {fI : Addr}
theorem inst_ofK {pins : List (Addr × Obj)} {σ : L2.St} {H : Hp} {s : Shared} {C a d : Addr} {v : V} (I : L2.Inv X pins σ H s) (h1 : H a = some (erk a (.ref C) (some d))) (h2 : H d = some (.xd [(("value" : Str), v)])) :
    ∃ (ox od : Obj) (u : Value), PySem.W.InstAt s.heap a ox C (some od) ∧ PySem.W.lookIn "value" od = some (some u) ∧ RelV v u := by
  obtain ⟨oe, vs, ha, hz, hd⟩ := erk_at I.hok h1
  have hx : ObjOk X.prog X.w H s.heap d (.xd [(("value" : Str), v)]) := I.hok d _ h2
  obtain ⟨mA, hns, hr⟩ := hx
  obtain ⟨od, ho, hl⟩ := lookIn_ns hns
  have l : List.lookup ("value" : Str) [(("value" : Str), v)] = some v := by simp [List.lookup]
  obtain ⟨u, hu, ru⟩ := RelO.some_of (v := v) (o := mA "value") (by rw [← l]; exact hr "value")
  exact ⟨oe, od, u, ⟨ha, hz.1, by unfold PySem.W.notCls; rw [hd] <;> rfl, by rw [hz.2]; exact ho⟩, by rw [hl, hu], ru⟩
def tValK (K : PySem.W.Frag) (fI : Addr) (te : TE) : TE := fun σ H Q => te σ H fun x H1 => ∃ (C : Addr) (v : V), ErrT K C fI ∧ IsKept H1 C v x ∧ Q v H1
theorem pe_valK {e : Expr} {te : TE} {pos : Pos} (he : PE X e te) (hb : attributeBase e "value" X.env (eval e X.env) = eval e X.env := by rfl) :
    PE X (.Attribute e "value" pos) (tValK X.K fI te) := by
  refine ⟨fun pins s σ H Q I h => ?_⟩
  refine attr_of hb (thn (he.run pins s σ H _ I h) fun u s1 hh => ?_)
  obtain ⟨x, H1, I1, rx, C, v, T, ⟨a, d, rfl, h1, h2⟩, q⟩ := hh
  obtain rfl : u = Value.ref a := rx
  obtain ⟨ox, od, u, J, hl, ru⟩ := inst_ofK I1 h1 h2
  exact HandSPX.exc_get I1.kIn J T.ga T.gg T.exC (PySem.W.findObj_own T.hdC T.noN rfl hl) (handed_of ru) ⟨v, H1, I1.tok _, ru, q⟩
def rIsErrK (K : PySem.W.Frag) (fI : Addr) : List V → Hp → VK → Prop := fun xs H Q => ∃ (x c : V) (C : Addr) (v : V) (u : Value) (b : Bool), xs = [x, c] ∧ ClsV c u ∧ ErrT K C fI ∧ IsKept H C v x ∧ PySem.W.kitOne K (.ref C) u = some b ∧ Q (.bl b) H
theorem call_isErrK (T0 : InitT X.K fI) : CallR X (.builtin "isinstance") (rIsErrK X.K fI) := by
  intro pins s σ H xs us Q I r h
  obtain ⟨x, c, C, v, cv, b, rfl, hcv, T, ⟨a, d, rfl, h1, h2⟩, e, q⟩ := h
  obtain ⟨u1, u2, rfl, r1, r2⟩ := vals2 r
  have e2 := hcv.eq r2
  subst e2
  cases (show u1 = Value.ref a from r1)
  obtain ⟨ox, od, _, J, _, _⟩ := inst_ofK I h1 h2
  have hcl : (PySem.W.clsIn X.K C).isSome = true := by
    obtain ⟨nm, q, N, bs, bm, sn, sub, ab, col, dd, k0, k1, k2, k3, k5, hC, _⟩ := T.cls
    unfold PySem.W.clsIn
    rw [hC] <;> rfl
  exact PySem.W.kia_one (PySem.W.kitx_exc (od := some od) hcl T.ga T.gg T.exC T.cl T0.gt T0.tk T.ob) I.kIn J e (fun z => nomatch z) fun tk => ⟨.bl b, H, I.tok tk, rfl, q⟩
/-- xs.count(True) of a list of bools -/
def rCntB (K : PySem.W.Frag) : V → List V → Hp → VK → Prop := fun x xs H Q => ∃ (p : Addr) (bs : List Bool) (k : Bool), x = .ref p ∧ xs = [.bl k] ∧ SqL K H p (bs.map V.bl) ∧ Q (.int (bs.count k : Nat)) H
theorem vals_bls : ∀ {bs : List Bool} {its : List Value}, Vals (bs.map V.bl) its → its = bs.map Value.bool
  | [], _, .nil => rfl
  | b :: bs, _, .cons r t => by
    have e : _ = Value.bool b := r
    rw [e, vals_bls t]
    rfl
theorem mt_countB : MtR X "list.count" (rCntB X.K) := by
  intro pins s σ H x xs v us Q I rx rxs h
  obtain ⟨p, bs, k, rfl, rfl, hs, q⟩ := h
  cases rx
  obtain ⟨u, rfl, ru⟩ := rxs.one
  obtain rfl : u = Value.bool k := ru
  obtain ⟨its, rv, ⟨⟨cls, dd, data, sl⟩, n, ho, hc, hdn, hd⟩, hlen⟩ := I.list hs
  simp only at hc hd
  subst hc hd
  have hi := vals_bls rv
  refine PySem.call_meets PySem.F.slot_list_count ⟨_, ho, rfl⟩ PySem.F.entry_list_count (PySem.F.args_list_count_2 _ _)
    (SeqAt.list_countAt p its.toArray n dd sl (.bool k) (fun y => y == .bool k)) ⟨ho, fun y hy => ?_, ?_⟩
  · have hy' : y ∈ its := by simpa using hy
    rw [hi] at hy'
    obtain ⟨b, _, rfl⟩ := List.mem_map.mp hy'
    have z := SeqAt.EqAt.bool_bool (A := X.A.in1) (s := s) b k
    have e : (Value.bool b == Value.bool k) = (b == k) := by cases b <;> cases k <;> rfl
    show SeqAt.EqAt _ _ _ _ (Value.bool b == Value.bool k)
    rw [e]
    exact z
  · have ec : its.toArray.toList.countP (fun y => y == Value.bool k) = bs.count k := by
      rw [hi]
      show List.countP _ (bs.map Value.bool) = _
      rw [List.countP_map]
      unfold List.count
      congr 1
      funext b
      cases b <;> cases k <;> rfl
    refine ⟨.int (bs.count k : Nat), H, I.tok _, ⟨s.toks, ?_⟩, q⟩
    show Value.int ((its.toArray.toList.countP (fun y => y == Value.bool k) : Nat) : Int) s.toks = Value.int ((bs.count k : Nat) : Int) s.toks
    rw [ec]
end
/-! ### the lambda -/
section
variable {X : Cx} {pins : List (Addr × Obj)} {σ : L2.St} {H HZ : Hp} {s s1 : Shared}
theorem pe_actE {CXg : CXT} {Eg : XK} {Ng : List Str} {qg : Str} {sg : Scope} {g f c' : Addr} {cdg pm ctv : Value} {params : Arguments} {body : Expr} {scope : Scope} {k i : Nat} {a : Str} {pn : List (Addr × Obj)} {xe : Value → Shared → Prop} {W : WX} {tb : XK → TE} {p1 p2 : Pos}
    (I : L2.Inv X pins σ H s) (L : LamS X.env.scope scope) (hf : s.heap.get? f = some (PySem.W.kla_obj "<lambda>" (X.env.qual ++ "<lambda>") params body scope (cloFrom X.env.cells scope.names []) pm c' ctv)) (hfn : H f = none) (hfr : f ∉ frs X.stack)
    (hbind : bindArgs (PySem.W.kla_fn "<lambda>" (X.env.qual ++ "<lambda>") params body scope (cloFrom X.env.cells scope.names []) pm (.ref c') ctv) ⟨[], []⟩ = pure [])
    (tk : Takes ((cxOf CXg X.prog X.w X.K X.mg X.base Ng qg sg g cdg X.A X.stack s H Eg).tr pn xe) W) (hr : Room (k + 1) (X.A.deeper (envOfC qg sg s.heap.objs.size g cdg)))
    (hbody : ∀ (A : Around) (outer : List Env) (s : Shared) (H : Hp) (E : XK), Room k (A.deeper (lamEnv X scope s.heap.objs.size f c')) → PE (lamCx X A outer s H E scope f c') body (tb E))
    (hN : Ng[i]? = some a) (hv : Vis sg a) (hd : (a == ("__debug__" : Str)) = false := by decide) (hcd : (a == ("__classdict__" : Str)) = false := by decide) :
    PE ((cxOf CXg X.prog X.w X.K X.mg X.base Ng qg sg g cdg X.A X.stack s H Eg).tr pn xe) (.Call (.Name a p1) [] [] p2)
      (fun σZ HZ Q => ∃ E : XK, (∀ cls d H', E cls d H' → W cls d σZ H') ∧ σZ[i]? = some (some (.ref f)) ∧ HZ c' = some (CodeO c' (X.env.qual ++ "<lambda>")) ∧ tb E σ HZ Q) := by
  refine ⟨fun pinsZ sZ σZ HZ Q IZ h => ?_⟩
  obtain ⟨E, hW, hs, hc, ht⟩ := h
  refine wpAny_Call_Name_kw (thn ((pe_var (pos := p1) (i := i) hN hv hd hcd).run pinsZ sZ σZ HZ (fun v H1 => v = .ref f ∧ H1 = HZ) IZ ⟨.ref f, hs, rfl, rfl⟩) fun u s1 ⟨v, H1, I1, r1, q1⟩ => ?_)
  obtain ⟨ev, eH⟩ := q1
  subst ev
  rw [eH] at I1
  obtain rfl : u = Value.ref f := r1
  have of1 : s1.heap.get? f = some (PySem.W.kla_obj "<lambda>" (X.env.qual ++ "<lambda>") params body scope (cloFrom X.env.cells scope.names []) pm c' ctv) := I1.base.keep f _ hf hfn hfr (fun z => nomatch (show f ∈ ([] : List Addr) from z))
  refine PySem.W.callWith_F0 ⟨_, _, _, _, of1⟩ ?_
  have un : Un (frs X.stack) [] H HZ s.heap s1.heap := I1.base
  obtain ⟨⟨oc, vs, t, hoc, hdc, hvc⟩, _, _⟩ := I1.hok c' _ hc
  have rc : codeAny (model X.prog X.w) (X.A.deeper (envOfC qg sg s.heap.objs.size g cdg)) (.call (.ref f) ⟨[], []⟩) (CR (L2.CX X.prog X.w) (envOfC qg sg s.heap.objs.size g cdg :: X.stack) X.prog X.w HZ s1 Q E) s1 := by
    refine PySem.W.kla_callFunE hr.depth of1 rfl L.co L.gen rfl ⟨c', oc, vs, t, rfl, hoc, hdc, hvc⟩ ?_
    rw [hbind]
    refine wpAny_pure (wpAny_newFunctionEnv (fun y hy => (L.own y hy).2) (fun y hy => absurd hy (by simp)) (fun h₁ hns hsb => ⟨I1.nolimit.fresh _ hsb, ?_⟩) L.kind)
    show codeAny _ _ (.expr body (lamEnv X scope s1.heap.objs.size f c')) _ _
    have kp : ∀ b o, s1.heap.get? b = some o → h₁.get? b = some o := fun b o e => hsb.extBut b o (Nat.ne_of_lt (Heap.lt_size e)) (Heap.get?_push_of_some _ e)
    have J : L2.Inv (lamCx X (X.A.deeper (envOfC qg sg s.heap.objs.size g cdg)) (envOfC qg sg s.heap.objs.size g cdg :: X.stack) s1 HZ E scope f c') [] σ HZ { s1 with heap := h₁, toks := s1.toks + ([] : List (Str × Value)).length } :=
      lam_start2 I L I1.env0 hr.hd un hns kp
    refine PySem.W.kla_codeExpr (wpAny_mono ((hbody _ _ s1 HZ E (hr.deeper _)).run [] _ _ HZ Q J ht) (fun v s' hq => ?_) fun e s' hq => hq)
    obtain ⟨w', H', J', rv, q⟩ := hq
    exact ⟨w', H', J'.os, J'.bare, J'.base, J'.hok, rv, q⟩
  refine wpAny_call (codeAny_mono rc fun r s' hq => ?_)
  cases r with
  | error e => exact tk e s' (XE.of_call I1 hW hq)
  | ok fl =>
    cases fl with
    | ret u => exact I1.after hq
    | next => exact False.elim hq
    | brk => exact False.elim hq
    | cont => exact False.elim hq
end
/-- the def that calls what it got: a calls it; TT: what it makes of the lambda's reading -/
def GivesE (X : Cx) (Ng : List Str) (x : Str) (sg : Scope) (g : Addr) (cdg : Value) (bg : List Stmt) (a : Str) (q : Str) (k : Nat) (TT : (XK → Hp → VK → Prop) → Hp → VK → Prop) : Prop :=
  ∀ (f c' : Addr) (s : Shared) (H : Hp) (Q : VK) (tl : XK → Hp → VK → Prop), Room k (X.A.deeper (envOfC x sg s.heap.objs.size g cdg)) →
    (∀ (W : WX) (pn : List (Addr × Obj)) (xe : Value → Shared → Prop) (p1 p2 : Pos), Takes ((cxOf C8.CX0 X.prog X.w X.K X.mg X.base Ng x sg g cdg X.A X.stack s H C8.E0).tr pn xe) W →
      PE ((cxOf C8.CX0 X.prog X.w X.K X.mg X.base Ng x sg g cdg X.A X.stack s H C8.E0).tr pn xe) (.Call (.Name a p1) [] [] p2) (fun σZ HZ Q => ∃ E : XK, (∀ cls d H', E cls d H' → W cls d σZ H') ∧ σZ[0]? = some (some (.ref f)) ∧ HZ c' = some (CodeO c' q) ∧ tl E HZ Q)) →
    H c' = some (CodeO c' q) → TT tl H Q →
    ∃ t, PSs (cxOf C8.CX0 X.prog X.w X.K X.mg X.base Ng x sg g cdg X.A X.stack s H C8.E0).nox bg t ∧ t { nx := fun _ H' => Q .non H', rt := Q } (L2.start Ng [.ref f]) H
section
variable {X : Cx}
/-- x(lambda: body) -/
theorem pe_lamcallE {T : List (Addr × Str)} {TT : (XK → Hp → VK → Prop) → Hp → VK → Prop} {x a : Str} {g c P : Addr} {k : Nat} {pg : Arguments} {bg : List Stmt} {sg : Scope} {dV kV doc pm cdv ct oc : Value} {an od : Option Addr} {osl : Array (Option Value)} {Ng : List Str}
    {params : Arguments} {body : Expr} {scope : Scope} {t : XK → TE} {p lpos pos : Pos} (hg : Gl X x) (hm : X.mg x = some (.ref g)) (hk : PySem.W.keepIn X.K (.ref g) = true)
    (lk : X.K.lookup g = some ⟨oc, od, .func (PySem.W.fnOf x x pg bg sg dV kV doc pm an cdv ct), osl⟩) (hcg : PySem.W.codeIn X.K cdv x = true) (hb : L2.Binds X.K (PySem.W.fnOf x x pg bg sg dV kV doc pm an cdv ct) [a] []) (Sg : FnScope Ng [a] sg) (hNg : Ng[0]? = some a) (hva : Vis sg a)
    (hG : GivesE X Ng x sg g cdv bg a (X.env.qual ++ "<lambda>") (k + 1) TT)
    (TB : TabB X.base X.mg c P) (hcode : X.env.code = .ref c) (hmT : (P, X.env.qual ++ "<lambda>") ∈ T) (hu : ∀ p ∈ T, p.1 = P → p.2 = X.env.qual ++ "<lambda>") (hr : Room (k + 2) X.A) (L : LamS X.env.scope scope) (hdef : defaultsOf params X.env = ([], []))
    (hbind : ∀ (q : Str) (cl : List (Str × Addr)) (pm cv ctv : Value), bindArgs (PySem.W.kla_fn "<lambda>" q params body scope cl pm cv ctv) ⟨[], []⟩ = pure [])
    (hbody : ∀ (A : Around) (outer : List Env) (s : Shared) (H : Hp) (E : XK) (f c' : Addr), Room k (A.deeper (lamEnv X scope s.heap.objs.size f c')) → PE (lamCx X A outer s H E scope f c') body (t E))
    (hdb : (x == ("__debug__" : Str)) = false := by decide) (hd : (a == ("__debug__" : Str)) = false := by decide) (hcd : (a == ("__classdict__" : Str)) = false := by decide) :
    PE X (.Call (.Name x p) [.Lambda params body scope lpos] [] pos) (tLam T TT t) := by
  refine ⟨fun pins s σ H Q I h => ?_⟩
  obtain ⟨hT, h⟩ := h
  refine wpAny_Call_Name_kw (ld_glob I hg hm ?_ hdb)
  refine PySem.W.callWith_K (h₀ := X.base) I.ok.mod.kin hk ?_ (by rfl) (by rfl)
  show wpAny _ _ (spliced ((false, eval (.Lambda params body scope lpos) X.env) :: backTo pos (starEach [] X.env))) _ _ s
  refine Calls.spliced_cons (lam_make2 I TB hcode hmT hu hT hdef (L.has I.ok) fun f c' pm' ctv H1 s' I1 eN T1 hf hfn hfr hco => ?_)
  refine Calls.spliced_nil ⟨I1.kIn, ?_⟩
  have rc : codeAny (model X.prog X.w) X.A (.call (.ref g) ⟨[.ref f], []⟩) (CR C8.CX0 X.stack X.prog X.w H1 s' Q C8.E0) s' := by
    refine run_ofS (N := Ng) (ps := [a]) (us := [.ref f]) (vs := [.ref f]) lk hcg Sg hr I1.env0 (hb s' [.ref f] I1.kIn rfl) (.cons rfl .nil) rfl fun hr' => ?_
    obtain ⟨t', ht', hq'⟩ := hG f c' s' H1 Q (fun E H' Q' => t E σ H' Q') hr' (fun W pn xe p1 p2 tk => pe_actE (i := 0) I1 L hf hfn hfr (hbind _ _ _ _ _) tk hr' (fun A outer s H E hr2 => hbody A outer s H E f c' hr2) hNg hva hd hcd) hco (h H1 eN T1)
    exact ⟨t', ht'.nox, hq'⟩
  refine wpAny_call (codeAny_mono rc fun r s2 hq => ?_)
  cases r with
  | error e => exact (show False from hq).elim
  | ok fl =>
    cases fl with
    | ret u => exact I1.after hq
    | next => exact False.elim hq
    | brk => exact False.elim hq
    | cont => exact False.elim hq
end
end K00
set_option Elab.async false
set_option linter.all false
set_option maxRecDepth 100000
set_option maxHeartbeats 8000000
/-! L88X: a lambda handed on with a written text; _law_caught. -/
namespace K87
open PySem PySem.Spec L2 K00 LamX
open PyProof.Rows (envOfC sortedS)
/-- the def that calls what it got, and has a text beside it -/
def GivesW (X : Cx) (Ng : List Str) (x : Str) (sg : Scope) (g : Addr) (cdg : Value) (bg : List Stmt) (a : Str) (q : Str) (y : Str) (k : Nat) (TT : (XK → Hp → VK → Prop) → Hp → VK → Prop) : Prop :=
  ∀ (f c' : Addr) (s : Shared) (H : Hp) (Q : VK) (tl : XK → Hp → VK → Prop), Room k (X.A.deeper (envOfC x sg s.heap.objs.size g cdg)) →
    (∀ (W : WX) (pn : List (Addr × Obj)) (xe : Value → Shared → Prop) (p1 p2 : Pos), Takes ((cxOf C8.CX0 X.prog X.w X.K X.mg X.base Ng x sg g cdg X.A X.stack s H C8.E0).tr pn xe) W →
      PE ((cxOf C8.CX0 X.prog X.w X.K X.mg X.base Ng x sg g cdg X.A X.stack s H C8.E0).tr pn xe) (.Call (.Name a p1) [] [] p2) (fun σZ HZ Q => ∃ E : XK, (∀ cls d H', E cls d H' → W cls d σZ H') ∧ σZ[0]? = some (some (.ref f)) ∧ HZ c' = some (CodeO c' q) ∧ tl E HZ Q)) →
    H c' = some (CodeO c' q) → TT tl H Q →
    ∃ t, PSs (cxOf C8.CX0 X.prog X.w X.K X.mg X.base Ng x sg g cdg X.A X.stack s H C8.E0).nox bg t ∧ t { nx := fun _ H' => Q .non H', rt := Q } (L2.start Ng [.ref f, .str y]) H
section
variable {X : Cx}
/-- x(lambda: body, text) -/
theorem pe_lamcallW {T : List (Addr × Str)} {TT : (XK → Hp → VK → Prop) → Hp → VK → Prop} {x a b y : Str} {g c P : Addr} {k jk : Nat} {pg : Arguments} {bg : List Stmt} {sg : Scope} {dV kV doc pm cdv ct oc : Value} {an od : Option Addr} {osl : Array (Option Value)} {Ng : List Str}
    {params : Arguments} {body : Expr} {scope : Scope} {t : XK → TE} {p lpos pos cpos : Pos} (hg : Gl X x) (hm : X.mg x = some (.ref g)) (hk : PySem.W.keepIn X.K (.ref g) = true)
    (lk : X.K.lookup g = some ⟨oc, od, .func (PySem.W.fnOf x x pg bg sg dV kV doc pm an cdv ct), osl⟩) (hcg : PySem.W.codeIn X.K cdv x = true) (hb : L2.Binds X.K (PySem.W.fnOf x x pg bg sg dV kV doc pm an cdv ct) [a, b] []) (Sg : FnScope Ng [a, b] sg) (hNg : Ng[0]? = some a) (hva : Vis sg a)
    (hG : GivesW X Ng x sg g cdv bg a (X.env.qual ++ "<lambda>") y (k + 1) TT)
    (TB : TabB X.base X.mg c P) (hcode : X.env.code = .ref c) (hmT : (P, X.env.qual ++ "<lambda>") ∈ T) (hu : ∀ p ∈ T, p.1 = P → p.2 = X.env.qual ++ "<lambda>") (hr : Room (k + 2) X.A) (L : LamS X.env.scope scope) (hdef : defaultsOf params X.env = ([], []))
    (hbind : ∀ (q : Str) (cl : List (Str × Addr)) (pm cv ctv : Value), bindArgs (PySem.W.kla_fn "<lambda>" q params body scope cl pm cv ctv) ⟨[], []⟩ = pure [])
    (hbody : ∀ (A : Around) (outer : List Env) (s : Shared) (H : Hp) (E : XK) (f c' : Addr), Room k (A.deeper (lamEnv X scope s.heap.objs.size f c')) → PE (lamCx X A outer s H E scope f c') body (t E))
    (hdb : (x == ("__debug__" : Str)) = false := by decide) (hd : (a == ("__debug__" : Str)) = false := by decide) (hcd : (a == ("__classdict__" : Str)) = false := by decide) :
    PE X (.Call (.Name x p) [.Lambda params body scope lpos, .Constant (.str y) jk cpos] [] pos) (tLam T TT t) := by
  refine ⟨fun pins s σ H Q I h => ?_⟩
  obtain ⟨hT, h⟩ := h
  refine wpAny_Call_Name_kw (ld_glob I hg hm ?_ hdb)
  refine PySem.W.callWith_K (h₀ := X.base) I.ok.mod.kin hk ?_ (by rfl) (by rfl)
  show wpAny _ _ (spliced [(false, eval (.Lambda params body scope lpos) X.env), (false, eval (.Constant (.str y) jk cpos) X.env)]) _ _ s
  refine Calls.spliced_cons (lam_make2 I TB hcode hmT hu hT hdef (L.has I.ok) fun f c' pm' ctv H1 s' I1 eN T1 hf hfn hfr hco => ?_)
  refine Calls.spliced_cons (Calls.Constant_str (Calls.spliced_nil ?_))
  have I2 := I1.tok (s'.toks + 1)
  have hf2 : ({ s' with toks := s'.toks + 1 } : Shared).heap.get? f = _ := hf
  generalize hv : Value.str y s'.toks = u2
  have ru : RelV (.str y) u2 := ⟨s'.toks, hv.symm⟩
  generalize ({ s' with toks := s'.toks + 1 } : Shared) = s2 at I2 hf2
  refine ⟨I2.kIn, ?_⟩
  have rc : codeAny (model X.prog X.w) X.A (.call (.ref g) ⟨[.ref f, u2], []⟩) (CR C8.CX0 X.stack X.prog X.w H1 s2 Q C8.E0) s2 := by
    refine run_ofS (N := Ng) (ps := [a, b]) (us := [.ref f, u2]) (vs := [.ref f, .str y]) lk hcg Sg hr I2.env0 (hb s2 [.ref f, u2] I2.kIn rfl) (.cons rfl (.cons ru .nil)) rfl fun hr' => ?_
    obtain ⟨t', ht', hq'⟩ := hG f c' s2 H1 Q (fun E H' Q' => t E σ H' Q') hr' (fun W pn xe p1 p2 tk => pe_actE (i := 0) I2 L hf2 hfn hfr (hbind _ _ _ _ _) tk hr' (fun A outer s H E hr2 => hbody A outer s H E f c' hr2) hNg hva hd hcd) hco (h H1 eN T1)
    exact ⟨t', ht'.nox, hq'⟩
  refine wpAny_call (codeAny_mono rc fun r s3 hq => ?_)
  cases r with
  | error e => exact (show False from hq).elim
  | ok fl =>
    cases fl with
    | ret u => exact I2.after hq
    | next => exact False.elim hq
    | brk => exact False.elim hq
    | cont => exact False.elim hq
end
end K87
set_option Elab.async false
set_option linter.all false
set_option maxRecDepth 100000
set_option maxHeartbeats 8000000
/-! L88Y: _law_caught. -/
namespace K87
open PySem PySem.Spec L2 K00 LamX
open PyProof.Rows (envOfC sortedS)
abbrev NgC : List Str := ["_law_call", "_law_word", "_law_caught_here", "_law_told", "error", "_law_is_due", "_law_is_other"]
theorem scCaught : FnScope NgC ["_law_call", "_law_word"] (defScope (top 44)) := ⟨rfl, rfl, rfl, by decide +kernel, rfl, by decide +kernel, by decide +kernel⟩
/-- which error's word it is -/
def clsW (y : Str) : Str := if y = ("text" : Str) then "BadText" else "NoDocument"
/-- what is told of a lambda's reading -/
def TTc (K : PySem.W.Frag) (y : Str) : (XK → Hp → VK → Prop) → Hp → VK → Prop := fun tl H Q => ∀ (H0 : Hp) (E : XK) (R : VK), Same H H0 →
  (∀ (dd : Addr) (v : V) (H' : Hp), H' dd = some (.xd [(("value" : Str), v)]) → (∀ t H'', Same H' H'' → H' t = none → H'' t = some (.tup [.str y, v]) → Q (.ref t) H'') → E (.ref (He.ga K (clsW y))) (some dd) H') →
  (∀ (v : V) (H' : Hp), (∀ t H'', Same H' H'' → H' t = none → H'' t = some (.tup [.str "told", v]) → Q (.ref t) H'') → R v H') → tl E H0 R
/-- what _law_caught needs of the module -/
structure HeB (K : PySem.W.Frag) (mg : Str → Option Value) (CT fI : Addr) : Prop where
  b : Bl mg
  T : ∀ x ∈ errs, ErrT K (He.ga K x) fI
  T0 : InitT K fI
  gC : ∀ x ∈ errs, mg x = some (.ref (He.ga K x))
  gT : mg "TaglessError" = some (.ref CT)
  ex : ∀ x ∈ errs, PySem.W.exmOne K (.ref (He.ga K x)) (.ref CT) = some true
  kC : ∀ x ∈ errs, ∀ y ∈ errs, PySem.W.kitOne K (.ref (He.ga K x)) (.ref (He.ga K y)) = some (x == y)
  kV : ∀ x ∈ errs, PySem.W.kitOne K (.ref (He.ga K x)) (.type "ValueError") = some true
theorem e1in : ("NoDocument" : Str) ∈ errs := List.mem_cons_self
theorem e2in : ("BadText" : Str) ∈ errs := List.mem_cons_of_mem _ List.mem_cons_self
theorem caught_gives {X : Cx} {g CT fI : Addr} {cdg : Value} {q y : Str} {k : Nat} (E : HeB X.K X.mg CT fI) (hy : y = ("text" : Str) ∨ y = ("none" : Str)) : GivesW X NgC "_law_caught" (defScope (top 44)) g cdg (defBody (top 44)) "_law_call" q y k (TTc X.K y) := by
  intro f c' s H Q tl hr act hc h
  refine ⟨_, (pss_cons (ps_asg (X := (cxOf C8.CX0 X.prog X.w X.K X.mg X.base NgC "_law_caught" (defScope (top 44)) g cdg X.A X.stack s H C8.E0).nox) (pe_tup (pa_cons pe_non (pa_cons pe_non pa_nil))) (pg_tup (by rfl) (pgs_cons (pg_name (i := 2) scCaught.nd rfl (Or.inl rfl)) (pgs_cons (pg_name (i := 3) scCaught.nd rfl (Or.inl rfl)) pgs_nil)))) (pss_cons (ps_try_keep (i := 4) (c := .ref CT) (tb := fun W D σ H => ∃ Ech : XK, (∀ cls d H', Ech cls d H' → W cls d σ H') ∧ σ[0]? = some (some (.ref f)) ∧ H c' = some (CodeO c' q) ∧ tl Ech H fun v H' => gName 3 v σ H' D.nx)
        rfl rfl rfl scCaught.nd rfl rfl ⟨rfl, by decide, .inl E.gT⟩ (fun W pn xe tk _ => ?act) (fun a pn => (pss_one (ps_set (i := 2) scCaught.nd rfl (Or.inl rfl) (pv 4))))) (pss_cons (ps_if (pt_cmpR op_isN (pv 2) pe_non (nomark _)) (pss_one (ps_ret (pe_tup (pa_cons pe_str (pa_cons (pv 3) pa_nil))))) pss_nil) (pss_cons (ps_set (i := 5) scCaught.nd rfl (Or.inl rfl) (pe_ifExp (pt_cmpR op_eq (pv 1) pe_str (nomark _)) (pe_callB (call_isErrK E.T0) (by rfl) E.b.isi (by decide +kernel) (pa_cons (pv 2) (pa_cons (pe_glob (v := .ref (He.ga X.K "BadText")) rfl (E.gC _ e2in) rfl) pa_nil))) (pe_callB (call_isErrK E.T0) (by rfl) E.b.isi (by decide +kernel) (pa_cons (pv 2) (pa_cons (pe_glob (v := .ref (He.ga X.K "NoDocument")) rfl (E.gC _ e1in) rfl) pa_nil))))) (pss_cons (ps_set (i := 6) scCaught.nd rfl (Or.inl rfl) (pe_ifExp (pt_cmpR op_eq (pv 1) pe_str (nomark _)) (pe_callB (call_isErrK E.T0) (by rfl) E.b.isi (by decide +kernel) (pa_cons (pv 2) (pa_cons (pe_glob (v := .ref (He.ga X.K "NoDocument")) rfl (E.gC _ e1in) rfl) pa_nil))) (pe_callB (call_isErrK E.T0) (by rfl) E.b.isi (by decide +kernel) (pa_cons (pv 2) (pa_cons (pe_glob (v := .ref (He.ga X.K "BadText")) rfl (E.gC _ e2in) rfl) pa_nil))))) (pss_one (ps_ret (pe_ifExp (PW.pt (pw_and (pt_val (pv 5)) (pw_and (pt_not (pt_val (pv 6))) (pw_and1 (pt_val (pe_callB (call_isErrK E.T0) (by rfl) E.b.isi (by decide +kernel) (pa_cons (pv 2) (pa_cons (pe_bltn (v := .ty "ValueError") (by rfl) E.b.ve (by decide +kernel) rfl) pa_nil)))))))) (pe_tup (pa_cons (pv 1) (pa_cons (pe_valK (fI := fI) (pv 2)) pa_nil))) (pe_tup (pa_cons pe_str (pa_cons pe_non pa_nil))))))))))), ?_⟩
  case act => exact pss_one (ps_set (i := 3) scCaught.nd rfl (Or.inl rfl) (act W pn xe _ _ tk))
  have two : (2 : Nat) ≤ sizeLine := by decide
  refine ⟨two, fun t0 ht0 => ⟨t0, _, rfl, SqT.of upd_same, rfl, .non, [.non], rfl, .non, [], rfl, rfl, ?_⟩⟩
  have s0 := same_new ht0 (.tup [V.non, V.non])
  refine ⟨_, fun _ _ _ z => z, rfl, s0 _ _ hc, h _ _ _ s0 (fun dd v H' hdd hq => ?_) (fun v H' hq => ?_)⟩
  · have hx : clsW y ∈ errs := by rcases hy with rfl | rfl <;> decide +kernel
    generalize hcx : clsW y = x at hx hq ⊢
    refine ⟨E.ex x hx, fun a ha => ?_⟩
    have na : dd ≠ a := ne_of_none hdd ha
    have sa := same_new ha (erk a (.ref (He.ga X.K x)) (some dd))
    have kept : IsKept (upd H' a (erk a (.ref (He.ga X.K x)) (some dd))) (He.ga X.K x) v (.ref a) := ⟨a, dd, rfl, upd_same, sa _ _ hdd⟩
    have k1 := E.kC x hx _ e1in
    have k2 := E.kC x hx _ e2in
    have t1 : (("BadText" : Str) == ("NoDocument" : Str)) = false := by decide +kernel
    have t2 : (("BadText" : Str) == ("BadText" : Str)) = true := by decide +kernel
    have t3 : (("NoDocument" : Str) == ("NoDocument" : Str)) = true := by decide +kernel
    have t4 : (("NoDocument" : Str) == ("BadText" : Str)) = false := by decide +kernel
    have y1 : clsW "text" = "BadText" := by decide +kernel
    have y2 : clsW "none" = "NoDocument" := by decide +kernel
    have d1 : decide (V.str ("text" : Str) = V.str (Str.ofString "text")) = true := by decide +kernel
    have d2 : decide (V.str ("none" : Str) = V.str (Str.ofString "text")) = false := by decide +kernel
    refine ⟨_, rfl, _, rfl, rfl, _, rfl, iteF ?_⟩
    rcases hy with rfl | rfl
    · rw [y1] at hcx
      subst hcx
      rw [t1] at k1
      rw [t2] at k2
      refine ⟨_, rfl, rfl, _, rfl, ite_t d1 ⟨_, rfl, .ref a, .ref (He.ga X.K "BadText"), He.ga X.K "BadText", v, .ref (He.ga X.K "BadText"), true, rfl, .own _, E.T _ hx, kept, k2, ?_⟩⟩
      refine ⟨_, rfl, rfl, _, rfl, ite_t d1 ⟨_, rfl, .ref a, .ref (He.ga X.K "NoDocument"), He.ga X.K "BadText", v, .ref (He.ga X.K "NoDocument"), false, rfl, .own _, E.T _ hx, kept, k1, ?_⟩⟩
      refine ⟨_, rfl, _, rfl, iteT ⟨_, rfl, _, rfl, iteT ⟨_, rfl, .ref a, .ty "ValueError", He.ga X.K "BadText", v, .type "ValueError", true, rfl, .ty _, E.T _ hx, kept, E.kV _ hx, _, rfl, iteT ?_⟩⟩⟩
      exact ⟨_, rfl, _, rfl, He.ga X.K "BadText", v, E.T _ hx, kept, two, fun t ht => hq t _ (sa.trans (same_new ht _)) (Same.free sa ht) upd_same⟩
    · rw [y2] at hcx
      subst hcx
      rw [t3] at k1
      rw [t4] at k2
      refine ⟨_, rfl, rfl, _, rfl, ite_f d2 ⟨_, rfl, .ref a, .ref (He.ga X.K "NoDocument"), He.ga X.K "NoDocument", v, .ref (He.ga X.K "NoDocument"), true, rfl, .own _, E.T _ hx, kept, k1, ?_⟩⟩
      refine ⟨_, rfl, rfl, _, rfl, ite_f d2 ⟨_, rfl, .ref a, .ref (He.ga X.K "BadText"), He.ga X.K "NoDocument", v, .ref (He.ga X.K "BadText"), false, rfl, .own _, E.T _ hx, kept, k2, ?_⟩⟩
      refine ⟨_, rfl, _, rfl, iteT ⟨_, rfl, _, rfl, iteT ⟨_, rfl, .ref a, .ty "ValueError", He.ga X.K "NoDocument", v, .type "ValueError", true, rfl, .ty _, E.T _ hx, kept, E.kV _ hx, _, rfl, iteT ?_⟩⟩⟩
      exact ⟨_, rfl, _, rfl, He.ga X.K "NoDocument", v, E.T _ hx, kept, two, fun t ht => hq t _ (sa.trans (same_new ht _)) (Same.free sa ht) upd_same⟩
  · refine ⟨_, rfl, rfl, _, rfl, iteT ⟨_, rfl, two, fun t ht => ?_⟩⟩
    exact hq t _ (same_new ht _) ht upd_same
end K87
set_option Elab.async false
set_option linter.all false
set_option maxRecDepth 100000
set_option maxHeartbeats 8000000
/-! L88ZA: defs whose code object is named; displays of data. -/
namespace K00
open PySem PySem.Spec L2 LamX
open PyProof.Rows (envOfC sortedS)
/-- fnG_of, where the def's code object is the one that the written part tells -/
theorem fnG_ofC {P : Program} {w : World} {K : PySem.W.Frag} {mg : Str → Option Value} {base : Heap} {k : Nat} {x : Str} {st : Stmt} {fd : FuncData} {N ps : List Str} {sp : Sp} (F : FunD K x x (defArgs st) (defBody st) (defScope st) [] [] (He.ga K x) fd) (S : FnScope N ps (defScope st))
    (len : ∀ vs H Q E, sp vs H Q E → vs.length = ps.length)
    (body : ∀ (A : Around) (outer : List Env) (s : Shared) (H : Hp) (vs : List V) (Q : VK) (E : XK), A.guards = some [] → Room k (A.deeper (envOfC x (defScope st) s.heap.objs.size (He.ga K x) (.ref (He.codeOf K (x, none))))) → sp vs H Q E →
      ∃ t, PSs (cxOf CX0 P w K mg base N x (defScope st) (He.ga K x) (.ref (He.codeOf K (x, none))) A outer s H E) (defBody st) t ∧ t { nx := fun _ H' => Q .non H', rt := Q } (start N vs) H) :
    FnG P w K mg base (k + 1) (He.ga K x) fd ps sp := by
  refine ⟨len, ?_⟩
  intro A outer s H args us vs Q E hgd hr e0 hb r hsp
  obtain ⟨oc, od, dV, kV, doc, pm, an, cdv, ct, osl, rfl, lk, hcd, _, _⟩ := F.ex
  obtain ⟨c0, rfl⟩ := He.codeIn_ref hcd
  have ec : He.codeOf K (x, none) = c0 := He.codeOf_eq (p := (x, none)) lk rfl
  subst ec
  have stands := fun b o (e : base.get? b = some o) => (e0.bs b o e).1
  have inK : K.In s.heap := e0.mod.kin.keeps stands
  have size_ := len _ _ _ _ hsp
  have params : ∀ y ∈ ps.zip us, (defScope st).names.lookup y.1 = some .local ∨
      ((defScope st).names.lookup y.1 = some .cell ∧ ((cellsFrom (s.heap.objs.size + 1) (defScope st).names []).lookup y.1).isSome = true) := by
    rintro ⟨n, v⟩ hy
    exact (S.par n (List.of_mem_zip hy).1).imp id fun q => ⟨q, PySem.W.cellsFrom_some _ _ _ (Or.inl q)⟩
  refine codeAny_call_function hr.depth (inK _ _ lk) rfl S.co S.gen rfl
    (PySem.W.codeRec_of inK hcd) (hb _ _ _ _ (wpAny_newFunctionEnv_cells S.kind params ?_))
  intro env he s1 x
  subst he
  obtain ⟨t, ht, hq⟩ := body A outer s H vs Q E hgd (hr.deeper _) hsp
  have I := inv_start (CX := CX0) (E := E) (qual := _) S hr.hd e0 size_ r x
  refine ⟨(e0.mod.nolimit.keeps stands).keeps x.toInCall.keep, codeAny_func (wpAny_mono (ht.run [] s1 _ H _ I hq) ?_ fun _ _ z => z)⟩
  intro fl s' hs
  match fl, hs with
  | .ret u, ⟨v, σ', H', J, rv, q⟩ => exact ⟨v, H', J.os, J.bare, J.base, J.hok, rv, q⟩
  | .next, ⟨σ', H', J, q⟩ => exact ⟨V.non, H', J.os, J.bare, J.base, J.hok, rfl, q⟩
  | .brk, ⟨_, _, _, q⟩ => exact q.elim
  | .cont, ⟨_, _, _, q⟩ => exact q.elim
theorem Kp.ext {H H' : Hp} (k : ExtN H H') : Kp H H' := ⟨fun b xs e => k b _ e (fun _ z => nomatch z), fun b o u e => k b _ e (fun _ z => nomatch z)⟩
/-- all but the tables and what stands at p stays -/
def ChX (p : Addr) (H H' : Hp) : Prop := ∀ b o, b ≠ p → H b = some o → (∀ ps, o ≠ .tbl ps) → H' b = some o
theorem ChX.trans {p : Addr} {H H1 H2 : Hp} (a : ChX p H H1) (b : ChX p H1 H2) : ChX p H H2 := fun c o n e t => b c o n (a c o n e t) t
theorem ChX.ch {p : Addr} {H H' : Hp} (k : Ch p H H') : ChX p H H' := fun b o n e _ => k b o n e
theorem ChX.ext {p : Addr} {H H' : Hp} (k : ExtN H H') : ChX p H H' := fun b o _ e t => k b o e t
theorem Kp.chx {p : Addr} {H H' : Hp} {xs : List V} (k : ChX p H H') (h : H p = some (.lst xs)) : Kp H H' :=
  ⟨fun b ys e => k b _ (fun z => by rw [z, h] at e; cases e) e (fun _ z => nomatch z), fun b o u e => k b _ (fun z => by rw [z, h] at e; cases e) e (fun _ z => nomatch z)⟩
theorem Tabs.ch {T : List (Addr × Str)} {p : Addr} {H H' : Hp} {xs : List V} (t : Tabs T H) (k : Ch p H H') (h : H p = some (.lst xs)) : Tabs T H' := fun q hq => by
  obtain ⟨ps, h1, h2, h3⟩ := t q hq
  refine ⟨ps, k _ _ (fun z => by rw [z, h] at h1; cases h1) h1, h2, fun pos cv hc => ?_⟩
  obtain ⟨c, e1, e2⟩ := h3 pos cv hc
  refine ⟨c, e1, k _ _ (fun z => ?_) e2⟩
  rw [z, h] at e2
  unfold CodeO at e2
  cases e2
theorem PotAt.ext {H H' : Hp} {p : Addr} {c : Nat} (h : PotAt H p c) (k : ExtN H H') : PotAt H' p c := by
  obtain ⟨a, b, j, e, r⟩ := h
  exact ⟨a, b, j, k _ _ e (fun _ z => nomatch z), r⟩
end K00
namespace K00
open PySem PySem.Spec L2
def tDispN (P : Program) (w : World) : TE := fun _ H Q => ∀ p, H p = none → ∀ o, Q (.ref p) (upd H p (.frz o (ndO P w p)))
theorem none_empty {P : Program} {w : World} {h : Heap} {a : Addr} (d : h.DictOf (mixKind P w) a []) : h.DictOf (noneKind P w) a [] := by
  obtain ⟨o, es, ep, h1, h2, h3, h4, h5, h6⟩ := d
  refine ⟨o, es, ep, h1, h2, h3, fun e he => ?_, ?_, List.nodup_nil⟩
  · obtain ⟨l⟩ := es
    cases h5
    exact absurd he (by simp)
  · obtain ⟨l⟩ := es
    cases h5
    exact .nil
theorem pe_dispN {X : Cx} {pos p1 p2 : Pos} {j1 j2} : PE X (.Dict [some (.Constant .none j1 p1)] [.Constant (.int 1) j2 p2] pos) (tDispN X.prog X.w) := by
  refine ⟨fun pins s σ H Q I q => ?_⟩
  have hn := I.hok.fresh (Nat.le_refl s.heap.objs.size)
  have I1 := I.laid (a := s.heap.objs.size) (o := .dK []) (h' := s.heap.push { cls := .type "dict", data := .dict #[] }) (t' := s.toks) (fun _ _ q => Heap.get?_push_of_some _ q) (Nat.le_refl _) (dk_empty s.heap I.big)
  have h : PPs X pos [some (.Constant .none j1 p1)] [.Constant (.int 1) j2 p2] [(tC .non, tC (.int 1))] := pps_cons pe_non pe_int pps_nil
  refine PySem.wpAny_Dict_walk (knd := noneKind X.prog X.w) rfl rfl (fun z => by cases z) (by show 1 ≤ 15; decide) (thn (h.run pins _ σ _ (fun ps H2 => ps = [(.non, .int 1)] ∧ H2 = upd H s.heap.objs.size (.dK [])) I1 ⟨rfl, rfl⟩) fun ws s2 ⟨ps, H2, I2, rel, ep, eH⟩ => ?_)
  subst ep eH
  cases rel with
  | @cons a b as bs r t =>
    cases t
    obtain ⟨b1, b2⟩ := b
    obtain ⟨r1, r2⟩ := r
    cases (show b1 = Value.none from r1)
    obtain ⟨tk, e2⟩ := (show ∃ t, b2 = Value.int 1 t from r2)
    subst e2
    obtain ⟨z, hd, vs0, r0, dd⟩ := dk_of I2.hok upd_same
    cases r0
    refine ⟨[((none : Option Key), Value.int 1 tk)], ⟨rfl, rfl, True.intro⟩, none_empty dd, fun h' dd' hs => ?_⟩
    have he : ∃ q, h'.get? s.heap.objs.size = some q := let ⟨q, _, _, hq, _⟩ := dd'; ⟨q, hq⟩
    have J := d_write I2 (t' := s2.toks + 1) (ob := ndO X.prog X.w s.heap.objs.size) (by rw [upd_same]; exact True.intro) hs he (ndO_ok hd dd')
    rw [upd_upd] at J
    obtain ⟨od, J2⟩ := J.lock upd_same trivial
    rw [upd_upd] at J2
    exact ⟨.ref s.heap.objs.size, _, J2, rfl, q _ hn od⟩
section
variable {X : Cx}
def tD (P : Program) (w : World) (d : PyData) : TE := fun σ H Q => ∀ x H', Same H H' → Da P w H' x d → Q x H'
def tDs (P : Program) (w : World) (ds : List PyData) : TA := fun σ H Q => ∀ xs H', Same H H' → DaL P w H' xs ds → Q xs H'
theorem pd_int {i j pos} : PE X (.Constant (.int i) j pos) (tD X.prog X.w (.int i)) := pe_mono pe_int fun σ H Q q => q _ H (same_refl H) (.int i)
theorem pds_nil : PA X [] (tDs X.prog X.w []) := pa_mono pa_nil fun σ H Q q => q [] H (same_refl H) .nil
theorem pds_cons {e : Expr} {es : List Expr} {d : PyData} {ds : List PyData} (h : PE X e (tD X.prog X.w d)) (r : PA X es (tDs X.prog X.w ds)) (he : starEach (e :: es) X.env = (false, eval e X.env) :: starEach es X.env := by rfl) : PA X (e :: es) (tDs X.prog X.w (d :: ds)) :=
  pa_mono (pa_cons h r he) fun σ H Q q => fun x H1 k hd => fun xs H2 k2 hds => q (x :: xs) H2 (k.trans k2) (.cons (hd.kp (.same k2)) hds)
theorem pd_tup {es : List Expr} {ds : List PyData} {x1 pos} (r : PA X es (tDs X.prog X.w ds)) (hz : ds.length ≤ 10 := by decide) : PE X (.Tuple es x1 pos) (tD X.prog X.w (.tuple ds)) :=
  pe_mono (pe_tup r) fun σ H Q q => fun xs H1 k hds => ⟨by rw [hds.length]; exact Nat.le_of_lt (small1000 (by omega)), fun p hp => q _ _ (k.trans (same_new hp _)) (.tup upd_same (hds.kp (.new hp _)))⟩
theorem pd_dic {ke ve : Expr} {key : Key} {v : V} {dk dv : PyData} {pos} (hk : PE X ke (tC (kV key))) (hv : PE X ve (tC v)) (h1 : ∀ H, Da X.prog X.w H (kV key) dk) (h2 : ∀ H, Da X.prog X.w H v dv) : PE X (.Dict [some ke] [ve] pos) (tD X.prog X.w (.dict [(dk, dv)])) :=
  pe_mono (pe_fz (pe_disp (pps_cons hk hv pps_nil) (by rfl) (by rfl) (fun z => by cases z) (by show 1 ≤ 15; decide))) fun σ H Q q => fun p hp =>
    ⟨upd_same, [(key, v)], rfl, (by show 1 ≤ 15; decide), p, _, rfl, upd_same, trivial, fun o => by
      rw [upd_upd, upd_upd]
      exact q (.ref p) _ (same_new hp _) (.dic (.inl ⟨[(key, v)], upd_same, rfl⟩) (.cons (h1 _) (h2 _) .nil))⟩
theorem pd_dicN {pos p1 p2 : Pos} {j1 j2} : PE X (.Dict [some (.Constant .none j1 p1)] [.Constant (.int 1) j2 p2] pos) (tD X.prog X.w (.dict [(.none, .int 1)])) :=
  pe_mono pe_dispN fun σ H Q q => fun p hp o => q (.ref p) _ (same_new hp _) (.dic (.inr ⟨upd_same, rfl⟩) (.cons .non (.int 1) .nil))
end
section
variable {X : Cx}
theorem pd_c {e : Expr} {v : V} {d : PyData} (h : PE X e (tC v)) (hd : ∀ H, Da X.prog X.w H v d) : PE X e (tD X.prog X.w d) := pe_mono h fun σ H Q q => q v H (same_refl H) (hd H)
theorem pd_non {j pos} : PE X (.Constant .none j pos) (tD X.prog X.w .none) := pd_c pe_non fun _ => .non
theorem pd_bl {b j pos} : PE X (.Constant (.bool b) j pos) (tD X.prog X.w (.bool b)) := pd_c pe_bl fun _ => .bl b
theorem pd_str {x j pos} : PE X (.Constant (.str x) j pos) (tD X.prog X.w (.str x)) := pd_c pe_str fun _ => .str x
theorem pd_neg {i j p1 pos} : PE X (.UnaryOp .USub (.Constant (.int i) j p1) pos) (tD X.prog X.w (.int (-i))) := pe_mono (pe_un un_neg pe_int) fun σ H Q q => ⟨i, rfl, q _ H (same_refl H) (.int _)⟩
theorem same_lock {H : Hp} {p : Addr} (h : H p = none) (a b : HO) : Same H (upd (upd H p a) p b) := fun c o e => by
  rw [upd_ne (ne_of_none e h), upd_ne (ne_of_none e h)]
  exact e
theorem pd_lst {es : List Expr} {ds : List PyData} {pos} (r : PA X es (tDs X.prog X.w ds)) (hz : ds.length ≤ 10 := by decide) : PE X (.List es pos) (tD X.prog X.w (.list ds)) :=
  pe_mono (pe_fz (pe_lst r)) fun σ H Q q => fun xs H1 k hds => ⟨by rw [hds.length]; exact Nat.le_of_lt (small1000 (by omega)), fun p hp => ⟨p, _, rfl, upd_same, trivial, fun o => by
    rw [upd_upd]
    exact q _ _ (k.trans (same_new hp _)) (.lst upd_same (hds.kp (.new hp _)))⟩⟩
theorem pd_dic0 {pos} : PE X (.Dict [] [] pos) (tD X.prog X.w (.dict [])) :=
  pe_mono (pe_fzK pe_dnewK) fun σ H Q q => fun p hp => ⟨p, [], rfl, upd_same, fun _ o => by
    rw [upd_upd]
    exact q _ _ (same_new hp _) (.dic (.inl ⟨[], upd_same, rfl⟩) .nil)⟩
theorem kp_over {H : Hp} {p : Addr} {o : HO} {kvs : List (Key × V)} (h : H p = some (.dK kvs)) : Kp H (upd H p o) := ⟨fun b xs e => by
    rw [upd_ne (fun z => by rw [z, h] at e; cases e)]
    exact e, fun b o' u e => by
    rw [upd_ne (fun z => by rw [z, h] at e; cases e)]
    exact e⟩
theorem pd_dicV {ke ve : Expr} {key : Key} {dk dv : PyData} {pos} (hk : PE X ke (tC (kV key))) (hv : PE X ve (tD X.prog X.w dv)) (h1 : ∀ H, Da X.prog X.w H (kV key) dk) : PE X (.Dict [some ke] [ve] pos) (tD X.prog X.w (.dict [(dk, dv)])) :=
  pe_mono (pe_fzK (pe_disp (pps_cons hk hv pps_nil) (by rfl) (by rfl) (fun z => by cases z) (by show 1 ≤ 15; decide))) fun σ H Q q => fun p hp => fun x H1 k hd => by
    have e1 : H1 p = some (.dK []) := k _ _ upd_same
    refine ⟨e1, [(key, x)], rfl, (by show 1 ≤ 15; decide), p, _, rfl, upd_same, fun _ o => ?_⟩
    rw [upd_upd]
    refine q (.ref p) _ (fun b u e => ?_) (.dic (.inl ⟨[(key, x)], upd_same, rfl⟩) (.cons (h1 _) (hd.kp (kp_over e1)) .nil))
    rw [upd_ne (ne_of_none e hp)]
    exact k _ _ ((same_new hp _) _ _ e)
end
end K00
set_option Elab.async false
set_option linter.all false
set_option maxRecDepth 100000
set_option maxHeartbeats 8000000
/-! L88ZB: _law_right. -/
namespace K87
open PySem PySem.Spec L2 K00 LamX TL
open PyProof.Rows (envOfC sortedS)
/-- a good document is no deeper than the signs that open in its text -/
theorem depth_opn : ∀ (n : Nat) (d : PyData), d.depth ≤ n → isOne d = true → SmN 1000 d → d.depth ≤ opn (wr d) := by
  intro n
  induction n with
  | zero => intro d h _ _; omega
  | succ n ih =>
    intro d h od sm
    cases d with
    | list xs =>
      have hk : ∀ x ∈ xs, x.depth ≤ opn (jn [44, 32] (xs.map wr)) := fun x hx => by
        have := depth_kids7 (d := .list xs) hx
        exact Nat.le_trans (ih x (by omega) (isOne_kidsOf od x hx) (smN_kids (d := .list xs) sm hx)) (opn_jn_mem (List.mem_map.mpr ⟨x, hx, rfl⟩))
      rw [wr_list, opn_91, opn_app]
      have : ∀ l : List PyData, (∀ x ∈ l, x.depth ≤ opn (jn [44, 32] (xs.map wr))) → PyData.depthAll l ≤ opn (jn [44, 32] (xs.map wr)) := fun l => by
        induction l with
        | nil => intro _; exact Nat.zero_le _
        | cons x r ih2 =>
          intro hl
          have a := hl x List.mem_cons_self
          have b := ih2 fun y hy => hl y (List.mem_cons_of_mem _ hy)
          simp only [PyData.depthAll]
          omega
      have := this xs hk
      simp only [PyData.depth]
      omega
    | dict ds =>
      have hk : ∀ p ∈ ds, p.2.depth ≤ opn (jn [44, 32] ((fls ds).map (wrow ds))) := fun p hp => by
        have hm : p.2 ∈ kids (.dict ds) := List.mem_map.mpr ⟨p, hp, rfl⟩
        have := depth_kids7 hm
        have hkk : kS p.1 ∈ fls ds := (fls_perm ds).mem_iff.mpr (List.mem_map.mpr ⟨p, hp, rfl⟩)
        have h1 := ih p.2 (by omega) (isOne_kidsOf od _ hm) (smN_kids sm hm)
        have h2 := opn_jn_mem (x := wrow ds (kS p.1)) (ls := (fls ds).map (wrow ds)) (List.mem_map.mpr ⟨_, hkk, rfl⟩)
        have h3 : opn (wr p.2) ≤ opn (wrow ds (kS p.1)) := by
          unfold wrow
          rw [lookD_of sm.2.1 hp, opn_app]
          have e : opn (58 :: 32 :: wr p.2) = opn (wr p.2) := by
            unfold opn
            rw [List.countP_cons, List.countP_cons]
            rfl
          omega
        omega
      rw [wr_dictF sm.2.1, opn_123, opn_app]
      have hkeys : ∀ p ∈ ds, p.1.depth = 0 := fun p hp => by
        rw [keyB_str (isOne_keys od p hp)]
        rfl
      have : ∀ l : List (PyData × PyData), (∀ p ∈ l, p.2.depth ≤ opn (jn [44, 32] ((fls ds).map (wrow ds)))) → (∀ p ∈ l, p.1.depth = 0) → PyData.depthKv l ≤ opn (jn [44, 32] ((fls ds).map (wrow ds))) := fun l => by
        induction l with
        | nil => intro _ _; exact Nat.zero_le _
        | cons x r ih2 =>
          intro hl hz
          obtain ⟨a, b⟩ := x
          have h1 := hl (a, b) List.mem_cons_self
          have h0 := hz (a, b) List.mem_cons_self
          have h2 := ih2 (fun y hy => hl y (List.mem_cons_of_mem _ hy)) fun y hy => hz y (List.mem_cons_of_mem _ hy)
          simp only [PyData.depthKv]
          simp only at h1 h0
          omega
      have := this ds hk hkeys
      simp only [PyData.depth]
      omega
    | tuple xs => cases od
    | none => exact Nat.zero_le _
    | bool b => exact Nat.zero_le _
    | int i => exact Nat.zero_le _
    | str s => exact Nat.zero_le _
def oddD : List PyData := [.none, .int 3, .bool true, .tuple [], .list [], .dict [], .tuple [.str "-"], .list [.str "-"], .dict [(.str "x", .int 1)], .int (-1)]
def noneD : List PyData := [.tuple [], .tuple [.int 1], .dict [(.str "X", .int 1)], .dict [(.str "", .int 1)], .dict [(.int 1, .int 2)], .list [.tuple []], .dict [(.str "x", .tuple [])], .dict [(.str "abcdefghi", .int 1)], .dict [(.none, .int 1)]]
def moreD : List PyData := [.list [.list [.dict [(.str "a b", .int 1)]]]]
theorem oddD_ok : oddD.all (fun d => !isTx d && goodB (.tuple [.str "text", d])) = true := by decide +kernel
theorem noneD_ok : (noneD ++ moreD).all (fun d => !isOne d && (goodB (.tuple [.str "none", d]) && Nat.ble (cnt d) 900)) = true := by decide +kernel
theorem noneD_sm : ∀ d ∈ noneD ++ moreD, Sm d := by
  intro d hd
  refine SmN.sm (k := 4) (by decide) ?_
  have k : ∀ {x : PyData} {v : PyData}, SmN 4 x → SmN 4 v → SmN 4 (.dict [(x, v)]) := fun h1 h2 => ⟨by show 1 ≤ 4; decide, List.pairwise_singleton _ _, h1, h2, trivial⟩
  have s : ∀ {x : Str}, x.length ≤ 1000 → PyData.strOk x = true → SmN 4 (.str x) := fun a b => ⟨a, b⟩
  simp only [noneD, moreD, List.cons_append, List.nil_append, List.mem_cons, List.not_mem_nil, or_false] at hd
  rcases hd with rfl | rfl | rfl | rfl | rfl | rfl | rfl | rfl | rfl | rfl
  · exact ⟨by decide, trivial⟩
  · exact ⟨by decide, trivial, trivial⟩
  · exact k (s (by decide +kernel) (by decide +kernel)) trivial
  · exact k (s (by decide +kernel) (by decide +kernel)) trivial
  · exact k trivial trivial
  · exact ⟨by decide, ⟨by decide, trivial⟩, trivial⟩
  · exact k (s (by decide +kernel) (by decide +kernel)) ⟨by decide, trivial⟩
  · exact k (s (by decide +kernel) (by decide +kernel)) trivial
  · exact k trivial trivial
  · exact ⟨by decide, ⟨by decide, k (s (by decide +kernel) (by decide +kernel)) trivial, trivial⟩, trivial⟩
def pRi : He.Defn := ("_law_right", none)
def qRi : Str := (envOfC "_law_right" (defScope (top 45)) 0 0 .none).qual ++ "<lambda>"
section
variable {P : Program} {w : World} {H H' : Hp}
/-- what was told of a text -/
def ToldIs (P : Program) (w : World) (z : Str) (u : V) (H : Hp) : Prop :=
  (∃ t, u = .ref t ∧ H t = some (.tup [.str "text", .str z]) ∧ ∀ e, isOne e = true → SmN 1000 e → wr e ≠ tl z) ∨
  (∃ t y e, u = .ref t ∧ H t = some (.tup [.str "told", y]) ∧ Da P w H y e ∧ Tz e ∧ wr e = tl z)
theorem ToldIs.same {z : Str} {u : V} (h : ToldIs P w z u H) (k : Same H H') : ToldIs P w z u H' := by
  rcases h with ⟨t, h1, h2, h3⟩ | ⟨t, y, e, h1, h2, h3, h4⟩
  · exact .inl ⟨t, h1, k _ _ h2, h3⟩
  · exact .inr ⟨t, y, e, h1, k _ _ h2, h3.kp (.same k), h4⟩
def DueIs (P : Program) (w : World) (z : Str) (v : V) (H : Hp) : Prop :=
  (v = .non ∧ partR 15 (tl z) = none) ∨
  (∃ t y e k s, v = .ref t ∧ H t = some (.tup [y, .int (k : Nat)]) ∧ Da P w H y e ∧ partR 15 (tl z) = some (e, s) ∧ k ≤ (tl z).length ∧ (tl z).drop k = s)
end
theorem shaped2 {z : Str} (h : PyData.strOk z = true) : SeqAt.shaped (.tuple [.str "text", .str z]) = true := by
  refine Bool.and_eq_true_iff.mpr ⟨?_, by rfl⟩
  have e : PyData.strOk ("text" : Str) = true := by decide +kernel
  show (PyData.strOk ("text" : Str) && (PyData.strOk z && true)) = true
  rw [e, h]
  rfl
theorem eqv2 (z : Str) : PyData.eqv (.tuple [.str "text", .str z]) (.tuple [.str "text", .str z]) = true := by simp [PyData.eqv, PyData.eqvAll]
abbrev NgRi : List Str := ["_law_pot_here", "_law_text", "_law_told", "_law_due", "_law_odd", "_law_some", "_law_none"]
theorem scRi : FnScope NgRi ["_law_pot_here"] (defScope (top 45)) := ⟨rfl, rfl, rfl, by decide +kernel, rfl, by decide +kernel, by decide +kernel⟩
def spRight (T : List (Addr × Str)) : Sp := fun vs H Q _ => ∃ (p : Addr) (c : Nat), vs = [.ref p] ∧ PotAt H p c ∧ c + 60 ≤ 60000 ∧ Tabs T H ∧ ∀ H', ChX p H H' → Tabs T H' → PotAt H' p (c + 60) → Q (.bl true) H'
section
variable {P : Program} {w : World} {K : PySem.W.Frag} {mg : Str → Option Value} {base : Heap} {g1 g2 g3 g4 g5 g6 gH CT fe : Addr} {fd gd1 gd2 gd3 gd4 gd5 gd6 dH : FuncData} {T : List (Addr × Str)}
theorem ok_right (F : FnD K "_law_right" 45 (He.ga K "_law_right") fd) (B : Bl mg) (S : SysD K)
    (GT : FnOk P w K mg base CX0 7 g1 gd1 ["_law_pot_here"] spTD) (bT : Binds K gd1 ["_law_pot_here"] []) (kT : PySem.W.keepIn K (.ref g1) = true) (mT : mg "_law_text_drawn" = some (.ref g1))
    (GP : FnOk P w K mg base CX0 32 g2 gd2 ["_law_text", "_law_at"] (spPt P w 15)) (bP : Binds K gd2 ["_law_text", "_law_at"] []) (kP : PySem.W.keepIn K (.ref g2) = true) (mP : mg "_law_part" = some (.ref g2))
    (GW : FnOk P w K mg base CX0 16 g3 gd3 ["_law_document"] (spWrit P w 16)) (bW : Binds K gd3 ["_law_document"] []) (kW : PySem.W.keepIn K (.ref g3) = true) (mW : mg "_law_writ" = some (.ref g3))
    (GO : FnOk P w K mg base CX0 2 g4 gd4 ["_law_pot_here", "_law_some"] spOf) (bO : Binds K gd4 ["_law_pot_here", "_law_some"] []) (kO : PySem.W.keepIn K (.ref g4) = true) (mO : mg "_law_of" = some (.ref g4))
    (GR : FnOk P w K mg base (L2.CX P w) 6 g5 gd5 ["text"] (spReadG P w (He.ga K "BadText"))) (bR : Binds K gd5 ["text"] []) (kR : PySem.W.keepIn K (.ref g5) = true) (mR : mg "read_document" = some (.ref g5))
    (GH : FnOk P w K mg base (L2.CX P w) 5 g6 gd6 ["document"] (spShow P w (He.ga K "NoDocument"))) (bG : Binds K gd6 ["document"] []) (kG : PySem.W.keepIn K (.ref g6) = true) (mG : mg "show_document" = some (.ref g6))
    (FH : FnD K "_law_caught" 44 gH dH) (bH : Binds K dH ["_law_call", "_law_word"] []) (mH : mg "_law_caught" = some (.ref gH)) (HB : HeB K mg CT fe)
    (TB : TabB base mg (He.cT K pRi).1 (He.cT K pRi).2) (hT : ((He.cT K pRi).2, qRi) ∈ T) (hu : ∀ p ∈ T, p.1 = (He.cT K pRi).2 → p.2 = qRi) :
    FnG P w K mg base 33 (He.ga K "_law_right") fd ["_law_pot_here"] (spRight T) := by
  have kH := FH.kp
  obtain ⟨oc, od, dV, kVV, doc, pm, an, cdH, ct, osl, rfl, lkH, hcdH, _, _⟩ := FH.ex
  refine fnG_ofC F scRi (fun vs H Q E h => ?_) (fun A outer s H vs Q E hgd hr h => ?_)
  · obtain ⟨p, c, rfl, _⟩ := h
    rfl
  obtain ⟨p, c, rfl, hp, hc, tT, q⟩ := h
  have hrP : Room 32 _ := hr
  have hrW : Room 16 _ := hr.mono (by decide)
  have hr8 : Room 8 _ := hr.mono (by decide)
  have hrT : Room 7 _ := hr.mono (by decide)
  have hr2 : Room 2 _ := hr.mono (by decide)
  have hu50 : A.units + 3 + 50 < cLine := by
    have z : A.units + 3 + 16 * 32 + 200 < cLine := hr.un
    omega
  refine ⟨_, PSs.nox (pss_cons (ps_set (i := 1) scRi.nd rfl (Or.inr rfl) (pe_call GT hrT rfl mT kT bT .nil pass0 (pa_cons (pv 0) pa_nil))) (C8.pss_cut (ps_par (i := 2) (j := 3) rfl scRi.nd rfl rfl (by decide) rfl rfl (pa_cons (pe_lamcallW (T := T) (TT := TTc K "text") (k := 6) (Ng := NgC) (c := (He.cT K pRi).1) (P := (He.cT K pRi).2) (t := fun E => tCall (spReadG P w (He.ga K "BadText")) [] E (tCons (tVar 1) tNil)) rfl mH kH lkH hcdH bH scCaught rfl (Or.inl rfl) (caught_gives HB (by first | exact .inl rfl | exact .inr rfl)) TB rfl hT hu hr8 (lamS_by (sc := defScope (top 45)) (by decide +kernel)) rfl (fun _ _ _ _ _ => rfl)
            (fun A' outer' s' H' E' f c' hr2 => pe_call GR (hr2.mono (by decide)) rfl mR kR bR .nil (passes_call (takes_of rfl rfl rfl rfl) (fun _ _ _ _ z => z)) (pa_cons (pv 1) pa_nil))) (pa_cons (pe_call GP hrP rfl mP kP bP .nil pass0 (pa_cons (pv 1) (pa_cons pe_int pa_nil))) pa_nil)) (by rfl)) (C8.pss_cut (ps_if (PW.pt (pw_or (pt_cmpR op_isN (pv 3) pe_non (nomark _)) (pw_or1 (pt_cmpR op_ne (pe_ix ix_tup (pv 3) pe_int (fun _ _ => rfl)) (pe_callB call_len_str (by rfl) B.len PySem.boot_len (pa_cons (pv 1) pa_nil)) (nomark _))))) (pss_one (ps_if (pt_cmpR (op_neD hr.units) (pv 2) (pe_tup (pa_cons pe_str (pa_cons (pv 1) pa_nil))) (nomark _)) (pss_one (ps_ret pe_bl)) pss_nil)) (pss_one (ps_if (PW.pt (pw_or (pt_cmpR op_ne (pe_ix ix_tup (pv 2) pe_int (fun _ _ => rfl)) pe_str (nomark _)) (pw_or1 (pt_cmpR op_ne (pe_call GW hrW rfl mW kW bW .nil pass0 (pa_cons (pe_ix ix_tup (pv 2) pe_int (fun _ _ => rfl)) pa_nil)) (pe_call GW hrW rfl mW kW bW .nil pass0 (pa_cons (pe_ix ix_tup (pv 3) pe_int (fun _ _ => rfl)) pa_nil)) (nomark _))))) (pss_one (ps_ret pe_bl)) pss_nil))) (pss_cons (ps_set (i := 4) scRi.nd rfl (Or.inr rfl) (pe_call GO hr2 rfl mO kO bO .nil pass0 (pa_cons (pv 0) (pa_cons (pe_lst (t := tDs P w oddD) (pds_cons pd_non (pds_cons pd_int (pds_cons pd_bl (pds_cons (pd_tup pds_nil) (pds_cons (pd_lst pds_nil) (pds_cons pd_dic0 (pds_cons (pd_tup (pds_cons pd_str pds_nil)) (pds_cons (pd_lst (pds_cons pd_str pds_nil)) (pds_cons (pd_dic (key := .inr "x") (v := .int 1) pe_str pe_int (fun _ => .str "x") fun _ => .int 1) (pds_cons pd_neg pds_nil))))))))))) pa_nil)))) (C8.pss_cut (ps_if (pt_cmpR op_ne (pe_callB (call_reprD S hgd hu50) (by rfl) B.repr (by decide +kernel) (pa_cons (pe_lamcallW (T := T) (TT := TTc K "text") (k := 6) (Ng := NgC) (c := (He.cT K pRi).1) (P := (He.cT K pRi).2) (t := fun E => tCall (spReadG P w (He.ga K "BadText")) [] E (tCons (tVar 4) tNil)) rfl mH kH lkH hcdH bH scCaught rfl (Or.inl rfl) (caught_gives HB (by first | exact .inl rfl | exact .inr rfl)) TB rfl hT hu hr8 (lamS_by (sc := defScope (top 45)) (by decide +kernel)) rfl (fun _ _ _ _ _ => rfl)
            (fun A' outer' s' H' E' f c' hr2 => pe_call GR (hr2.mono (by decide)) rfl mR kR bR .nil (passes_call (takes_of rfl rfl rfl rfl) (fun _ _ _ _ z => z)) (pa_cons (pv 4) pa_nil))) pa_nil)) (pe_callB (call_reprD S hgd hu50) (by rfl) B.repr (by decide +kernel) (pa_cons (pe_tup (pa_cons pe_str (pa_cons (pv 4) pa_nil))) pa_nil)) (nomark _)) (pss_one (ps_ret pe_bl)) pss_nil) (pss_cons (ps_set (i := 5) scRi.nd rfl (Or.inl rfl) (pe_lst (t := tDs P w noneD) (pds_cons (pd_tup pds_nil) (pds_cons (pd_tup (pds_cons pd_int pds_nil)) (pds_cons (pd_dic (key := .inr "X") (v := .int 1) pe_str pe_int (fun _ => .str "X") fun _ => .int 1) (pds_cons (pd_dic (key := .inr "") (v := .int 1) pe_str pe_int (fun _ => .str "") fun _ => .int 1) (pds_cons (pd_dic (key := .inl 1) (v := .int 2) pe_int pe_int (fun _ => .int 1) fun _ => .int 2) (pds_cons (pd_lst (pds_cons (pd_tup pds_nil) pds_nil)) (pds_cons (pd_dicV (key := .inr "x") pe_str (pd_tup pds_nil) (fun _ => .str "x")) (pds_cons (pd_dic (key := .inr "abcdefghi") (v := .int 1) pe_str pe_int (fun _ => .str "abcdefghi") fun _ => .int 1) (pds_cons pd_dicN pds_nil))))))))))) (pss_cons (ps_set (i := 6) scRi.nd rfl (Or.inr rfl) (pe_call GO hr2 rfl mO kO bO .nil pass0 (pa_cons (pv 0) (pa_cons (pe_op op_cat (pv 5) (pe_lst (t := tDs P w moreD) (pds_cons (pd_lst (pds_cons (pd_lst (pds_cons (pd_dic (key := .inr "a b") (v := .int 1) pe_str pe_int (fun _ => .str "a b") fun _ => .int 1) pds_nil)) pds_nil)) pds_nil))) pa_nil)))) (pss_one (ps_ret (pe_cmpR op_eq (pe_callB (call_reprD S hgd hu50) (by rfl) B.repr (by decide +kernel) (pa_cons (pe_lamcallW (T := T) (TT := TTc K "none") (k := 6) (Ng := NgC) (c := (He.cT K pRi).1) (P := (He.cT K pRi).2) (t := fun E => tCall (spShow P w (He.ga K "NoDocument")) [] E (tCons (tVar 6) tNil)) rfl mH kH lkH hcdH bH scCaught rfl (Or.inl rfl) (caught_gives HB (by first | exact .inl rfl | exact .inr rfl)) TB rfl hT hu hr8 (lamS_by (sc := defScope (top 45)) (by decide +kernel)) rfl (fun _ _ _ _ _ => rfl)
            (fun A' outer' s' H' E' f c' hr2 => pe_call GH (hr2.mono (by decide)) rfl mG kG bG .nil (passes_call (takes_of rfl rfl rfl rfl) (fun _ _ _ _ z => z)) (pa_cons (pv 6) pa_nil))) pa_nil)) (pe_callB (call_reprD S hgd hu50) (by rfl) B.repr (by decide +kernel) (pa_cons (pe_tup (pa_cons pe_str (pa_cons (pv 6) pa_nil))) pa_nil)) (nomark _))))))))))), ?_⟩
  have two : 2 ≤ sizeLine := by decide
  refine ⟨_, rfl, p, c, rfl, hp, by omega, fun z H1 txb ch1 hp1 => ?_⟩
  obtain ⟨ys0, hys0⟩ := hp.lst
  have T1 := K00.Tabs.ch tT ch1 hys0
  have zl3 : (tl z).length ≤ 300 := by have := txb.ln; omega
  have lo := txb.lo
  have zlen : z.length = (tl z).length := len_tl z
  have big : (1000000 : Nat) ≤ sizeLine := by decide
  refine ⟨fun σ' H' => ∃ u v, σ' = [some (.ref p), some (.str z), some u, some v, none, none, none] ∧ ToldIs P w z u H' ∧ DueIs P w z v H' ∧ ExtN H1 H' ∧ Tabs T H', ?hear, ?rest⟩
  case hear =>
    refine ⟨T1, fun H2 e2 T2 => fun H3 E' R' k3 herr hfine => ⟨_, rfl, .str z, .str z, rfl, .str z, (fun h => by cases h), fun z' ez => ?_⟩⟩
    cases ez
    have e3 : ExtN H1 H3 := e2.trans (.of k3)
    have T3 := T2.ext k3
    have go : ∀ {u v : V} {H4 H5 : Hp}, ToldIs P w z u H4 → Same H3 H4 → Same H4 H5 → DueIs P w z v H5 → ∃ u' v', ([some (.ref p), some (.str z), some u, some v, none, none, none] : L2.St) = [some (.ref p), some (.str z), some u', some v', none, none, none] ∧ ToldIs P w z u' H5 ∧ DueIs P w z v' H5 ∧ ExtN H1 H5 ∧ Tabs T H5 := fun ht k4 k5 hd =>
      ⟨_, _, rfl, ht.same k5, hd, e3.trans (.of (k4.trans k5)), T3.ext (k4.trans k5)⟩
    refine ⟨zl3, lo, fun hno dd H4 k4 hdd => herr dd _ H4 hdd fun t H5 k5 hn ht => ?_, fun e y H4 hw tz k4 hy => hfine y H4 fun t H5 k5 hn ht => ?_⟩
    · have told : ToldIs P w z (.ref t) H5 := .inl ⟨t, rfl, ht, hno⟩
      exact ⟨_, rfl, z, 0, rfl, zl3, lo, Nat.zero_le _, txb.op, fun hp H6 k6 => ⟨_, _, rfl, go told (k4.trans k5) k6 (.inl ⟨rfl, hp⟩)⟩,
        fun d s hp t2 v H6 k k6 hn2 ht2 hd hk hs _ => ⟨_, _, rfl, go told (k4.trans k5) k6 (.inr ⟨t2, v, d, k, s, rfl, ht2, hd, hp, hk, hs⟩)⟩⟩
    · have told : ToldIs P w z (.ref t) H5 := .inr ⟨t, y, e, rfl, ht, hy.kp (.same k5), tz, hw⟩
      exact ⟨_, rfl, z, 0, rfl, zl3, lo, Nat.zero_le _, txb.op, fun hp H6 k6 => ⟨_, _, rfl, go told (k4.trans k5) k6 (.inl ⟨rfl, hp⟩)⟩,
        fun d s hp t2 v H6 k k6 hn2 ht2 hd hk hs _ => ⟨_, _, rfl, go told (k4.trans k5) k6 (.inr ⟨t2, v, d, k, s, rfl, ht2, hd, hp, hk, hs⟩)⟩⟩
  rintro σ' H2 ⟨u, v, rfl, told, due, e2, T2⟩
  have zok : PyData.strOk z = true := as7_ok (as7_iff.mpr lo)
  refine ⟨fun σ'' H' => σ'' = [some (.ref p), some (.str z), some u, some v, none, none, none] ∧ Same H2 H', ?cmp, ?rest2⟩
  case cmp =>
    rcases due with ⟨rfl, hnone⟩ | ⟨td, yd, ed, kd, sd, rfl, htd, hyd, hpart, hkd, hsd⟩
    · refine ⟨_, rfl, rfl, _, rfl, iteT (iteT ?_)⟩
      rcases told with ⟨t, rfl, ht, hno⟩ | ⟨t, y, e, rfl, ht, hy, tz, hw⟩
      · exact ⟨_, rfl, _, rfl, two, fun t2 ht2 => ⟨.tuple [.str "text", .str z], .tuple [.str "text", .str z], .tup (SqT.of ((same_new ht2 _) _ _ ht)) (.cons (.str _) (.cons (.str _) .nil)), .tup (SqT.of upd_same) (.cons (.str _) (.cons (.str _) .nil)), shaped2 zok, shaped2 zok, _, rfl, ite_f (by rw [eqv2]; rfl) ⟨rfl, same_new ht2 _⟩⟩⟩
      · obtain ⟨d, hd⟩ := due_is tz.one tz.sm hw txb.op
        rw [hd] at hnone
        cases hnone
    · have kl : (tl z).length - kd = sd.length := by rw [← hsd, List.length_drop]
      refine ⟨_, rfl, rfl, _, rfl, iteF ⟨_, rfl, td, _, _, _, rfl, rfl, SqT.of htd, atI_nat (j := 1) rfl, _, rfl, z, rfl, by omega, rfl, _, rfl, ?_⟩⟩
      rcases told with ⟨t, rfl, ht, hno⟩ | ⟨t, y, e, rfl, ht, hy, tz, hw⟩
      · have hs : sd ≠ [] := fun h => by
          rw [h] at hpart
          obtain ⟨g1, g2⟩ := due_of zl3 lo hpart
          exact hno ed g1.1 g1.2.2 g2
        have := pos_ne hs
        refine ite_t (by rw [decide_eq_false fun h => by have := V.int.inj h; omega]; rfl) ?_
        exact ⟨_, rfl, _, rfl, two, fun t2 ht2 => ⟨.tuple [.str "text", .str z], .tuple [.str "text", .str z], .tup (SqT.of ((same_new ht2 _) _ _ ht)) (.cons (.str _) (.cons (.str _) .nil)), .tup (SqT.of upd_same) (.cons (.str _) (.cons (.str _) .nil)), shaped2 zok, shaped2 zok, _, rfl, ite_f (by rw [eqv2]; rfl) ⟨rfl, same_new ht2 _⟩⟩⟩
      · obtain ⟨d, hd⟩ := due_is tz.one tz.sm hw txb.op
        rw [hd] at hpart
        cases hpart
        obtain ⟨g1, g2⟩ := due_of zl3 lo hd
        have l0 : ([] : List Nat).length = 0 := rfl
        rw [l0] at kl
        refine ite_f (by rw [decide_eq_true (congrArg V.int (by omega))]; rfl) ?_
        have dz : ∀ {e : PyData}, Gd e → wr e = tl z → Tz e ∧ (wr e).length ≤ 300 ∧ e.depth < 16 := fun {e} g hw => by
          have h1 := depth_opn e.depth e (Nat.le_refl _) g.1 g.2.2
          rw [hw] at h1
          have h2 := txb.op
          exact ⟨⟨g.1, g.2.2, g.2.1, by rw [hw]; omega⟩, by rw [hw]; exact zl3, by omega⟩
        obtain ⟨a1, a2, a3⟩ := dz (e := e) ⟨tz.one, tz.iq, tz.sm⟩ hw
        obtain ⟨c1, c2, c3⟩ := dz g1 g2
        refine ⟨_, rfl, t, _, _, _, rfl, rfl, SqT.of ht, atI_nat (j := 0) rfl, rfl, _, rfl, ite_f (by rw [decide_eq_true rfl]; rfl) ?_⟩
        refine ⟨_, rfl, t, _, _, _, rfl, rfl, SqT.of ht, atI_nat (j := 1) rfl, y, e, rfl, hy, a1, a2, a3, fun H4 k4 => ?_⟩
        refine ⟨_, rfl, td, _, _, _, rfl, rfl, SqT.of (k4 _ _ htd), atI_nat (j := 0) rfl, yd, _, rfl, hyd.kp (.same k4), c1, c2, c3, fun H5 k5 => ⟨rfl, _, rfl, ?_⟩⟩
        exact ite_f (by rw [hw, g2, decide_eq_true rfl]; rfl) ⟨rfl, k4.trans k5⟩
  case rest2 =>
    rintro σ' H3 ⟨rfl, k3⟩
    have e3 : ExtN H1 H3 := e2.trans (.of k3)
    have T3 := T2.ext k3
    have hp3 := hp1.ext e3
    have x3 : ChX p H H3 := (ChX.ch ch1).trans (.ext e3)
    refine ⟨_, rfl, fun xs H4 k4 hds => ⟨by rw [hds.length]; decide, fun l hl => ⟨p, l, xs, c + 50, rfl, upd_same, ?_, by rw [hds.length]; decide, by rw [hds.length]; decide, hp3.same (k4.trans (same_new hl _)), by omega, fun x H5 hx ch5 hp5 => ?_⟩⟩⟩
    · obtain ⟨ys, hy⟩ := (hp3.same k4).lst
      intro z0
      rw [z0, hy] at hl
      cases hl
    have k4l := k4.trans (same_new hl (.lst xs))
    obtain ⟨d, hd, hxd⟩ := hds.mem hx
    obtain ⟨ys3, hys3⟩ := (hp3.same k4l).lst
    have x5 : ChX p H H5 := x3.trans ((ChX.ch (.same k4l)).trans (.ch ch5))
    have T5 := K00.Tabs.ch (T3.ext k4l) ch5 hys3
    have hd5 : Da P w H5 x d := (hxd.kp (.new hl _)).kp (.ch ch5 hys3)
    obtain ⟨ok1, ok2⟩ := He.ba (List.all_eq_true.mp oddD_ok d hd)
    have ok1 : isTx d = false := by simpa using ok1
    refine ⟨fun σ'' H' => σ'' = [some (.ref p), some (.str z), some u, some v, some x, none, none] ∧ ExtN H5 H' ∧ Tabs T H', ?odd, ?rest3⟩
    case odd =>
      refine ⟨T5, fun H6 e6 T6 => fun H7 E' R' k7 herr hfine => ⟨_, rfl, x, d, rfl, hd5.kp (.ext (e6.trans (.of k7))), fun _ dd H8 k8 hdd => herr dd x H8 hdd fun t H9 k9 hn ht => ?_, fun z' ez => by rw [ez] at ok1; cases ok1⟩⟩
      have e9 : ExtN H5 H9 := (e6.trans (.of k7)).trans (.of (k8.trans k9))
      have hd9 := hd5.kp (.ext e9)
      refine ⟨_, .tuple [.str "text", d], rfl, .tup ht (.cons (.str _) (.cons hd9 .nil)), ok2, _, rfl, two, fun tt htt => ?_⟩
      have kt := same_new htt (.tup [.str "text", x])
      refine ⟨_, .tuple [.str "text", d], rfl, .tup upd_same (.cons (.str _) (.cons (hd9.kp (.same kt)) .nil)), ok2, rfl, _, rfl, ite_f (by rw [decide_eq_true rfl]; rfl) ⟨rfl, e9.trans (.of kt), T6.ext (k7.trans ((k8.trans k9).trans kt))⟩⟩
    rintro σ'' H6 ⟨rfl, e6, T6⟩
    have hp6 := hp5.ext e6
    have x6 : ChX p H H6 := x5.trans (.ext e6)
    refine fun xs1 H7 k7 hds1 => ⟨by rw [hds1.length]; decide, fun l1 hl1 => ?_⟩
    have s1 := same_new hl1 (.lst xs1)
    refine ⟨_, rfl, _, rfl, fun xs2 H8 k8 hds2 => ⟨by rw [hds2.length]; decide, fun l2 hl2 => ?_⟩⟩
    have s2 := same_new hl2 (.lst xs2)
    have m1 := s2 _ _ (k8 _ _ (upd_same (H := H7) (a := l1) (o := .lst xs1)))
    refine ⟨l1, l2, _, _, rfl, rfl, m1, upd_same, by rw [hds1.length, hds2.length]; decide, fun l3 hl3 => ?_⟩
    have s3 := same_new hl3 (.lst (xs1 ++ xs2))
    have kk : Same H6 (upd (upd H8 l2 (.lst xs2)) l3 (.lst (xs1 ++ xs2))) := (k7.trans s1).trans ((k8.trans s2).trans s3)
    have hda : DaL P w (upd (upd H8 l2 (.lst xs2)) l3 (.lst (xs1 ++ xs2))) (xs1 ++ xs2) (noneD ++ moreD) := (hds1.kp (.same (s1.trans ((k8.trans s2).trans s3)))).append (hds2.kp (.same (s2.trans s3)))
    have hp7 := hp6.same kk
    obtain ⟨ys7, hys7⟩ := hp7.lst
    have n3 : l3 ≠ p := fun e => by
      obtain ⟨ys, hy⟩ := (hp6.same ((k7.trans s1).trans (k8.trans s2))).lst
      rw [e, hy] at hl3
      cases hl3
    have T7 := T6.ext kk
    have m3 : upd (upd H8 l2 (.lst xs2)) l3 (.lst (xs1 ++ xs2)) l3 = some (.lst (xs1 ++ xs2)) := upd_same
    generalize upd (upd H8 l2 (.lst xs2)) l3 (.lst (xs1 ++ xs2)) = H9 at hda hp7 hys7 T7 kk m3 ⊢
    refine ⟨p, l3, _, c + 51, rfl, m3, n3, by rw [List.length_append, hds1.length, hds2.length]; decide, by rw [List.length_append, hds1.length, hds2.length]; decide, hp7, by omega, fun y H10 hy ch10 hp10 => ?_⟩
    obtain ⟨e, he, hye⟩ := hda.mem hy
    have T10 := K00.Tabs.ch T7 ch10 hys7
    have x10 : ChX p H H10 := x6.trans ((ChX.ch (.same kk)).trans (.ch ch10))
    have hd10 : Da P w H10 y e := hye.kp (.ch ch10 hys7)
    obtain ⟨n1, n2⟩ := He.ba (List.all_eq_true.mp noneD_ok e he)
    obtain ⟨n2, n4⟩ := He.ba n2
    have n1 : isOne e = false := by simpa using n1
    refine ⟨T10, fun H11 e11 T11 => fun H12 E' R' k12 herr hfine => ⟨_, rfl, y, e, rfl, hd10.kp (.ext (e11.trans (.of k12))), noneD_sm e he, Nat.le_of_ble_eq_true n4, fun _ dd H13 k13 hdd => herr dd y H13 hdd fun t H14 k14 hn ht => ?_, fun h => by rw [n1] at h; cases h⟩⟩
    have e14 : ExtN H10 H14 := (e11.trans (.of k12)).trans (.of (k13.trans k14))
    have hd14 := hd10.kp (.ext e14)
    refine ⟨_, .tuple [.str "none", e], rfl, .tup ht (.cons (.str _) (.cons hd14 .nil)), n2, _, rfl, two, fun tt htt => ?_⟩
    have kt := same_new htt (.tup [.str "none", y])
    refine ⟨_, .tuple [.str "none", e], rfl, .tup upd_same (.cons (.str _) (.cons (hd14.kp (.same kt)) .nil)), n2, rfl, ?_⟩
    rw [decide_eq_true rfl]
    exact q _ (x10.trans (.ext (e14.trans (.of kt)))) (T11.ext (k12.trans ((k13.trans k14).trans kt))) (((hp10.ext e14).same kt).mono (by omega))
end
end K87
set_option Elab.async false
set_option linter.all false
set_option maxRecDepth 100000
set_option maxHeartbeats 8000000
/-! L88ZC: the law's own def; the law's reader and writer at every level. -/
namespace K87
open PySem PySem.Spec L2 K00 LamX TL
open PyProof.Rows (envOfC sortedS)
theorem turns_ok (l : Int) : 1 ≤ (if (if l < 3 then l else 3) > 1 then (if l < 3 then l else 3) else 1) ∧ (if (if l < 3 then l else 3) > 1 then (if l < 3 then l else 3) else 1) ≤ 3 := by
  by_cases h : l < 3
  · rw [if_pos h]
    by_cases h2 : l > 1
    · rw [if_pos h2]; omega
    · rw [if_neg h2]; omega
  · rw [if_neg h]
    decide
theorem seq_ext {K : PySem.W.Frag} {H H' : Hp} {a : Addr} {xs : List V} (h : SqL K H a xs) (k : ExtN H H') : SqL K H' a xs := by
  rcases h with (h | ⟨o, h⟩) | h
  · exact .inl (.inl (k _ _ h fun _ z => nomatch z))
  · exact .inl (.inr ⟨o, k _ _ h fun _ z => nomatch z⟩)
  · exact .inr h
section
variable {P : Program} {w : World} {K : PySem.W.Frag} {mg : Str → Option Value} {base : Heap} {f : Addr} {fd : FuncData}
theorem fn_no {k : Nat} {ps : List Str} {sp : Sp} (h : ∀ vs H Q E, sp vs H Q E → False) : FnOk P w K mg base CX0 k f fd ps sp := ⟨fun vs H Q E z => (h _ _ _ _ z).elim, fun _ _ _ _ _ _ _ _ _ _ _ _ _ z => (h _ _ _ _ z).elim⟩
theorem fn_imp {k : Nat} {ps : List Str} {sp sp' : Sp} (h : ∀ vs H Q E, sp' vs H Q E → sp vs H Q E) (F : FnOk P w K mg base CX0 k f fd ps sp) : FnOk P w K mg base CX0 k f fd ps sp' := by
  obtain ⟨l, r⟩ := F
  exact ⟨fun vs H Q E z => l vs H Q E (h _ _ _ _ z), fun A outer s H args us vs Q E a b c d z => r A outer s H args us vs Q E a b c d (h _ _ _ _ z)⟩
theorem writ_all (F : FnD K "_law_writ" 38 f fd) (B : Bl mg) (bR : Binds K fd ["_law_document"] []) (gR : mg "_law_writ" = some (.ref f)) : ∀ n, FnOk P w K mg base CX0 n f fd ["_law_document"] (spWrit P w n)
  | 0 => fn_no fun vs H Q E ⟨x, d, _, _, _, _, h, _⟩ => absurd h (Nat.not_lt_zero _)
  | n + 1 => ok_writ F B (writ_all F B bR gR n) bR gR
end
section
variable {P : Program} {w : World} {K : PySem.W.Frag} {mg : Str → Option Value} {base : Heap} {f f2 g : Addr} {fd fd2 gd : FuncData}
theorem part_all (F : FnD K "_law_part" 41 f fd) (F2 : FnD K "_law_items" 39 f2 fd2) (B : Bl mg)
    (GS : FnOk P w K mg base CX0 1 g gd ["_law_text", "_law_at"] spLS) (bS : Binds K gd ["_law_text", "_law_at"] []) (kS : PySem.W.keepIn K (.ref g) = true) (gS : mg "_law_string" = some (.ref g))
    (bP : Binds K fd ["_law_text", "_law_at"] []) (gP : mg "_law_part" = some (.ref f)) (bI : Binds K fd2 ["_law_text", "_law_at", "_law_has_fields"] []) (gI : mg "_law_items" = some (.ref f2)) :
    ∀ n, FnOk P w K mg base CX0 (2 * n + 2) f fd ["_law_text", "_law_at"] (spPt P w n)
  | 0 => ok_pt (n := 0) F B GS bS kS gS (fn_no fun vs H Q E ⟨m, e, _⟩ => absurd e (Nat.succ_ne_zero m).symm) bI F2.kp gI
  | n + 1 => ok_pt (n := n + 1) F B GS bS kS gS (fn_imp (fun vs H Q E ⟨m, e, z⟩ => by cases e; exact z) (ok_it F2 B (part_all F F2 B GS bS kS gS bP gP bI gI n) bP F.kp gP)) bI F2.kp gI
end
abbrev NgL : List Str := ["_law_script", "_law_k", "_law_pot_here", "_law_turn"]
theorem scLaw : FnScope NgL ["_law_script"] (defScope (top 46)) := ⟨rfl, rfl, rfl, by decide +kernel, rfl, by decide +kernel, by decide +kernel⟩
def spLaw (K : PySem.W.Frag) (T : List (Addr × Str)) : Sp := fun vs H Q _ => ∃ (a : Addr) (ns : List Int), vs = [.ref a] ∧ SqL K H a (ns.map V.int) ∧ ns.length ≤ 63 ∧ Tabs T H ∧ ∀ H', Q (.bl true) H'
section
variable {P : Program} {w : World} {K : PySem.W.Frag} {mg : Str → Option Value} {base : Heap} {f fP fR : Addr} {fd dP dR : FuncData} {T : List (Addr × Str)}
theorem ok_law (F : FnD K "law" 46 f fd) (B : Bl mg)
    (GP : FnOk P w K mg base CX0 1 fP dP ["_law_script", "_law_k"] (spPot K)) (bP : Binds K dP ["_law_script", "_law_k"] []) (kP : PySem.W.keepIn K (.ref fP) = true) (gP : mg "_law_pot" = some (.ref fP))
    (GR : FnG P w K mg base 33 fR dR ["_law_pot_here"] (spRight T)) (bR : Binds K dR ["_law_pot_here"] []) (kR : PySem.W.keepIn K (.ref fR) = true) (gR : mg "_law_right" = some (.ref fR)) :
    FnG P w K mg base 34 f fd ["_law_script"] (spLaw K T) := by
  refine fnG_of F scLaw (fun vs H Q E h => ?_) (fun cdv A outer s H vs Q E hgd hr h => ?_)
  · obtain ⟨a, ns, rfl, _⟩ := h
    rfl
  obtain ⟨a, ns, rfl, hS, hn, tT, q⟩ := h
  have hr33 : Room 33 _ := hr
  have hr1 : Room 1 _ := hr.mono (by decide)
  refine ⟨_, PSs.nox (pss_cons (ps_for PassesOwn.never rfl (pi_range1 (by rfl) B.range (pa_cons (pe_callB (call_max2 rfl) (by rfl) B.max (by decide +kernel) (pa_cons pe_int (pa_cons (pe_callB (call_min2 rfl) (by rfl) B.min (by decide +kernel)
          (pa_cons pe_int (pa_cons (pe_callB call_len_seq (by rfl) B.len PySem.boot_len (pa_cons (pv 0) pa_nil)) pa_nil))) pa_nil))) pa_nil))
        (pg_name (i := 1) scLaw.nd rfl (Or.inl rfl))
      (pss_cons (ps_set (i := 2) scLaw.nd rfl (by first | exact Or.inl rfl | exact Or.inr rfl) (pe_call GP hr1 rfl gP kP bP .nil pass0 (pa_cons (pv 0) (pa_cons (pv 1) pa_nil))))
      (pss_one (ps_if (pt_not (pt_val (pe_callB (cr_all rfl) (by rfl) B.all (by decide +kernel) (pa_cons
          (pe_lc (own := [("_law_turn", 3)]) (g := gName 3) (tt := tYes) rfl scLaw.nd (pi_range1 (by rfl) B.range (pa_cons pe_int pa_nil)) (blkOk_by (N := NgL) (sc := defScope (top 46)) (by decide +kernel))
            (fun _ _ _ _ _ => pg_name (i := 3) scLaw.nd rfl (Or.inl rfl)) (fun _ _ _ _ _ => pts_nil) (fun _ _ _ _ _ => pe_callG GR hgd hr33 gR kR bR (pa_cons (pv 2) pa_nil))) pa_nil))))
        (pss_one (ps_ret pe_bl)) pss_nil))))
    (pss_one (ps_ret pe_bl))), ?_⟩
  have jb := turns_ok (((ns.map V.int).length : Nat) : Int)
  refine ⟨_, rfl, a, _, rfl, .inl hS, 3, _, rfl, 1, _, rfl, _, rfl, by omega, by omega, ?_⟩
  generalize (if (if (((ns.map V.int).length : Nat) : Int) < 3 then (((ns.map V.int).length : Nat) : Int) else 3) > 1 then (if (((ns.map V.int).length : Nat) : Int) < 3 then (((ns.map V.int).length : Nat) : Int) else 3) else 1) = j at jb
  refine for_range (lo := 0) (n := j.toNat) (fun _ σ H1 => (∃ kv pv' tv : Option V, σ = [some (.ref a), kv, pv', tv]) ∧ ExtN H H1 ∧ Tabs T H1) ⟨⟨_, _, _, rfl⟩, ExtN.refl H, tT⟩ ?turn ?after
  case after =>
    rintro σ H1 ⟨⟨kv, pv', tv, rfl⟩, k1, _⟩
    exact q H1
  rintro i σ H1 hi ⟨⟨kv, pv', tv, rfl⟩, k1, T1⟩
  refine ⟨_, rfl, _, rfl, a, ns, 0 + (i : Int), rfl, seq_ext hS k1, by omega, by omega, fun p H2 k2 hpn hp => ?_⟩
  have T2 := T1.ext k2
  refine ⟨12, rfl, by decide, by decide, fun D hD => ?_⟩
  have nDp : D ≠ p := fun e => by
    obtain ⟨ys, hy⟩ := hp.lst
    rw [e, hy] at hD
    cases hD
  refine lc_range (lo := 0) (n := 12) (fun t H3 => ChX p H2 H3 ∧ Tabs T H3 ∧ PotAt H3 p (60 * t) ∧ H3 D = some (.lst (List.replicate t (.bl true)))) ⟨.ch (.same (same_new hD _)), T2.ext (same_new hD _), hp.same (same_new hD _), upd_same⟩ ?_ ?_
  · rintro t H3 ht ⟨k3, T3, hp3, hD3⟩
    refine ⟨rfl, ?_⟩
    simp only [tYes, if_true]
    refine ⟨_, rfl, p, 60 * t, rfl, hp3, by omega, T3, fun H4 k4 T4 hp4 => ?_⟩
    have hD4 := k4 _ _ nDp hD3 fun _ y => nomatch y
    refine ⟨_, hD4, ?_, fun b o nb e nt => ?_, ?_, ?_, ?_⟩
    · rw [List.length_replicate]
      exact K00.small1000 (by omega)
    · have nbD : b ≠ D := ne_of_none e hD
      rw [upd_ne nbD]
      exact k4 _ _ nb (k3 _ _ nb e nt) nt
    · refine K00.Tabs.ch T4 (p := D) (fun b o nb e => ?_) hD4
      rw [upd_ne nb]
      exact e
    · obtain ⟨x1, x2, x3, e1, e2, e3, e4, e5⟩ := hp4
      exact ⟨x1, x2, x3, by rw [upd_ne (Ne.symm nDp)]; exact e1, e2, e3, e4, by omega⟩
    · rw [upd_same, List.replicate_succ']
  rintro H3 ⟨k3, T3, hp3, hD3⟩
  refine ⟨D, List.replicate 12 true, rfl, SqL.of hD3, _, rfl, iteF ?_⟩
  refine ⟨⟨_, _, _, rfl⟩, fun b o e nt => ?_, T3⟩
  have e1 := k1 _ _ e nt
  exact k3 _ _ (ne_of_none e1 hpn) (k2 _ _ e1) nt
end
end K87
set_option Elab.async false
set_option linter.all false
set_option maxRecDepth 100000
set_option maxHeartbeats 8000000
/-! L88ZD: what the head's look tells. -/
namespace K00
open PySem PySem.Spec L2
theorem eqB_ok {α : Type} [DecidableEq α] {a b : α} (h : eqB a b = true) : a = b := of_decide_eq_true h
theorem cls_of {K : PySem.W.Frag} {C : Addr} (h : clsB K C = true) :
    ∃ nm q N bs bm sn sub ab col dd k0 k1 k2 k3 k5, K.lookup C = some (excClassObj nm q C N bs bm true sn sub ab col dd k0 k1 k2 k3 k5 "ValueError.__new__") ∧ PySem.HandSPX.refsVE bm = true := by
  unfold clsB at h
  split at h
  · rename_i t dd cd sl ho
    split at h
    · rename_i C' bm k0 k1 k2 k3 n k5 hm hs
      obtain ⟨h1, h⟩ := He.ba h
      obtain ⟨h2, h⟩ := He.ba h
      obtain ⟨h3, h⟩ := He.ba h
      obtain ⟨h4, h⟩ := He.ba h
      obtain ⟨h5, h6⟩ := He.ba h
      have e1 := eqB_ok h1
      have e2 : C' = C := beq_iff_eq.mp h2
      have e3 : n = "ValueError.__new__" := beq_iff_eq.mp h3
      subst e1 e2 e3
      obtain ⟨nm, bs, mro, ns, qn, hd, sn, sub, ab, col, del⟩ := cd
      simp only at hm
      simp only [Bool.not_eq_true'] at h4
      have h5' : hd = true := h5
      subst hm h5'
      have h4' : del = false := h4
      subst h4'
      obtain ⟨l⟩ := sl
      simp only at hs
      subst hs
      exact ⟨nm, qn, ns, bs, bm, sn, sub, ab, col, dd, k0, k1, k2, k3, k5, ho, h6⟩
    · cases h
  · cases h
theorem errT_of {K : PySem.W.Frag} {x : Str} (h : errB K x = true) : ErrT K (He.ga K x) (fI K) ∧ PySem.W.nsIn K mainGlobals x = some (some (.ref (He.ga K x))) := by
  unfold errB at h
  obtain ⟨a1, h⟩ := He.ba h
  obtain ⟨a2, h⟩ := He.ba h
  obtain ⟨a3, h⟩ := He.ba h
  obtain ⟨a4, h⟩ := He.ba h
  obtain ⟨a5, h⟩ := He.ba h
  obtain ⟨a6, h⟩ := He.ba h
  obtain ⟨a7, h⟩ := He.ba h
  obtain ⟨a8, h⟩ := He.ba h
  obtain ⟨a9, h⟩ := He.ba h
  obtain ⟨a10, h⟩ := He.ba h
  obtain ⟨a11, h⟩ := He.ba h
  obtain ⟨a12, a13⟩ := He.ba h
  exact ⟨{ cls := cls_of a2, sa := He.eqO_ok a3, ga := He.eqO_ok a4, gg := He.eqO_ok a5, noN := He.eqO_ok a6, iC := He.eqO_ok a7, cl := He.eqO_ok a8, kC := a9, exC := eqB_ok a10, tyC := eqB_ok a11, hdC := a12, ob := eqB_ok a13 }, He.eqO_ok a1⟩
end K00
namespace K87
open PySem PySem.Spec L2 K00 TL
theorem key_strW {P : Params} {ks : List Str} {e : DictEntry} : ∀ {l : List DictEntry}, l.map He.keyOf = He.keysIn P ks → e ∈ l → ∃ k t, k ∈ ks ∧ e.key = .str k t := fun {l} h he => by
  have m : He.keyOf e ∈ He.keysIn P ks := by
    rw [← h]
    exact List.mem_map_of_mem he
  obtain ⟨k, hk, ek⟩ := List.mem_map.mp (show He.keyOf e ∈ ks.map fun k => some (k, PyData.keyHash P k) from m)
  unfold He.keyOf at ek
  split at ek
  · rename_i z t hz
    have e2 := (Prod.mk.inj (Option.some.inj ek)).1
    exact ⟨z, t, by rw [← e2]; exact hk, hz⟩
  · cases ek
theorem wd_of {K : PySem.W.Frag} {w : World} {mg : Str → Option Value} (g : mg "WORDS" = some (.ref (He.ga K "WORDS"))) (h : wdB K = true) (e : He.dicW K (He.ga K "WORDS") = some (He.keysIn w.params wdT)) : WdK K w mg (He.ga K "WORDS") := by
  unfold wdB at h
  obtain ⟨h1, h⟩ := He.ba h
  obtain ⟨h2, h3⟩ := He.ba h
  refine ⟨g, He.dicW_ok e, eqB_ok h1, eqB_ok h2, eqB_ok h3, fun z hz => ?_⟩
  unfold He.dicW at e
  unfold PySem.W.nsIn
  cases q : K.lookup (He.ga K "WORDS") with
  | none =>
    rw [q] at e
    cases e
  | some o =>
    obtain ⟨oc, od, dt, osl⟩ := o
    rw [q] at e
    cases oc with
    | type c =>
      cases od with
      | none =>
        cases dt with
        | dict es n =>
          simp only at e ⊢
          split at e
          · have e1 := Option.some.inj e
            have no : es.toList.find? (fun x => x.key.isStr z) = none := List.find?_eq_none.mpr fun y hy => by
              obtain ⟨k, t, hk, ek⟩ := key_strW e1 hy
              rw [ek]
              show ¬ (k == z) = true
              intro y2
              have y3 : k = z := beq_iff_eq.mp y2
              rw [y3] at hk
              exact hz hk
            have nr : es.toList.any (fun x => x.refKey) = false := List.any_eq_false.mpr fun y hy => by
              obtain ⟨k, t, hk, ek⟩ := key_strW e1 hy
              unfold DictEntry.refKey
              rw [ek]
              simp
            rw [no]
            simp only
            rw [nr]
            rfl
          · cases e
        | _ => cases e
      | some _ => cases e
    | _ => cases e
def csK (K : PySem.W.Frag) : List (Addr × Addr) := [He.cT K pRi]
def tsK (K : PySem.W.Frag) : List (Addr × Str) := [((He.cT K pRi).2, qRi)]
section
variable {P : Program} {w : World} {K : PySem.W.Frag} {h : Heap} {mg : Str → Option Value} {f : Addr}
theorem facts (X : K.In h) (G : h.Ns mainGlobals mg) (hfa : mg ("law" : Str) = some (.ref f)) (c : Says h w K) :
    ∃ fd : FuncData, (∀ (s : Shared) (v : Value), BindsTo s fd ⟨[v], []⟩ [("_law_script", v)]) ∧ ∀ base : Heap, K.In base → base.Ns mainGlobals mg → (∀ p ∈ csK K, LamX.TabB base mg p.1 p.2) → FnG P w K mg base 34 f fd ["_law_script"] (spLaw K (tsK K)) := by
  have cs := c.d
  have ck := c.ck
  unfold ckB at ck
  obtain ⟨b0, ck⟩ := He.ba ck
  obtain ⟨b1, ck⟩ := He.ba ck
  obtain ⟨b2, ck⟩ := He.ba ck
  obtain ⟨b3, ck⟩ := He.ba ck
  obtain ⟨b4, ck⟩ := He.ba ck
  obtain ⟨b5, ck⟩ := He.ba ck
  obtain ⟨b6, ck⟩ := He.ba ck
  obtain ⟨b7, b8⟩ := He.ba ck
  unfold kinB at b2
  obtain ⟨c1, b2⟩ := He.ba b2
  obtain ⟨c2, c3⟩ := He.ba b2
  have TE : ∀ x ∈ errs, ErrT K (He.ga K x) (fI K) := fun x hx => (errT_of (List.all_eq_true.mp b1 _ hx)).1
  have gE : ∀ x ∈ errs, mg x = some (.ref (He.ga K x)) := fun x hx => PySem.W.mg_of X G (errT_of (List.all_eq_true.mp b1 _ hx)).2
  obtain ⟨fdI, FI⟩ := cs.def_ 34 rfl
  have II : InitT K (fI K) := by
    refine ⟨eqB_ok b4, eqB_ok b6, eqB_ok b7, ?_⟩
    obtain ⟨oc, od, dV, kV, doc, pm, an, cdv, ct, osl, rfl, lk, hcd, hd, _⟩ := FI.ex
    rcases hd with ⟨_, rfl⟩ | ⟨n, _⟩
    · exact ⟨oc, od, doc, pm, an, cdv, ct, osl, _, _, _, _, _, _, kV, lk, hcd⟩
    · exact absurd rfl n
  have SY : SysD K := by
    split at b8
    · rename_i t dd od sl ho
      exact ⟨_, ho, congrArg Value.type (eqB_ok b8)⟩
    · cases b8
  have fr : ∀ (i : Nat) (x : Str), fa[i]? = some (.free x) → mg x = none := fun i x e => He.free_ok X G (cs.fact i e)
  have gl : ∀ (i : Nat) (x : Str), fa[i]? = some (.glo x) → mg x = some (.ref (He.ga K x)) := fun i x e => He.glo_ok X G (cs.fact i e)
  have B : Bl mg := ⟨fr 34 _ rfl, fr 35 _ rfl, fr 36 _ rfl, fr 37 _ rfl, fr 38 _ rfl, fr 39 _ rfl, fr 40 _ rfl, fr 41 _ rfl, fr 42 _ rfl, fr 43 _ rfl, fr 44 _ rfl, fr 45 _ rfl, fr 46 _ rfl, fr 47 _ rfl, fr 48 _ rfl, fr 49 _ rfl, fr 50 _ rfl, fr 51 _ rfl⟩
  have hrev : mg "reversed" = none := fr 52 _ rfl
  obtain ⟨t1, gLet⟩ := He.str_ok X G (cs.fact 53 (f := .str "LETTERS" "abcdefghijklmnopqrstuvwxyz") rfl)
  obtain ⟨t2, gLon⟩ := He.int_ok X G (cs.fact 54 (f := .int "LONGEST_NAME" 8) rfl)
  obtain ⟨t3, gDig⟩ := He.str_ok X G (cs.fact 55 (f := .str "DIGITS" "0123456789") rfl)
  obtain ⟨t4, gMk⟩ := He.str_ok X G (cs.fact 56 (f := .str "MARKS" "[]{},: ") rfl)
  have WD := wd_of (gl 57 "WORDS" rfl) b0 c.ch
  have HB : HeB K mg (He.ga K "TaglessError") (fI K) :=
    { b := B, T := TE, T0 := II, gC := gE, gT := PySem.W.mg_of X G (He.eqO_ok b3), ex := fun x hx => eqB_ok (List.all_eq_true.mp b5 _ hx),
      kC := fun x hx y hy => eqB_ok (List.all_eq_true.mp (List.all_eq_true.mp c1 _ hx) _ hy), kV := fun x hx => eqB_ok (List.all_eq_true.mp c3 _ hx) }
  obtain ⟨d0, F0⟩ : ∃ fd, FnD K "is_name" 7 (He.ga K "is_name") fd := cs.def_ 0 rfl
  obtain ⟨d1, F1⟩ : ∃ fd, FnD K "sort_of" 8 (He.ga K "sort_of") fd := cs.def_ 1 rfl
  obtain ⟨d2, F2⟩ : ∃ fd, FnD K "inner_parts" 9 (He.ga K "inner_parts") fd := cs.def_ 2 rfl
  obtain ⟨d3, F3⟩ : ∃ fd, FnD K "parts_of" 10 (He.ga K "parts_of") fd := cs.def_ 3 rfl
  obtain ⟨d4, F4⟩ : ∃ fd, FnD K "is_document" 11 (He.ga K "is_document") fd := cs.def_ 4 rfl
  obtain ⟨d5, F5⟩ : ∃ fd, FnD K "check_document" 14 (He.ga K "check_document") fd := cs.def_ 5 rfl
  obtain ⟨d6, F6⟩ : ∃ fd, FnD K "leaf_text" 18 (He.ga K "leaf_text") fd := cs.def_ 6 rfl
  obtain ⟨d7, F7⟩ : ∃ fd, FnD K "outer_text" 19 (He.ga K "outer_text") fd := cs.def_ 7 rfl
  obtain ⟨d8, F8⟩ : ∃ fd, FnD K "text_of" 20 (He.ga K "text_of") fd := cs.def_ 8 rfl
  obtain ⟨d9, F9⟩ : ∃ fd, FnD K "show_document" 21 (He.ga K "show_document") fd := cs.def_ 9 rfl
  obtain ⟨d10, F10⟩ : ∃ fd, FnD K "string_end" 22 (He.ga K "string_end") fd := cs.def_ 10 rfl
  obtain ⟨d11, F11⟩ : ∃ fd, FnD K "token_end" 23 (He.ga K "token_end") fd := cs.def_ 11 rfl
  obtain ⟨d12, F12⟩ : ∃ fd, FnD K "tokens_of" 24 (He.ga K "tokens_of") fd := cs.def_ 12 rfl
  obtain ⟨d13, F13⟩ : ∃ fd, FnD K "unquoted" 25 (He.ga K "unquoted") fd := cs.def_ 13 rfl
  obtain ⟨d14, F14⟩ : ∃ fd, FnD K "leaves_in" 26 (He.ga K "leaves_in") fd := cs.def_ 14 rfl
  obtain ⟨d15, F15⟩ : ∃ fd, FnD K "wholes_in" 27 (He.ga K "wholes_in") fd := cs.def_ 15 rfl
  obtain ⟨d16, F16⟩ : ∃ fd, FnD K "read_loosely" 28 (He.ga K "read_loosely") fd := cs.def_ 16 rfl
  obtain ⟨d17, F17⟩ : ∃ fd, FnD K "documents_in" 29 (He.ga K "documents_in") fd := cs.def_ 17 rfl
  obtain ⟨d18, F18⟩ : ∃ fd, FnD K "read_document" 30 (He.ga K "read_document") fd := cs.def_ 18 rfl
  obtain ⟨d19, F19⟩ : ∃ fd, FnD K "_law_pot" 32 (He.ga K "_law_pot") fd := cs.def_ 19 rfl
  obtain ⟨d20, F20⟩ : ∃ fd, FnD K "_law_take" 33 (He.ga K "_law_take") fd := cs.def_ 20 rfl
  obtain ⟨d21, F21⟩ : ∃ fd, FnD K "_law_of" 34 (He.ga K "_law_of") fd := cs.def_ 21 rfl
  obtain ⟨d22, F22⟩ : ∃ fd, FnD K "_law_unlike" 35 (He.ga K "_law_unlike") fd := cs.def_ 22 rfl
  obtain ⟨d23, F23⟩ : ∃ fd, FnD K "_law_flat" 36 (He.ga K "_law_flat") fd := cs.def_ 23 rfl
  obtain ⟨d24, F24⟩ : ∃ fd, FnD K "_law_any" 37 (He.ga K "_law_any") fd := cs.def_ 24 rfl
  obtain ⟨d25, F25⟩ : ∃ fd, FnD K "_law_writ" 38 (He.ga K "_law_writ") fd := cs.def_ 25 rfl
  obtain ⟨d26, F26⟩ : ∃ fd, FnD K "_law_items" 39 (He.ga K "_law_items") fd := cs.def_ 26 rfl
  obtain ⟨d27, F27⟩ : ∃ fd, FnD K "_law_string" 40 (He.ga K "_law_string") fd := cs.def_ 27 rfl
  obtain ⟨d28, F28⟩ : ∃ fd, FnD K "_law_part" 41 (He.ga K "_law_part") fd := cs.def_ 28 rfl
  obtain ⟨d29, F29⟩ : ∃ fd, FnD K "_law_bent_text" 42 (He.ga K "_law_bent_text") fd := cs.def_ 29 rfl
  obtain ⟨d30, F30⟩ : ∃ fd, FnD K "_law_text_drawn" 43 (He.ga K "_law_text_drawn") fd := cs.def_ 30 rfl
  obtain ⟨d31, F31⟩ : ∃ fd, FnD K "_law_caught" 44 (He.ga K "_law_caught") fd := cs.def_ 31 rfl
  obtain ⟨d32, F32⟩ : ∃ fd, FnD K "_law_right" 45 (He.ga K "_law_right") fd := cs.def_ 32 rfl
  obtain ⟨d33, F33⟩ : ∃ fd, FnD K "law" 46 (He.ga K "law") fd := cs.def_ 33 rfl
  have e := hfa.symm.trans (gl 33 "law" rfl)
  cases e
  have k0 : Binds K d0 ["value"] [] := F0.bindsN fun _ _ _ _ _ _ us hl => match us, hl with | [_], _ => rfl
  have k1 : Binds K d1 ["value"] [] := F1.bindsN fun _ _ _ _ _ _ us hl => match us, hl with | [_], _ => rfl
  have k2 : Binds K d2 ["value"] [] := F2.bindsN fun _ _ _ _ _ _ us hl => match us, hl with | [_], _ => rfl
  have k3 : Binds K d3 ["value"] [] := F3.bindsN fun _ _ _ _ _ _ us hl => match us, hl with | [_], _ => rfl
  have k4 : Binds K d4 ["value"] [] := F4.bindsN fun _ _ _ _ _ _ us hl => match us, hl with | [_], _ => rfl
  have k5 : Binds K d5 ["document"] [] := F5.bindsN fun _ _ _ _ _ _ us hl => match us, hl with | [_], _ => rfl
  have k6 : Binds K d6 ["leaf"] [] := F6.bindsN fun _ _ _ _ _ _ us hl => match us, hl with | [_], _ => rfl
  have k7 : Binds K d7 ["part", "inner"] [] := F7.bindsN fun _ _ _ _ _ _ us hl => match us, hl with | [_, _], _ => rfl
  have k8 : Binds K d8 ["document"] [] := F8.bindsN fun _ _ _ _ _ _ us hl => match us, hl with | [_], _ => rfl
  have k9 : Binds K d9 ["document"] [] := F9.bindsN fun _ _ _ _ _ _ us hl => match us, hl with | [_], _ => rfl
  have k10 : Binds K d10 ["text", "at"] [] := F10.bindsN fun _ _ _ _ _ _ us hl => match us, hl with | [_, _], _ => rfl
  have k11 : Binds K d11 ["text", "at"] [] := F11.bindsN fun _ _ _ _ _ _ us hl => match us, hl with | [_, _], _ => rfl
  have k12 : Binds K d12 ["text"] [] := F12.bindsN fun _ _ _ _ _ _ us hl => match us, hl with | [_], _ => rfl
  have k13 : Binds K d13 ["token"] [] := F13.bindsN fun _ _ _ _ _ _ us hl => match us, hl with | [_], _ => rfl
  have k14 : Binds K d14 ["token"] [] := F14.bindsN fun _ _ _ _ _ _ us hl => match us, hl with | [_], _ => rfl
  have k15 : Binds K d15 ["frame", "token"] [] := F15.bindsN fun _ _ _ _ _ _ us hl => match us, hl with | [_, _], _ => rfl
  have k16 : Binds K d16 ["text"] [] := F16.bindsN fun _ _ _ _ _ _ us hl => match us, hl with | [_], _ => rfl
  have k17 : Binds K d17 ["text"] [] := F17.bindsN fun _ _ _ _ _ _ us hl => match us, hl with | [_], _ => rfl
  have k18 : Binds K d18 ["text"] [] := F18.bindsN fun _ _ _ _ _ _ us hl => match us, hl with | [_], _ => rfl
  have k19 : Binds K d19 ["_law_script", "_law_k"] [] := F19.bindsN fun _ _ _ _ _ _ us hl => match us, hl with | [_, _], _ => rfl
  have k20 : Binds K d20 ["_law_pot_here", "_law_upto"] [] := F20.bindsN fun _ _ _ _ _ _ us hl => match us, hl with | [_, _], _ => rfl
  have k21 : Binds K d21 ["_law_pot_here", "_law_some"] [] := F21.bindsN fun _ _ _ _ _ _ us hl => match us, hl with | [_, _], _ => rfl
  have k22 : Binds K d22 ["_law_pot_here", "_law_some", "_law_many"] [] := F22.bindsN fun _ _ _ _ _ _ us hl => match us, hl with | [_, _, _], _ => rfl
  have k23 : Binds K d23 ["_law_pot_here"] [] := F23.bindsN fun _ _ _ _ _ _ us hl => match us, hl with | [_], _ => rfl
  have k24 : Binds K d24 ["_law_pot_here", "_law_deep"] [] := F24.bindsN fun _ _ _ _ _ _ us hl => match us, hl with | [_, _], _ => rfl
  have k25 : Binds K d25 ["_law_document"] [] := F25.bindsN fun _ _ _ _ _ _ us hl => match us, hl with | [_], _ => rfl
  have k26 : Binds K d26 ["_law_text", "_law_at", "_law_has_fields"] [] := F26.bindsN fun _ _ _ _ _ _ us hl => match us, hl with | [_, _, _], _ => rfl
  have k27 : Binds K d27 ["_law_text", "_law_at"] [] := F27.bindsN fun _ _ _ _ _ _ us hl => match us, hl with | [_, _], _ => rfl
  have k28 : Binds K d28 ["_law_text", "_law_at"] [] := F28.bindsN fun _ _ _ _ _ _ us hl => match us, hl with | [_, _], _ => rfl
  have k29 : Binds K d29 ["_law_pot_here", "_law_text"] [] := F29.bindsN fun _ _ _ _ _ _ us hl => match us, hl with | [_, _], _ => rfl
  have k30 : Binds K d30 ["_law_pot_here"] [] := F30.bindsN fun _ _ _ _ _ _ us hl => match us, hl with | [_], _ => rfl
  have k31 : Binds K d31 ["_law_call", "_law_word"] [] := F31.bindsN fun _ _ _ _ _ _ us hl => match us, hl with | [_, _], _ => rfl
  have k32 : Binds K d32 ["_law_pot_here"] [] := F32.bindsN fun _ _ _ _ _ _ us hl => match us, hl with | [_], _ => rfl
  have k33 := FunD.bindsA (ps := ["_law_script"]) F33 fun _ _ _ _ _ _ us hl => match us, hl with | [_], _ => rfl
  refine ⟨d33, fun s v => k33 s [v] rfl, fun base _ _ TB => ?_⟩
  have N0 : FnOk P w K mg base CX0 1 _ d0 ["value"] (spName P w) := ok_name F0 B gLet gLon
  have N1 : FnOk P w K mg base CX0 1 _ d0 ["value"] (spNameG P w) := ok_nameG F0 B gLet gLon
  have SO : FnOk P w K mg base CX0 2 _ d1 ["value"] (spSort P w) := ok_sort F1 B N0 k0 F0.kp (gl 0 "is_name" rfl)
  have IN : FnOk P w K mg base CX0 1 _ d2 ["value"] (K00.spInner P w) := K00.ok_inner F2 B
  have I7 : FnOk P w K mg base CX0 1 _ d2 ["value"] (spInner7 P w) := ok_inner7 F2 B
  have PA : FnOk P w K mg base CX0 2 _ d3 ["value"] (K00.spParts P w) := K00.ok_parts F3 B IN k2 F2.kp (gl 2 "inner_parts" rfl)
  have P7 : FnOk P w K mg base CX0 2 _ d3 ["value"] (spParts7 P w) := ok_parts7 F3 B I7 k2 F2.kp (gl 2 "inner_parts" rfl)
  have ID : FnOk P w K mg base CX0 3 _ d4 ["value"] (spIsDoc P w) := ok_isdoc F4 B PA k3 F3.kp (gl 3 "parts_of" rfl) SO k1 F1.kp (gl 1 "sort_of" rfl)
  have CK : FnOk P w K mg base (L2.CX P w) 4 _ d5 ["document"] (spCheck P w (He.ga K "NoDocument")) := ok_check F5 ID k4 F4.kp (gl 4 "is_document" rfl) (TE _ e1in) II (gE _ e1in)
  have LE : FnOk P w K mg base CX0 1 _ d6 ["leaf"] (spLeaf P w) := ok_leaf F6 B
  have OU : FnOk P w K mg base CX0 2 _ d7 ["part", "inner"] (spOuter P w) := ok_outer F7 B LE k6 F6.kp (gl 6 "leaf_text" rfl)
  have TX : FnOk P w K mg base CX0 3 _ d8 ["document"] (spText P w) := ok_text F8 B hrev P7 k3 F3.kp (gl 3 "parts_of" rfl) I7 k2 F2.kp (gl 2 "inner_parts" rfl) OU k7 F7.kp (gl 7 "outer_text" rfl)
  have SH : FnOk P w K mg base (L2.CX P w) 5 _ d9 ["document"] (spShow P w (He.ga K "NoDocument")) := ok_show F9 CK k5 F5.kp (gl 5 "check_document" rfl) TX k8 F8.kp (gl 8 "text_of" rfl)
  have SE : FnOk P w K mg base CX0 1 _ d10 ["text", "at"] spStrEnd := ok_strEnd F10 B
  have TN : FnOk P w K mg base CX0 2 _ d11 ["text", "at"] spTokEnd := ok_tokEnd F11 B gMk SE k10 F10.kp (gl 10 "string_end" rfl)
  have TK : FnOk P w K mg base CX0 3 _ d12 ["text"] spTokens := ok_tokens F12 B TN k11 F11.kp (gl 11 "token_end" rfl)
  have UQ : FnOk P w K mg base CX0 1 _ d13 ["token"] spUq := ok_uq F13 B
  have LV : FnOk P w K mg base CX0 2 _ d14 ["token"] (spLv P w) := ok_lv F14 B gDig WD UQ k13 F13.kp (gl 13 "unquoted" rfl)
  have WH : FnOk P w K mg base CX0 2 _ d15 ["frame", "token"] (spWholeG P w) := ok_wholeG F15 B N1 k0 F0.kp (gl 0 "is_name" rfl)
  have LO : FnOk P w K mg base CX0 4 _ d16 ["text"] (spLooseG P w) := ok_looseG F16 B TK k12 F12.kp (gl 12 "tokens_of" rfl) WH k15 F15.kp (gl 15 "wholes_in" rfl) LV k14 F14.kp (gl 14 "leaves_in" rfl)
  have DO : FnOk P w K mg base CX0 5 _ d17 ["text"] (spDocsG P w) := ok_docsG F17 B LO k16 F16.kp (gl 16 "read_loosely" rfl) TX k8 F8.kp (gl 8 "text_of" rfl)
  have RE : FnOk P w K mg base (L2.CX P w) 6 _ d18 ["text"] (spReadG P w (He.ga K "BadText")) := ok_readG F18 B DO k17 F17.kp (gl 17 "documents_in" rfl) (TE _ e2in) II (gE _ e2in)
  have PT : FnOk P w K mg base CX0 1 _ d19 ["_law_script", "_law_k"] (spPot K) := ok_pot F19 B
  have TA : FnOk P w K mg base CX0 1 _ d20 ["_law_pot_here", "_law_upto"] spTake := ok_take F20 B
  have OF : FnOk P w K mg base CX0 2 _ d21 ["_law_pot_here", "_law_some"] K00.spOf := ok_of F21 B TA k20 F20.kp (gl 20 "_law_take" rfl)
  have UN : FnOk P w K mg base CX0 2 _ d22 ["_law_pot_here", "_law_some", "_law_many"] K00.spUnlike := ok_unlike F22 B TA k20 F20.kp (gl 20 "_law_take" rfl)
  have FL : FnOk P w K mg base CX0 3 _ d23 ["_law_pot_here"] (spFlat8 P w) := ok_flat8 F23 OF k21 F21.kp (gl 21 "_law_of" rfl)
  have A0 : FnOk P w K mg base CX0 4 _ d24 ["_law_pot_here", "_law_deep"] (spAny P w 0) := ok_any0 F24 B FL k23 F23.kp (gl 23 "_law_flat" rfl)
  have A1 : FnOk P w K mg base CX0 5 _ d24 ["_law_pot_here", "_law_deep"] (spAny P w 1) := ok_anyS (n := 0) F24 B FL k23 F23.kp (gl 23 "_law_flat" rfl) TA k20 F20.kp (gl 20 "_law_take" rfl) UN k22 F22.kp (gl 22 "_law_unlike" rfl) A0 k24 (gl 24 "_law_any" rfl)
  have A2 : FnOk P w K mg base CX0 6 _ d24 ["_law_pot_here", "_law_deep"] (spAny P w 2) := ok_anyS (n := 1) F24 B FL k23 F23.kp (gl 23 "_law_flat" rfl) TA k20 F20.kp (gl 20 "_law_take" rfl) UN k22 F22.kp (gl 22 "_law_unlike" rfl) A1 k24 (gl 24 "_law_any" rfl)
  have WR := writ_all (P := P) (w := w) (base := base) F25 B k25 (gl 25 "_law_writ" rfl)
  have LS : FnOk P w K mg base CX0 1 _ d27 ["_law_text", "_law_at"] spLS := ok_LS F27 B
  have PR := part_all (P := P) (w := w) (base := base) F28 F26 B LS k27 F27.kp (gl 27 "_law_string" rfl) k28 (gl 28 "_law_part" rfl) k26 (gl 26 "_law_items" rfl)
  have BT : FnOk P w K mg base CX0 3 _ d29 ["_law_pot_here", "_law_text"] spBT := ok_BT F29 B TA k20 F20.kp (gl 20 "_law_take" rfl) OF k21 F21.kp (gl 21 "_law_of" rfl)
  have TD : FnOk P w K mg base CX0 7 _ d30 ["_law_pot_here"] spTD := ok_TD F30 B TA k20 F20.kp (gl 20 "_law_take" rfl) OF k21 F21.kp (gl 21 "_law_of" rfl) A2 k24 F24.kp (gl 24 "_law_any" rfl) (WR 3) k25 F25.kp (gl 25 "_law_writ" rfl) BT k29 F29.kp (gl 29 "_law_bent_text" rfl)
  have GR : FnG P w K mg base 33 _ d32 ["_law_pot_here"] (spRight (tsK K)) := ok_right F32 B SY TD k30 F30.kp (gl 30 "_law_text_drawn" rfl) (PR 15) k28 F28.kp (gl 28 "_law_part" rfl) (WR 16) k25 F25.kp (gl 25 "_law_writ" rfl) OF k21 F21.kp (gl 21 "_law_of" rfl) RE k18 F18.kp (gl 18 "read_document" rfl) SH k9 F9.kp (gl 9 "show_document" rfl) F31 k31 (gl 31 "_law_caught" rfl) HB
    (TB (He.cT K pRi) (by simp [csK])) (by simp [tsK]) (fun p hp z => by
      simp only [tsK, List.mem_cons, List.not_mem_nil, or_false] at hp
      rw [hp])
  exact ok_law F33 B PT k19 F19.kp (gl 19 "_law_pot" rfl) GR k32 F32.kp (gl 32 "_law_right" rfl)
end
end K87
set_option Elab.async false
set_option linter.all false
set_option maxRecDepth 100000
set_option maxHeartbeats 4000000
/-! L88ZE: the end of a law with tables of code objects, whose def keeps a promise outside of every repr. -/
namespace K00
open PySem PySem.Spec L2 LamX
open PyProof.Rows (IntsAre AllBare)
abbrev scriptO (vs : List Value) : Obj := { cls := .type "list", data := .seq vs.toArray }
abbrev tabO : Obj := { cls := .none, data := .fields #[] }
/-- what the abstract heap tracks at the law's call: the tables, the script if the written part has it not -/
structure Seen (K : PySem.W.Frag) (cs : List (Addr × Addr)) (a : Addr) (H : Hp) : Prop where
  tab : ∀ p ∈ cs, H p.2 = some (.tbl #[])
  all : ∀ b u, H b = some u → (∃ p ∈ cs, p.2 = b) ∨ (b = a ∧ K.lookup a = none ∧ ∃ o xs, u = .frz o (.lst xs))
/-- how the heap stands at the law's call -/
structure Ends (K : PySem.W.Frag) (mg mb : Str → Option Value) (cs : List (Addr × Addr)) (a : Addr) (vs : List Value) (s : Shared) : Prop where
  kin : K.In s.heap
  glob : s.heap.Ns mainGlobals mg
  bltn : s.heap.Ns builtinsNs mb
  boot : ∀ y : Str, y ≠ "__name__" → mb y = bootBuiltins y
  lim : s.heap.NoLimit
  gens : s.gens = #[]
  mod : ∃ (m : Addr) (o : Obj), mg "__builtins__" = some (.ref m) ∧ m ≠ builtinsNs ∧ s.heap.get? m = some o ∧ o.cls = .type "module" ∧ o.dict = some builtinsNs ∧ o.data = .plain
  script : s.heap.get? a = some (scriptO vs)
  tabs : ∀ p ∈ cs, s.heap.get? p.2 = some tabO
  out : ∀ p ∈ cs, K.lookup p.2 = none
  code : ∀ p ∈ cs, PySem.W.CodeHd s.heap p.1 p.2
section
variable {P : Program} {w : World} {K : PySem.W.Frag} {mg mb : Str → Option Value} {k : Nat} {fa a : Addr} {cs : List (Addr × Addr)} {fd : FuncData} {x : Str} {sp : Sp} {s : Shared} {vs : List Value} {ns : List Int} {H : Hp}
theorem Ends.clear (N : Ends K mg mb cs a vs s) (S : Seen K cs a H) {b : Addr} {o : Obj} (e : s.heap.get? b = some o) (h1 : ∀ xs n, o.data ≠ .seq xs n) (h2 : o.data ≠ .fields #[]) : H b = none := by
  cases q : H b with
  | none => rfl
  | some u =>
    rcases S.all b u q with ⟨p, hp, z⟩ | ⟨z, _⟩
    · have e2 := N.tabs p hp
      rw [z, e] at e2
      exact (h2 (congrArg Obj.data (Option.some.inj e2))).elim
    · have e2 := N.script
      rw [← z, e] at e2
      exact (h1 _ _ (congrArg Obj.data (Option.some.inj e2))).elim
theorem Ends.see (N : Ends K mg mb cs a vs s) (S : Seen K cs a H) {b : Addr} {o : Obj} (e : s.heap.get? b = some o) (h1 : ∀ xs n, o.data ≠ .seq xs n) (h2 : o.data ≠ .fields #[]) : (hidT s.heap H).get? b = some o := hidT_get e (N.clear S e h1 h2)
theorem Ends.names (N : Ends K mg mb cs a vs s) (S : Seen K cs a H) {b : Addr} {m : Str → Option Value} (h : s.heap.Ns b m) : (hidT s.heap H).Ns b m := by
  obtain ⟨o, es, ep, e, d, r⟩ := h
  refine ⟨o, es, ep, N.see S e (fun _ _ z => ?_) (fun z => ?_), d, r⟩
  · rw [z] at d
    cases d
  · rw [z] at d
    cases d
theorem Ends.inK (N : Ends K mg mb cs a vs s) (S : Seen K cs a H) : K.In (hidT s.heap H) := fun b o e => by
  refine hidT_get (N.kin b o e) ?_
  cases q : H b with
  | none => rfl
  | some u =>
    rcases S.all b u q with ⟨p, hp, z⟩ | ⟨z, n, _⟩
    · have n := N.out p hp
      rw [z, e] at n
      cases n
    · rw [z, n] at e
      cases e
theorem Ends.tabB (N : Ends K mg mb cs a vs s) (S : Seen K cs a H) {p : Addr × Addr} (hp : p ∈ cs) : TabB (hidT s.heap H) mg p.1 p.2 := by
  have tp := N.tabs p hp
  constructor
  · obtain ⟨o, us, r⟩ := N.code p hp
    obtain ⟨u1, u2, u3, u4, u5, u6, u7, z1, z2, z3, z4, z5⟩ := r
    refine ⟨o, us, u1, u2, u3, u4, u5, u6, u7, N.see S z1 (fun _ _ z => ?_) (fun z => ?_), z2, z3, z4, z5⟩
    · rw [z] at z3
      cases z3
    · rw [z] at z3
      have z6 : us = #[] := (Data.fields.inj z3).symm
      rw [z6] at z4
      simp at z4
  · obtain ⟨m, o, g1, g2, g3, g4, g5, g6⟩ := N.mod
    have n1 : m ≠ mainGlobals := fun z => by
      obtain ⟨o', es, ep, e, d, _⟩ := N.glob
      rw [z] at g3
      rw [e] at g3
      rw [Option.some.inj g3, g6] at d
      cases d
    have n2 : m ≠ p.2 := fun z => by
      rw [z, tp] at g3
      rw [← Option.some.inj g3] at g6
      cases g6
    refine ⟨m, o, g1, g2, n1, n2, N.see S g3 (fun _ _ z => ?_) (fun z => ?_), g4, g5, g6⟩
    · rw [z] at g6
      cases g6
    · rw [z] at g6
      cases g6
  · intro z
    obtain ⟨o, es, ep, e, d, _⟩ := N.glob
    rw [z, tp] at e
    rw [← Option.some.inj e] at d
    cases d
theorem core_callT (N : Ends K mg mb cs a vs s) (S : Seen K cs a H) (hok : HOk P w H s.heap) (hr : Room k callerA)
    (F : ∀ base : Heap, K.In base → base.Ns mainGlobals mg → (∀ p ∈ cs, TabB base mg p.1 p.2) → FnG P w K mg base k fa fd [x] sp) (hbind : ∀ (s : Shared) (u : Value), BindsTo s fd ⟨[u], []⟩ [(x, u)])
    (hsp : sp [.ref a] H (fun v _ => v = .bl true) fun _ _ _ => False) :
    codeAny (model P w) callerA (.call (.ref fa) ⟨[.ref a], []⟩) (fun r s' => r = .ok (.ret (.bool true)) ∧ OldK s.heap s'.heap ∧ s'.os = s.os ∧ AllBare s'.gens) s := by
  obtain ⟨mc, l1, l2⟩ := N.lim
  have env : Env0 P w K mg (hidT s.heap H) callerA [] s H :=
    { frames := rfl, mod := ⟨N.inK S, N.names S N.glob, ⟨mb, N.names S N.bltn, N.boot⟩, ⟨mc, N.names S l1, l2⟩⟩, bs := fun b o e => of_hidT e, bsz := Nat.le_of_eq (hidT_size _ _), funs := trivial,
      frf := (fun b z => nomatch z), hok := hok, bare := PyProof.Rows.AllBare.of_eq N.gens }
  refine codeAny_mono ((F _ (N.inK S) (N.names S N.glob) fun p hp => N.tabB S hp).run callerA [] s H ⟨[.ref a], []⟩ [.ref a] [.ref a] _ _ rfl hr env (hbind s (.ref a)) (.cons rfl .nil) hsp) ?_
  intro r s' h
  match r, h with
  | .error e, h => exact h.elim
  | .ok .next, h => exact h.elim
  | .ok .brk, h => exact h.elim
  | .ok .cont, h => exact h.elim
  | .ok (.ret u), ⟨v, H', os, bare, un, hok', rv, q⟩ =>
    have q' : v = .bl true := q
    subst q'
    have eu : u = Value.bool true := rv
    subst eu
    have tell : ∀ b o, s.heap.get? b = some o → (s'.heap.get? b = some o) ∨ ∃ p ∈ cs, p.2 = b := by
      intro b o e
      cases z : H b with
      | none => exact .inl (un.keep b o e z (by intro q; cases q) (by intro q; cases q))
      | some u =>
        rcases S.all b u z with y | ⟨_, _, ob, xs, y⟩
        · exact .inr y
        · rw [y] at z
          obtain ⟨e1, _⟩ := hok b _ z
          obtain ⟨e2, _⟩ := hok' b _ (un.frzs b ob _ z)
          exact .inl (e2.trans (e1.symm.trans e))
    have grown : ∀ p ∈ cs, ∃ more : Array Value, s'.heap.get? p.2 = some { cls := .none, data := .fields more } := by
      intro p hp
      obtain ⟨more, z⟩ := un.tbls p.2 #[] (S.tab p hp)
      exact ⟨_, hok' p.2 _ z⟩
    refine ⟨rfl, ⟨fun b o e => ?_, fun b o e => ?_⟩, os, bare⟩
    · rcases tell b o e with z | ⟨p, hp, rfl⟩
      · exact .inl z
      · obtain ⟨more, hm⟩ := grown p hp
        have tp := N.tabs p hp
        rw [tp] at e
        cases e
        refine .inr (.inl ⟨((N.code p hp).tab tp).isCodeTable, rfl, #[], more, rfl, ?_⟩)
        rw [Array.empty_append]
        exact hm
    · rcases tell b o e with z | ⟨p, hp, rfl⟩
      · exact ⟨o, z⟩
      · obtain ⟨more, hm⟩ := grown p hp
        exact ⟨_, hm⟩
theorem law_callGT (N : Ends K mg mb cs a vs s) (hi : IntsAre vs ns) (hl : ns.length ≤ sizeLine) (hr : Room k callerA)
    (F : ∀ base : Heap, K.In base → base.Ns mainGlobals mg → (∀ p ∈ cs, TabB base mg p.1 p.2) → FnG P w K mg base k fa fd [x] sp) (hbind : ∀ (s : Shared) (u : Value), BindsTo s fd ⟨[u], []⟩ [(x, u)])
    (hsp : ∀ H : Hp, (∀ p ∈ cs, H p.2 = some (.tbl #[])) → SqL K H a (ns.map V.int) → sp [.ref a] H (fun v _ => v = .bl true) fun _ _ _ => False) :
    codeAny (model P w) callerA (.call (.ref fa) ⟨[.ref a], []⟩) (fun r s' => r = .ok (.ret (.bool true)) ∧ OldK s.heap s'.heap ∧ s'.os = s.os ∧ AllBare s'.gens) s := by
  have rv := vals_ints hi
  have aT : ∀ p ∈ cs, p.2 ≠ a := fun p hp z => by
    have e := N.tabs p hp
    rw [z, N.script] at e
    have e2 : Data.seq vs.toArray _ = Data.fields #[] := congrArg Obj.data (Option.some.inj e)
    cases e2
  let sc : Option HO := if K.lookup a = none then some (.frz (scriptO vs) (.lst (ns.map V.int))) else none
  let H : Hp := fun b => if b ∈ cs.map (·.2) then some (.tbl #[]) else if b = a then sc else none
  have Ht : ∀ p ∈ cs, H p.2 = some (.tbl #[]) := fun p hp => if_pos (List.mem_map.mpr ⟨p, hp, rfl⟩)
  have na : a ∉ cs.map (·.2) := fun z => by
    obtain ⟨p, hp, e⟩ := List.mem_map.mp z
    exact aT p hp e
  have Ha : H a = sc := (if_neg na).trans (if_pos rfl)
  have all : ∀ b u, H b = some u → (b ∈ cs.map (·.2) ∧ u = .tbl #[]) ∨ (b = a ∧ K.lookup a = none ∧ u = .frz (scriptO vs) (.lst (ns.map V.int))) := fun b u e => by
    by_cases h1 : b ∈ cs.map (·.2)
    · have e2 := (if_pos h1).symm.trans e
      exact .inl ⟨h1, (Option.some.inj e2).symm⟩
    · by_cases h2 : b = a
      · rw [h2, Ha] at e
        by_cases hk : K.lookup a = none
        · have e2 := (if_pos hk).symm.trans e
          exact .inr ⟨h2, hk, (Option.some.inj e2).symm⟩
        · have e2 := (if_neg hk).symm.trans e
          cases e2
      · have e2 := ((if_neg h1).trans (if_neg h2)).symm.trans e
        cases e2
  refine core_callT N (H := H) ⟨Ht, fun b u e => ?_⟩ (fun b u e => ?_) hr F hbind (hsp H Ht ?_)
  · rcases all b u e with ⟨h, _⟩ | ⟨h1, h2, h3⟩
    · obtain ⟨p, hp, z⟩ := List.mem_map.mp h
      exact .inl ⟨p, hp, z⟩
    · exact .inr ⟨h1, h2, _, _, h3⟩
  · rcases all b u e with ⟨h, rfl⟩ | ⟨h1, h2, rfl⟩
    · obtain ⟨p, hp, z⟩ := List.mem_map.mp h
      have t := N.tabs p hp
      rw [z] at t
      exact t
    · rw [h1]
      refine ⟨N.script, ?_, vs, _, rv, N.script⟩
      rw [List.length_map]
      exact hl
  · by_cases hk : K.lookup a = none
    · exact .inl (.inr ⟨scriptO vs, Ha.trans (if_pos hk)⟩)
    · obtain ⟨o, ho⟩ := Option.ne_none_iff_exists'.mp hk
      have e := N.kin a o ho
      rw [N.script] at e
      cases e
      refine .inr ⟨_, vs.toArray, _, ho, rfl, rfl, rfl, ?_, by simpa using rv⟩
      rw [List.size_toArray, ← rv.length, List.length_map]
      exact hl
end
theorem walkGT {l : PySem.W.OpenLaw} {n k : Nat} {q : Program} {loose : List Str} {XP : (Str → Option Value) → Heap → Prop} {YP : World → Heap → Prop} {d : DefRec} {x : Str}
    (hn : l.most = some n) (hn2 : n ≤ sizeLine) (hdf : d.params.defaults = []) (hr : Room k callerA)
    (F : ∀ (w : World) (mg : Str → Option Value) (fa : Addr) (h : Heap), YP w h → h.Ns mainGlobals mg → mg d.name = some (.ref fa) →
      ∃ (K : PySem.W.Frag) (cs : List (Addr × Addr)) (fd : FuncData) (sp : Sp), K.In h ∧ (∀ p ∈ cs, h.get? p.2 = some tabO) ∧ (∀ p ∈ cs, K.lookup p.2 = none) ∧ (∀ p ∈ cs, PySem.W.CodeHd h p.1 p.2) ∧ (∀ (s : Shared) (u : Value), BindsTo s fd ⟨[u], []⟩ [(x, u)]) ∧
        (∀ (H : Hp) (a : Addr) (ns : List Int), ns.length ≤ n → (∀ p ∈ cs, H p.2 = some (.tbl #[])) → SqL K H a (ns.map V.int) → sp [.ref a] H (fun v _ => v = .bl true) fun _ _ _ => False) ∧
        ∀ base : Heap, K.In base → base.Ns mainGlobals mg → (∀ p ∈ cs, TabB base mg p.1 p.2) → FnG l.prog w K mg base k fa fd [x] sp) :
    PySem.W.WalkO q loose XP YP l.row.toRowW d [] (fun f vs => PySem.call f vs) := by
  refine Att.attach_callB hn hdf ?_
  intro w s₀ s₁ mg mb fa o pm cd doc a vs ns G Y ho hd hcd hmg hobj hints hlen hbits hg
  obtain ⟨K, cs, fd, sp, KX, t1, t2, t3, hb, hsp, hF⟩ := F w mg fa _ Y G.T.g hmg
  exact law_callGT ⟨KX, G.T.g, G.T.b, G.T.builtins, G.T.nolimit, hg, G.T.bmain, hobj, t1, t2, t3⟩ hints (Nat.le_trans hlen hn2) hr hF hb fun H h1 h2 => hsp H a ns hlen h1 h2
end K00
set_option Elab.async false
set_option linter.all false
set_option maxRecDepth 100000
set_option maxHeartbeats 0
open PySem PySem.W PySem.Calls PyProof.Rows
theorem PySem.Challenge.cw_tagless_k88_texts_of_any_value_holds : PySem.Challenge.rw_tagless_k88_texts_of_any_value.Holds := by
  w_on; o_law
  refine HandSHeadRun.head_any (r := K00.R) (q := view (K00.R).prog [46]) (H := K00.hk) (ob := K00.ob) (M := 20000) (loose := K00.looseN) (d := HandSHeadRun.topDef (K00.R).prog 46) (kwd := []) K00.ob_eq
    (by kernel_rfl) (fun s => by kernel_rfl) K00.run (by kernel_rfl) (by kernel_rfl) (by kernel_rfl) (by rfl) (by first | assumption | decide +kernel) (by decide +kernel) ⟨rfl, rfl, rfl, rfl, rfl, by decide +kernel⟩ ?hw ?hc
  case hw => w_witness2
  case hc =>
    refine K00.walkGT (l := PySem.Challenge.rw_tagless_k88_texts_of_any_value) (n := 63) (k := 34) (x := "_law_script") rfl (by decide) (by kernel_rfl) ⟨rfl, by decide, by decide⟩ ?F
    intro w mg fa h Y G hmg0
    obtain ⟨K, KX, c⟩ := Y
    have hmg : mg ("law" : PySem.Str) = some (.ref fa) := by
      have e : (HandSHeadRun.topDef (K00.R).prog 46).name = ("law" : PySem.Str) := by kernel_rfl
      rw [← e]
      exact hmg0
    obtain ⟨fd, hb, hF⟩ := K87.facts (P := (PySem.Challenge.rw_tagless_k88_texts_of_any_value).prog) (w := w) KX G hmg c
    have mem : ∀ p ∈ K87.csK K, ∃ t ∈ K00.tf, p = He.cT K t := fun p hp => by
      simp only [K87.csK, List.mem_cons, List.not_mem_nil, or_false] at hp
      subst hp
      exact ⟨K87.pRi, List.mem_cons_self, rfl⟩
    refine ⟨K, K87.csK K, fd, K87.spLaw K (K87.tsK K), KX, fun p hp => ?_, fun p hp => ?_, fun p hp => ?_, hb, fun H a ns hl hT hS => ⟨a, ns, rfl, hS, hl, fun q hq => ?_, fun _ => rfl⟩, hF⟩
    · obtain ⟨t, ht, rfl⟩ := mem p hp
      exact c.empty t ht
    · obtain ⟨t, ht, rfl⟩ := mem p hp
      exact c.out t ht
    · obtain ⟨t, ht, rfl⟩ := mem p hp
      exact PySem.W.codeHd_of_K KX (c.hd t ht)
    · simp only [K87.tsK, List.mem_cons, List.not_mem_nil, or_false] at hq
      subst hq
      exact LamX.TabS.nil (hT _ (by simp [K87.csK]))
