import PyProof.Rows.All
import HandS.ForMost
import Wide.All
import OpenK.AllK
import Wide.FinOn
import KE.KStateDown
import Lean
import HandS.ForExc
import HandS.More
import HandS.Defaults
import HandS.Head0
import HandS.Head1
import HandS.Head2
import HandS.HeadEnd
import HandS.HeadHook1
import HandS.HeadHook2
import HandS.HeadHook3
import HandS.HeadHook4
import HandS.ExcInit
import HandS.ExcValue
import HandS.IsInst
import KE.KExcIs
import HandS.Walk
import HandS.NoneIn
import KE.KDictZip
import HandS.ListItems
import HandS.DictEq
import HandS.ListEq
import HandS.DeepEq
import HandS.Text
import HandS.SetFor
import HandS.Lambda
import HandS.EndTab
import HandS.Wide
import HandS.Style
import HandS.EndBits
import PySem.Challenge.RW_tagless_k00_documents_told
set_option Elab.async false
set_option linter.all false
set_option maxRecDepth 100000
/-! K00Math: what k00 says of data, in plain Lean: what is a document, how many parts, going through parts in breadth. -/
namespace K00
open PySem
def LET : Str := "abcdefghijklmnopqrstuvwxyz"
def nameB (s : Str) : Bool := decide (1 ≤ s.length) && (decide (s.length ≤ 8) && s.cps.toList.all fun c => LET.cps.toList.contains c)
def keyB : PyData → Bool
  | .str s => nameB s
  | _ => false
mutual
def isOne : PyData → Bool
  | .none => true
  | .bool _ => true
  | .int _ => true
  | .str _ => true
  | .tuple _ => false
  | .list xs => isOneL xs
  | .dict kvs => isOneK kvs
def isOneL : List PyData → Bool
  | [] => true
  | x :: r => isOne x && isOneL r
def isOneK : List (PyData × PyData) → Bool
  | [] => true
  | (k, v) :: r => (keyB k && isOne v) && isOneK r
end
mutual
def cnt : PyData → Nat
  | .none => 1
  | .bool _ => 1
  | .int _ => 1
  | .str _ => 1
  | .tuple _ => 1
  | .list xs => 1 + cntL xs
  | .dict kvs => 1 + cntK kvs
def cntL : List PyData → Nat
  | [] => 0
  | x :: r => cnt x + cntL r
def cntK : List (PyData × PyData) → Nat
  | [] => 0
  | (_, v) :: r => cnt v + cntK r
end
def kids : PyData → List PyData
  | .list xs => xs
  | .dict kvs => kvs.map (·.2)
  | _ => []
def sortB : PyData → Bool
  | .tuple _ => false
  | .dict kvs => kvs.all fun p => keyB p.1
  | _ => true
theorem cntL_eq : ∀ xs : List PyData, cntL xs = (xs.map cnt).sum
  | [] => by simp [cntL]
  | x :: r => by simp [cntL, cntL_eq r]
theorem cntK_eq : ∀ xs : List (PyData × PyData), cntK xs = ((xs.map (·.2)).map cnt).sum
  | [] => by simp [cntK]
  | (k, v) :: r => by simp [cntK, cntK_eq r]
theorem cnt_kids (d : PyData) : cnt d = 1 + ((kids d).map cnt).sum := by
  cases d with
  | list xs => simp only [cnt, kids, cntL_eq]
  | dict kvs => simp only [cnt, kids, cntK_eq]
  | _ => simp [cnt, kids]
theorem isOneL_eq : ∀ xs : List PyData, isOneL xs = xs.all isOne
  | [] => by simp [isOneL]
  | x :: r => by simp [isOneL, isOneL_eq r]
theorem isOneK_eq : ∀ xs : List (PyData × PyData), isOneK xs = ((xs.all fun p => keyB p.1) && (xs.map (·.2)).all isOne)
  | [] => by simp [isOneK]
  | (k, v) :: r => by
    simp only [isOneK, isOneK_eq r, List.all_cons, List.map_cons]
    cases keyB k <;> cases isOne v <;> simp
theorem isOne_kids (d : PyData) : isOne d = (sortB d && (kids d).all isOne) := by
  cases d with
  | list xs => simp [isOne, sortB, kids, isOneL_eq]
  | dict kvs => simp only [isOne, sortB, kids, isOneK_eq]
  | _ => simp [isOne, sortB, kids]
/-- the parts that a walk in breadth has seen, and those that it still has to see -/
structure Wide (root : PyData) (i : Nat) (ps : List PyData) : Prop where
  le : i ≤ ps.length
  many : i + ((ps.drop i).map cnt).sum = cnt root
  one : ((ps.take i).all sortB && (ps.drop i).all isOne) = isOne root
theorem Wide.start (d : PyData) : Wide d 0 [d] := ⟨Nat.zero_le _, by simp, by simp⟩
theorem Wide.step {root d : PyData} {i : Nat} {ps : List PyData} (w : Wide root i ps) (h : ps[i]? = some d) : Wide root (i + 1) (ps ++ kids d) := by
  obtain ⟨hi, hd⟩ := List.getElem?_eq_some_iff.mp h
  have e1 : ps.drop i = d :: ps.drop (i + 1) := by rw [List.drop_eq_getElem_cons hi, hd]
  have e2 : ps.take (i + 1) = ps.take i ++ [d] := by rw [← List.take_append_getElem hi, hd]
  have e3 : (ps ++ kids d).drop (i + 1) = ps.drop (i + 1) ++ kids d := List.drop_append_of_le_length (by omega)
  have e4 : (ps ++ kids d).take (i + 1) = ps.take (i + 1) := List.take_append_of_le_length (by omega)
  obtain ⟨_, h2, h3⟩ := w
  refine ⟨by rw [List.length_append]; omega, ?_, ?_⟩
  · rw [e3, List.map_append, List.sum_append]
    rw [e1, List.map_cons, List.sum_cons, cnt_kids d] at h2
    omega
  · rw [e3, e4, e2, ← h3, e1]
    simp only [List.all_append, List.all_cons, List.all_nil, Bool.and_true]
    rw [isOne_kids d]
    generalize (ps.take i).all sortB = a
    generalize (ps.drop (i + 1)).all isOne = b
    generalize sortB d = c
    generalize (kids d).all isOne = e
    cases a <;> cases b <;> cases c <;> cases e <;> rfl
theorem Wide.done {root : PyData} {i : Nat} {ps : List PyData} (w : Wide root i ps) (h : ps.length ≤ i) : ps.length = cnt root ∧ ps.all sortB = isOne root := by
  obtain ⟨h1, h2, h3⟩ := w
  have e : i = ps.length := Nat.le_antisymm h1 h
  subst e
  rw [List.drop_length] at h2 h3
  rw [List.take_length] at h3
  exact ⟨by simpa using h2, by simpa using h3⟩
theorem cnt_pos (d : PyData) : 1 ≤ cnt d := by rw [cnt_kids]; omega
theorem Wide.left {root : PyData} {i : Nat} {ps : List PyData} (w : Wide root i ps) : i ≤ cnt root := by have := w.many; omega
theorem Wide.lt {root : PyData} {i : Nat} {ps : List PyData} (w : Wide root i ps) (h : i < ps.length) : i < cnt root := by
  have e1 : ps.drop i = ps[i] :: ps.drop (i + 1) := List.drop_eq_getElem_cons h
  have q := w.many
  rw [e1, List.map_cons, List.sum_cons] at q
  have := cnt_pos ps[i]
  omega
theorem Wide.len {root : PyData} {i : Nat} {ps : List PyData} (w : Wide root i ps) : ps.length ≤ cnt root := by
  have q := w.many
  have l : ∀ xs : List PyData, xs.length ≤ (xs.map cnt).sum := by
    intro xs
    induction xs with
    | nil => simp
    | cons x r ih =>
      rw [List.map_cons, List.sum_cons, List.length_cons]
      have := cnt_pos x
      omega
  have z := l (ps.drop i)
  rw [List.length_drop] at z
  have := w.le
  omega
end K00
set_option Elab.async false
set_option linter.all false
set_option maxRecDepth 100000
set_option maxHeartbeats 0
namespace K00
open PySem PySem.Spec PyProof.Rows L2
def top (i : Nat) : Stmt := PySem.Challenge.pw_tagless_k00_documents_told.main.body.getD i (.Pass ⟨0, 0, 0, 0⟩)
def errs : List Str := ["NoDocument"]
def looseN : List Str := ["TaglessError", "NoDocument", "LETTERS", "LONGEST_NAME", "is_name", "sort_of", "inner_parts", "parts_of", "is_document", "alike", "paired_parts", "same", "size", "_law_pot_of", "_law_take", "_law_of", "_law_unlike", "_law_flat", "_law_any", "_law_bent", "_law_ink", "_law_heard", "_law_is_one", "_law_parts", "_law_odd", "_law_turned", "_law_two_right", "_law_one_right"]
abbrev sInit : Stmt := match top 1 with
  | .ClassDef (body := b) .. => b.getD 0 (.Pass ⟨0, 0, 0, 0⟩)
  | _ => .Pass ⟨0, 0, 0, 0⟩
def dF (i : Nat) (x : Str) : He.DefD := ⟨(x, none), x, x, defArgs (top i), defBody (top i), defScope (top i), [], []⟩
def fn : List He.DefD := [dF 6 "is_name", dF 7 "sort_of", dF 8 "inner_parts", dF 9 "parts_of", dF 10 "is_document", dF 11 "alike", dF 12 "paired_parts", dF 13 "same", dF 14 "size", dF 16 "_law_pot_of", dF 17 "_law_take", dF 18 "_law_of", dF 19 "_law_unlike", dF 20 "_law_flat", dF 21 "_law_any", dF 22 "_law_bent", dF 23 "_law_ink", dF 24 "_law_heard", dF 25 "_law_is_one", dF 26 "_law_parts", dF 27 "_law_odd", dF 28 "_law_turned", dF 29 "_law_two_right", dF 30 "_law_one_right", dF 31 "law",
  ⟨("TaglessError", some "__init__"), "__init__", "TaglessError.__init__", defArgs sInit, defBody sInit, defScope sInit, [], []⟩]
/-- LETTERS and LONGEST_NAME, as the top leaves them -/
def freeN : List Str := ["len", "isinstance", "all", "list", "max", "min", "range", "abs", "int", "repr", "zip", "bool", "str", "dict", "ValueError", "sorted", "tuple", "sum"]
def fa : List He.Fa := (fn.take 25).map (fun d => He.Fa.glo d.name) ++ (freeN.map He.Fa.free ++ [.str "LETTERS" "abcdefghijklmnopqrstuvwxyz", .int "LONGEST_NAME" 8])
/-- what is asked of an error's class at C -/
def eqB {α : Type} [DecidableEq α] (a b : α) : Bool := decide (a = b)
def clsB (K : PySem.W.Frag) (C : Addr) : Bool := match K.lookup C with
  | some ⟨.type t, _, .cls cd, sl⟩ => (match cd.mro, sl.toList with
    | .ref C' :: bm, [_, _, _, _, some (.builtin n), _] => eqB t "type" && (C' == C && (n == "ValueError.__new__" && (!cd.hasDel && (cd.hasDict && PySem.HandSPX.refsVE bm))))
    | _, _ => false)
  | _ => false
def fI (K : PySem.W.Frag) : Addr := He.ma K (He.ga K "TaglessError") "__init__"
def errB (K : PySem.W.Frag) (x : Str) : Bool :=
  let C := He.ga K x
  He.eqO (PySem.W.nsIn K mainGlobals x) (some (some (.ref C))) && (clsB K C &&
  (He.eqO (PySem.W.findIn K (.ref C) "__setattr__") (some (some (.builtin "object.__setattr__"))) &&
  (He.eqO (PySem.W.findIn K (.ref C) "__getattribute__") (some (some (.builtin "BaseException.__getattribute__"))) &&
  (He.eqO (PySem.W.findIn K (.ref C) "__getattr__") (some none) &&
  (He.eqO (PySem.W.findIn K (.ref C) "value") (some none) &&
  (He.eqO (PySem.W.findIn K (.ref C) "__init__") (some (some (.ref (fI K)))) &&
  (He.eqO (PySem.W.findIn K (.ref C) "__class__") (some (some (.builtin "object.__class__"))) &&
  (PySem.W.keepIn K (.ref C) &&
  (eqB (PySem.W.subIn K (.ref C) (.type "BaseException")) (some true) &&
  (eqB (PySem.W.typeIn K (.ref C)) (some (.type "type")) &&
  (PySem.W.hasDictIn K C && eqB (PySem.W.mroIn K C (.type "object")) (some true))))))))))))
def kinB (K : PySem.W.Frag) : Bool :=
  errs.all (fun x => errs.all fun y => eqB (PySem.W.kitOne K (.ref (He.ga K x)) (.ref (He.ga K y))) (some (x == y))) &&
  (errs.all (fun x => eqB (PySem.W.kitOne K (.ref (He.ga K x)) (.ref (He.ga K "TaglessError"))) (some true)) &&
   errs.all (fun x => eqB (PySem.W.kitOne K (.ref (He.ga K x)) (.type "ValueError")) (some true)))
def ckB (K : PySem.W.Frag) : Bool :=
  errs.all (errB K) && (kinB K && (He.eqO (PySem.W.nsIn K mainGlobals "TaglessError") (some (some (.ref (He.ga K "TaglessError")))) &&
  (eqB (PySem.W.typeIn K (.ref (fI K))) (some (.type "function")) &&
  (eqB (PySem.W.exmOne K (.ref (He.ga K "NoDocument")) (.ref (He.ga K "TaglessError"))) (some true) &&
  (eqB (PySem.W.specialIn K (.builtin "object.__class__") "__get__") (some (some (.builtin "getset_descriptor.__get__"))) &&
  (eqB (PySem.W.takesIn K (.builtin "object.__class__")) (some true) &&
  (match K.lookup 1 with
    | some ⟨.type t, _, _, _⟩ => eqB t "dict"
    | _ => false)))))))
def obK (K : PySem.W.Frag) : He.AlD := (ckB K && (He.obsD fa fn K).1, (He.obsD fa fn K).2)
/-- the defs that hand lambdas on -/
def tf : List He.Defn := [("_law_two_right", none), ("_law_one_right", none)]
structure Says (h : Heap) (K : PySem.W.Frag) : Prop where
  ck : ckB K = true
  d : He.SaysD fa fn K
  hd : ∀ p ∈ tf, PySem.W.codeHdIn K (He.cT K p).1 (He.cT K p).2 = true
  out : ∀ p ∈ tf, K.lookup (He.cT K p).2 = none
  empty : ∀ p ∈ tf, h.get? (He.cT K p).2 = some { cls := .none, data := .fields #[] }
  apart : (He.cT K ("_law_two_right", none)).2 ≠ (He.cT K ("_law_one_right", none)).2
abbrev Al : Type := He.AlD × Bool
def obG (g : Addr → Option Obj) : Al :=
  let K := He.frT g (1 :: He.asD g 4)
  (obK K, He.tabsB g tf K && !eqB (He.cT K ("_law_two_right", none)).2 (He.cT K ("_law_one_right", none)).2)
theorem says_of {g : Addr → Option Obj} {h : Heap} (eg : g = h.get?) (e : obG g = (He.valD fn, true)) : Says h (He.frT g (1 :: He.asD g 4)) := by
  have e0 : obK (He.frT g (1 :: He.asD g 4)) = He.valD fn := congrArg (fun z : Al => z.1) e
  have e3' : (He.tabsB g tf (He.frT g (1 :: He.asD g 4)) && !eqB (He.cT (He.frT g (1 :: He.asD g 4)) ("_law_two_right", none)).2 (He.cT (He.frT g (1 :: He.asD g 4)) ("_law_one_right", none)).2) = true := congrArg (fun z : Al => z.2) e
  obtain ⟨e3, e4⟩ := He.ba e3'
  have e1 : (ckB (He.frT g (1 :: He.asD g 4)) && (He.obsD fa fn (He.frT g (1 :: He.asD g 4))).1) = true := congrArg (fun z : He.AlD => z.1) e0
  have e2 : (He.obsD fa fn (He.frT g (1 :: He.asD g 4))).2 = fn.map He.DefD.val := congrArg (fun z : He.AlD => z.2) e0
  obtain ⟨h1, h2⟩ := He.ba e1
  have key : ∀ p ∈ tf, PySem.W.codeHdIn (He.frT g (1 :: He.asD g 4)) (He.cT (He.frT g (1 :: He.asD g 4)) p).1 (He.cT (He.frT g (1 :: He.asD g 4)) p).2 = true ∧ ∃ o, g (He.cT (He.frT g (1 :: He.asD g 4)) p).2 = some o ∧ He.emptyTab o = true := fun p hp => by
    obtain ⟨h3, h4⟩ := He.ba (List.all_eq_true.mp e3 p hp)
    refine ⟨h3, ?_⟩
    cases q : g (He.cT (He.frT g (1 :: He.asD g 4)) p).2 with
    | none =>
      rw [q] at h4
      cases h4
    | some o =>
      rw [q] at h4
      exact ⟨o, rfl, h4⟩
  refine ⟨h1, Prod.ext h2 e2, fun p hp => (key p hp).1, fun p hp => ?_, fun p hp => ?_, fun z => ?_⟩
  · obtain ⟨_, o, q, z⟩ := key p hp
    exact He.frT_none q z
  · obtain ⟨_, o, q, z⟩ := key p hp
    rw [← eg, q, He.emptyTab_eq z]
  · rw [z] at e4
    simp [eqB] at e4
abbrev R : PySem.W.OpenRow := PySem.W.OpenLaw.row PySem.Challenge.rw_tagless_k00_documents_told
def hk : PySem.W.Hook where
  α := Al
  obs := fun s => obG s.heap.get?
  val := fun _ => (He.valD fn, true)
  says := fun _ h => ∃ K : PySem.W.Frag, K.In h ∧ Says h K
  of := fun _ _ e => ⟨_, He.frT_in, says_of rfl e⟩
  keeps := fun _ _ _ ⟨K, hK, c⟩ k => ⟨K, PySem.W.Frag.In.keeps hK k, ⟨c.ck, c.d, c.hd, c.out, fun p hp => k _ _ (c.empty p hp), c.apart⟩⟩
def ob (s : PySem.W.SharedT) : Al := obG (HandSHeadRun.getT s)
theorem ob_eq (s : PySem.W.SharedT) : ob s = hk.obs s.abs := by
  have e : HandSHeadRun.getT s = s.abs.heap.get? := funext (HandSHeadRun.getT_eq s)
  show obG (HandSHeadRun.getT s) = obG s.abs.heap.get?
  rw [e]
end K00
set_option Elab.async false
set_option linter.all false
set_option maxRecDepth 100000
set_option maxHeartbeats 4000000
/-! K00B: the errors of the program as values: made by a call, read, asked by isinstance, raised. -/
namespace K00
open PySem PySem.W PySem.Calls PyProof.Rows PySem.HandSPX
/-! ### the text of __init__ -/
def iA (p1 p2 : Pos) : Arguments :=
  { posonlyargs := [], args := [{ arg := "self", annotation := none, pos := p1 }, { arg := "value", annotation := none, pos := p2 }], vararg := none, kwonlyargs := [], kw_defaults := [], kwarg := none, defaults := [] }
def iB (q1 q2 q3 q4 : Pos) : List Stmt := [.Assign [.Attribute (.Name "self" q1) "value" q2] (.Name "value" q3) q4]
def iS : Scope := { kind := .function, names := [(PySem.Str.ofString "self", .local), (PySem.Str.ofString "value", .local)], isGenerator := false, isCoroutine := false, more := [] }
/-- what the written part says of an error's class at C and of the __init__ that it has from above -/
structure ErrT (K : Frag) (C fI : Addr) : Prop where
  cls : ∃ nm q N bs bm sn sub ab col dd k0 k1 k2 k3 k5, K.lookup C = some (excClassObj nm q C N bs bm true sn sub ab col dd k0 k1 k2 k3 k5 "ValueError.__new__") ∧ refsVE bm = true
  sa : findIn K (.ref C) "__setattr__" = some (some (.builtin "object.__setattr__"))
  ga : findIn K (.ref C) "__getattribute__" = some (some (.builtin "BaseException.__getattribute__"))
  gg : findIn K (.ref C) "__getattr__" = some none
  noN : findIn K (.ref C) "value" = some none
  iC : findIn K (.ref C) "__init__" = some (some (.ref fI))
  cl : findIn K (.ref C) "__class__" = some (some (.builtin "object.__class__"))
  kC : keepIn K (.ref C) = true
  exC : subIn K (.ref C) (.type "BaseException") = some true
  tyC : typeIn K (.ref C) = some (.type "type")
  hdC : hasDictIn K C = true
  ob : mroIn K C (.type "object") = some true
structure InitT (K : Frag) (fI : Addr) : Prop where
  tI : typeIn K (.ref fI) = some (.type "function")
  gt : specialIn K (.builtin "object.__class__") "__get__" = some (some (.builtin "getset_descriptor.__get__"))
  tk : takesIn K (.builtin "object.__class__") = some true
  fn : ∃ (oc : Value) (od : Option Addr) (doc pm : Value) (an : Option Addr) (cdv ct : Value) (osl : Array (Option Value)) (p1 p2 q1 q2 q3 q4 : Pos) (kV : Value),
    K.lookup fI = some ⟨oc, od, .func (fnOf "__init__" "TaglessError.__init__" (iA p1 p2) (iB q1 q2 q3 q4) iS .none kV doc pm an cdv ct), osl⟩ ∧ codeIn K cdv "TaglessError.__init__" = true
theorem one_size (v : Value) : [v].length ≤ sizeLine := by
  rw [sizeLine_eq]
  exact (by decide : 1 ≤ 16777216)
theorem ldC {M : Model} {s : Shared} {name : Str} {scope : Scope} {L a : Addr} {cd : Value} {m : Str → Option Value} {x : Str} {pos : Pos} {v : Value} {Q : Value → Shared → Prop} {A : Around} {E : Value → Shared → Prop} (hn : s.heap.Ns L m) (hv : m x = some v) (h : Q v s)
    (hk : scope.kind = .function := by rfl) (hl : (envOfC name scope L a cd).kindOf x = some .local := by rfl) (hd : (x == ("__debug__" : Str)) = false := by decide) :
    wpAny M A (eval (.Name x pos) (envOfC name scope L a cd)) Q E s := wpAny_Name (wpAny_loadName_local hk hl hn hv h) hd
/-- the object of an error with its own dict -/
def errO (C t0 dx : Addr) : Obj := { cls := .ref C, dict := some dx, data := .fields #[.ref t0, .none, .none, .none, .bool false, .none] }
structure InitEnd (h h' : Heap) (x C dx t1 : Addr) (v : Value) : Prop where
  keep : ∀ b o, b ≠ x → h.get? b = some o → h'.get? b = some o
  obj : h'.get? x = some (errO C t1 dx)
  dbig : h.objs.size ≤ dx
  dne : dx ≠ x
  ns : h'.Ns1 dx (fun y => if y = "value" then some v else none)
structure OwnMade (h h' : Heap) (e C d : Addr) (v : Value) : Prop where
  keep : ∀ b o, h.get? b = some o → h'.get? b = some o
  new : h.objs.size ≤ e
  obj : ∃ t0, h'.get? e = some (errO C t0 d)
  dbig : h.objs.size ≤ d
  dne : d ≠ e
  ns : h'.Ns1 d (fun y => if y = "value" then some v else none)
section
variable {prog : Program} {w : World} {A : Around} {E : Value → Shared → Prop} {R : Result → Shared → Prop} {s : Shared} {K : Frag} {C fI : Addr}
theorem err_init (T : ErrT K C fI) (T0 : InitT K fI) {x t0 : Addr} {v : Value} (X : K.In s.heap) (hlim : s.heap.NoLimit) (hx : s.heap.get? x = some (excO C t0)) (hroom : A.depth < recursionLimit)
    (hq : ∀ h' tk dx, InitEnd s.heap h' x C dx t0 v → R (.ok (.ret .none)) { s with heap := h', toks := tk }) :
    codeAny (model prog w) A (.call (.ref fI) ⟨[.ref x, v], []⟩) R s := by
  obtain ⟨oc, od, doc, pm, an, cdv, ct, osl, p1, p2, q1, q2, q3, q4, kV, ho, hcd⟩ := T0.fn
  obtain ⟨nm, q, N, bs, bm, sn, sub, ab, col, dd, k0, k1, k2, k3, k5, hC, hbm⟩ := T.cls
  have hcl : clsIn K C = some { name := nm, bases := bs, mro := .ref C :: bm, ns := N, qualname := q, hasDict := true, slotNames := sn, subclasses := sub, abstract := ab, collection := col, hasDel := false } := by unfold clsIn; rw [hC] <;> rfl
  refine Att.call_fn (binds := [("self", .ref x), ("value", v)]) X hlim ho hcd hroom (BindsTo.of_eq (by first | rfl | with_unfolding_all rfl)) (by first | rfl | decide | with_unfolding_all rfl) (fun s₁ IC => ?_) rfl rfl rfl
  obtain ⟨h₁, tk₁, rfl⟩ := IC.toInCall.same
  have k : ∀ b o, s.heap.get? b = some o → h₁.get? b = some o := IC.toInCall.keep
  have hn := IC.toInCall.ns
  have hxL : s.heap.objs.size ≠ x := Nat.ne_of_gt (Heap.lt_size hx)
  have X₁ : K.In h₁ := X.keeps k
  have hx₁ := k _ _ hx
  show wpAny _ _ (execs _ _) _ _ _
  refine wpAny_execs_cons (plainObj_wpAny_Assign_Attribute ?_)
  refine ldC (v := v) hn (by first | rfl | with_unfolding_all rfl | kernel_rfl) (ldC (v := .ref x) hn (by first | rfl | with_unfolding_all rfl | kernel_rfl) ?_)
  refine set_plain X₁ (ox := excO C t0) (od := none) ⟨hx₁, rfl, rfl, trivial⟩ T.sa ?_
  refine exc_osa X₁ hx₁ hcl (show refsVE (.ref C :: bm) = true from hbm) rfl T.noN (fun h₃ tk₃ dx k₃ dn dne hx₃ hn₃ => ?_)
  show wpAny _ _ (execs _ _) _ _ _
  have z : s.heap.objs.size < h₁.objs.size := hn.lt
  exact wpAny_execs_nil (hq h₃ tk₃ dx ⟨fun b o hb e => k₃ b o hb (k b o e), hx₃, Nat.le_of_lt (Nat.lt_of_lt_of_le z dn), dne, hn₃⟩)
theorem err_made (T : ErrT K C fI) (T0 : InitT K fI) {v : Value} (X : K.In s.heap) (hlim : s.heap.NoLimit) (hroom : A.depth + 1 < recursionLimit)
    (hq : ∀ h' tk e d, OwnMade s.heap h' e C d v → R (.ok (.ret (.ref e))) { s with heap := h', toks := tk }) :
    codeAny (model prog w) A (.call (.ref C) ⟨[v], []⟩) R s := by
  obtain ⟨nm, q, N, bs, bm, sn, sub, ab, col, dd, k0, k1, k2, k3, k5, hC, hbm⟩ := T.cls
  obtain ⟨hp, g, dr, tk, os⟩ := s
  have k : ∀ b o, hp.get? b = some o → ((hp.push (kdv_tup [v])).push (excO C hp.objs.size)).get? b = some o := fun b o e => Heap.get?_push_of_some _ (Heap.get?_push_of_some _ e)
  have hget : ((hp.push (kdv_tup [v])).push (excO C hp.objs.size)).get? (hp.objs.size + 1) = some (excO C hp.objs.size) := by heap_get
  refine call_own F.excBase_ValueError (fun X => refsVE_contains X bm hbm) (X _ _ hC) (looks_findIn X T.iC) (fun self => bind_fn X self T0.tI) (one_size v) ?_
  refine err_init (s := ⟨(hp.push (kdv_tup [v])).push (excO C hp.objs.size), g, dr, tk, os⟩) T T0 (X.keeps k) (hlim.keeps k) hget ?_ fun h' tk' dx ⟨k', hx, dn, dne, hns⟩ => ?_
  · show A.depth + 1 < recursionLimit
    exact hroom
  · have old : ∀ b o, hp.get? b = some o → h'.get? b = some o := fun b o e => k' b o (Nat.ne_of_lt (Nat.lt_succ_of_lt (Heap.lt_size e))) (k b o e)
    have z : hp.objs.size + 1 + 1 ≤ dx := by
      first
        | (simpa only [Heap.size_push] using dn)
        | exact dn
        | (have q := dn; rw [Heap.size_push, Heap.size_push] at q; exact q)
    exact ⟨rfl, hq h' tk' (hp.objs.size + 1) dx ⟨old, Nat.le_succ _, ⟨_, hx⟩, Nat.le_trans (Nat.le_trans (Nat.le_succ _) (Nat.le_succ _)) z, dne, hns⟩⟩
end
end K00
namespace K00
open PySem PySem.Spec PyProof.Rows L2
theorem relO_val {v : V} {v' : Value} (r : RelV v v') (f : Str) : RelO (List.lookup f [(("value" : Str), v)]) (if f = "value" then some v' else none) := by
  by_cases hw : f = "value"
  · subst hw
    rw [if_pos rfl]
    have q : List.lookup ("value" : Str) [(("value" : Str), v)] = some v := by simp [List.lookup]
    rw [q]
    exact r
  · rw [if_neg hw]
    have qw : (f == ("value" : Str)) = false := by simpa using hw
    have q2 : List.lookup f [(("value" : Str), v)] = none := by simp [List.lookup, qw]
    rw [q2]
    trivial
/-- u is an error of the class at C that holds v -/
def IsErr (H : Hp) (C : Addr) (v u : V) : Prop := ∃ e d : Addr, u = .ref e ∧ H e = some (exo e C (some d)) ∧ H d = some (.xd [(("value" : Str), v)])
theorem IsErr.same {H H' : Hp} {C : Addr} {v u : V} (h : IsErr H C v u) (k : Same H H') : IsErr H' C v u := by
  obtain ⟨e, d, h1, h2, h3⟩ := h
  exact ⟨e, d, h1, k _ _ h2, k _ _ h3⟩
section
variable {X : Cx} {C fI : Addr}
/-- C(e) as a value -/
def tErr (C : Addr) (ta : TA) : TE := fun σ H Q => ta σ H fun vs H1 => ∃ v, vs = [v] ∧ ∀ (u : V) (H2 : Hp), Same H1 H2 → IsErr H2 C v u → Q u H2
theorem pe_err {x : Str} {e : Expr} {ta : TA} {p pos : Pos} {k : Nat} (T : ErrT X.K C fI) (T0 : InitT X.K fI) (gC : X.mg x = some (.ref C)) (hr : Room k X.A) (ha : PA X [e] ta) (hg : Gl X x := by rfl)
    (hdb : (x == ("__debug__" : Str)) = false := by decide)
    (hs : starEach (e :: []) X.env = (false, eval e X.env) :: starEach [] X.env := by rfl) (hpl : (backTo pos (starEach [] X.env)).any (·.1) = false := by rfl) :
    PE X (.Call (.Name x p) [e] [] pos) (tErr C ta) := by
  refine ⟨fun pins s σ H Q I h => ?_⟩
  refine wpAny_Call_Name_kw (ld_glob I hg gC ?_ hdb)
  refine PySem.W.callWith_K (h₀ := X.base) I.ok.mod.kin T.kC (thn (ha.run pos pins s σ H _ I h) fun us s1 hh => ?_) hs hpl
  obtain ⟨vs, H1, I1, r1, v, ev, q1⟩ := hh
  subst ev
  refine ⟨I1.kIn, ?_⟩
  cases r1 with
  | cons rv rn =>
    rename_i v' us'
    cases rn
    show wpAny _ _ (call (.ref C) [v']) _ _ _
    have hlim := I1.nolimit
    obtain ⟨hp, g, dr, tk, os⟩ := s1
    refine wpAny_call (err_made T T0 I1.kIn hlim (by have := hr.dp; omega) fun h' tk' e d M => ?_)
    obtain ⟨t0, hoe⟩ := M.obj
    have hns := M.ns
    obtain ⟨G', g1, g2⟩ := restrict h' fun b => decide (b ≠ e)
    have gk : ∀ b, b ≠ e → G'.get? b = h'.get? b := fun b hb => g1 b (decide_eq_true hb)
    have ge : G'.get? e = none := g2 e (by simp)
    have old : ∀ b o, hp.get? b = some o → G'.get? b = some o := fun b o q => (gk b (Nat.ne_of_lt (Nat.lt_of_lt_of_le (Heap.lt_size q) M.new))).trans (M.keep b o q)
    have ob : ObjOk X.prog X.w (upd H1 d (.xd [(("value" : Str), v)])) G' d (.xd [(("value" : Str), v)]) :=
      ⟨_, hns.at (fun o q => (gk d M.dne).trans q), fun f => relO_val rv f⟩
    have J : Inv X pins σ (upd H1 d (.xd [(("value" : Str), v)])) ⟨G', g, dr, tk', os⟩ := I1.laid (t' := tk') old M.dbig ob
    have he1 : H1 e = none := I1.hok.fresh M.new
    have hd1 : H1 d = none := I1.hok.fresh M.dbig
    have hen : (upd H1 d (.xd [(("value" : Str), v)])) e = none := by rw [upd_ne (Ne.symm M.dne)]; exact he1
    have kk : ∀ b u, G'.get? b = some u → h'.get? b = some u := fun b u q => by
      by_cases hb : b = e
      · rw [hb, ge] at q; cases q
      · exact (gk b hb).symm.trans q
    have J2 : Inv X pins σ (upd (upd H1 d (.xd [(("value" : Str), v)])) e (exo e C (some d))) ⟨h', g, dr, tk', os⟩ :=
      Inv.laidN (t' := tk') J kk ge hen (exo_ok hoe)
    refine ⟨.ref e, _, J2, rfl, q1 _ _ (fun b o q => ?_) ⟨e, d, rfl, upd_same, ?_⟩⟩
    · rw [upd_ne (ne_of_none q he1), upd_ne (ne_of_none q hd1)]
      exact q
    · rw [upd_ne M.dne]
      exact upd_same
end
end K00
set_option Elab.async false
set_option linter.all false
set_option maxRecDepth 100000
set_option maxHeartbeats 4000000
/-! K00C: an error that is raised, caught, and kept under another name. -/
namespace K00
open PySem PySem.Spec L2
section
variable {X : Cx} {C fI : Addr}
/-- C(e), to be raised: its own dict d, new, holds the value -/
def tMkErr (C : Addr) (ta : TA) : L2.St → Hp → XK → Prop := fun σ H Q => ta σ H fun vs H1 => ∃ v, vs = [v] ∧ ∀ d, H1 d = none → Q (.ref C) (some d) (upd H1 d (.xd [(("value" : Str), v)]))
theorem pmk_err {x : Str} {e : Expr} {ta : TA} {p pos : Pos} {k : Nat} (T : ErrT X.K C fI) (T0 : InitT X.K fI) (gC : X.mg x = some (.ref C)) (hr : Room k X.A) (ha : PA X [e] ta) (hg : Gl X x := by rfl)
    (hdb : (x == ("__debug__" : Str)) = false := by decide)
    (hs : starEach (e :: []) X.env = (false, eval e X.env) :: starEach [] X.env := by rfl) (hpl : (backTo pos (starEach [] X.env)).any (·.1) = false := by rfl) :
    PMk X (.Call (.Name x p) [e] [] pos) (tMkErr C ta) := by
  intro pins s σ H Q I h
  refine wpAny_Call_Name_kw (ld_glob I hg gC ?_ hdb)
  refine PySem.W.callWith_K (h₀ := X.base) I.ok.mod.kin T.kC (thn (ha.run pos pins s σ H _ I h) fun us s1 hh => ?_) hs hpl
  obtain ⟨vs, H1, I1, r1, v, ev, q1⟩ := hh
  subst ev
  refine ⟨I1.kIn, ?_⟩
  cases r1 with
  | cons rv rn =>
    rename_i v' us'
    cases rn
    show wpAny _ _ (call (.ref C) [v']) _ _ _
    have hlim := I1.nolimit
    obtain ⟨hp, g, dr, tk, os⟩ := s1
    refine wpAny_call (err_made T T0 I1.kIn hlim (by have := hr.dp; omega) fun h' tk' e d M => ?_)
    show MkP X pins σ Q (.ref e) ⟨h', g, dr, tk', os⟩
    obtain ⟨t0, hoe⟩ := M.obj
    have hns := M.ns
    obtain ⟨G', g1, g2⟩ := restrict h' fun b => decide (b ≠ e)
    have gk : ∀ b, b ≠ e → G'.get? b = h'.get? b := fun b hb => g1 b (decide_eq_true hb)
    have ge : G'.get? e = none := g2 e (by simp)
    have old : ∀ b o, hp.get? b = some o → G'.get? b = some o := fun b o q => (gk b (Nat.ne_of_lt (Nat.lt_of_lt_of_le (Heap.lt_size q) M.new))).trans (M.keep b o q)
    have ob : ObjOk X.prog X.w (upd H1 d (.xd [(("value" : Str), v)])) G' d (.xd [(("value" : Str), v)]) :=
      ⟨_, hns.at (fun o q => (gk d M.dne).trans q), fun f => relO_val rv f⟩
    have J : Inv X pins σ (upd H1 d (.xd [(("value" : Str), v)])) ⟨G', g, dr, tk', os⟩ := I1.laid (t' := tk') old M.dbig ob
    refine ⟨e, _, _, ⟨G', g, dr, tk', os⟩, _, .ref C, some d, rfl, J, fun b o q => ?_, ge, hoe, ⟨rfl, rfl⟩, rfl, rfl, ?_, rfl, I1.bare, raises_own T.exC T.tyC, q1 d (I1.hok.fresh M.dbig)⟩
    · by_cases hb : b = e
      · have q' : G'.get? b = some o := q
        rw [hb, ge] at q'; cases q'
      · exact (gk b hb).symm.trans q
    · rw [upd_ne (Ne.symm M.dne)]
      exact I1.hok.fresh M.new
end
/-- at a: an exception of this class with this dict, whatever happened to it in the air -/
def erk (a : Addr) (cls : Value) (d : Option Addr) : HO := .ext fun h => ∃ (oe : Obj) (vs : Array Value), h.get? a = some oe ∧ Zc cls d oe ∧ oe.data = .fields vs
theorem erk_ok {P : Program} {w : World} {H : Hp} {h : Heap} {a : Addr} {cls : Value} {d : Option Addr} {oe : Obj} {vs : Array Value} (e : h.get? a = some oe) (z : Zc cls d oe) (f : oe.data = .fields vs) : ObjOk P w H h a (erk a cls d) :=
  ⟨⟨oe, vs, e, z, f⟩, ⟨oe, e⟩, fun _ _ ⟨o, v, q, r⟩ k => ⟨o, v, k o q, r⟩⟩
theorem erk_at {P : Program} {w : World} {H : Hp} {h : Heap} {a : Addr} {cls : Value} {d : Option Addr} (hok : HOk P w H h) (e : H a = some (erk a cls d)) : ∃ (oe : Obj) (vs : Array Value), h.get? a = some oe ∧ Zc cls d oe ∧ oe.data = .fields vs := by
  have x : ObjOk P w H h a (.ext fun h => ∃ (oe : Obj) (vs : Array Value), h.get? a = some oe ∧ Zc cls d oe ∧ oe.data = .fields vs) := hok a _ e
  exact x.1
section
variable {X : Cx} {pins : List (Addr × Obj)} {σ : L2.St} {H : Hp} {s : Shared}
/-- an object that came since the entry, and was not tracked, is tracked from here on -/
theorem track {a : Addr} {o : HO} (I : L2.Inv X pins σ H s) (hn : H a = none) (h0 : X.s_0.heap.get? a = none) (hL : a ≠ X.env.locals) (hC : ∀ y c, X.env.cells.lookup y = some c → c ≠ a)
    (hp : ∀ p ∈ X.pn ++ pins, p.1 ≠ a) (new : ObjOk X.prog X.w (upd H a o) s.heap a o) : L2.Inv X pins σ (upd H a o) s := by
  have other : ∀ {b : Addr} {u : HO}, H b = some u → b ≠ a := fun e => ne_of_none e hn
  have old : ∀ {b : Addr} {u : Obj}, X.s_0.heap.get? b = some u → b ≠ a := fun e z => by rw [z, h0] at e; cases e
  exact {
    ok := I.ok, os := I.os, bare := I.bare, loc := I.loc, cell := I.cell, len := I.len
    base := { keep := I.base.keep, slot := I.base.slot, there := I.base.there
              free := fun b u e n x => (upd_ne (old e)).trans (I.base.free b u e n x)
              tups := fun b xs e => (upd_ne (other (I.base.tups b xs e))).trans (I.base.tups b xs e)
              frzs := fun b u v e => (upd_ne (other (I.base.frzs b u v e))).trans (I.base.frzs b u v e)
              tbls := fun b ps e => by
                obtain ⟨m, q⟩ := I.base.tbls b ps e
                exact ⟨m, (upd_ne (other q)).trans q⟩ }
    free := (upd_ne (Ne.symm hL)).trans I.free
    freeC := fun y c e => (upd_ne (hC y c e)).trans (I.freeC y c e)
    pin := fun p q => by
      obtain ⟨e1, e2, e3⟩ := I.pin p q
      exact ⟨e1, (upd_ne (hp p q)).trans e2, e3⟩
    hok := fun b u e => by
      by_cases hb : b = a
      · subst hb
        rw [upd_same] at e
        cases e
        exact new
      · rw [upd_ne hb] at e
        exact (I.hok b u e).stay (fun _ _ _ z => z) (fun _ z => (upd_ne (other z)).trans z) (fun _ _ z => (upd_ne (other z)).trans z) }
theorem into_suite (a : Addr) (I : L2.Inv X pins σ H s) : L2.Inv (X.suite a (X.pn ++ pins)) [] σ H s :=
  { ok := I.ok.suite a _, os := I.os, bare := I.bare, base := I.base, loc := I.loc, cell := I.cell, free := I.free, freeC := I.freeC, pin := fun p q => I.pin p (by simpa using q), hok := I.hok, len := I.len }
theorem out_of_suite {a : Addr} (ok : X.Ok) (I : L2.Inv (X.suite a (X.pn ++ pins)) [] σ H s) : L2.Inv X pins σ H s :=
  { ok := ok, os := I.os, bare := I.bare, base := I.base, loc := I.loc, cell := I.cell, free := I.free, freeC := I.freeC, pin := fun p q => I.pin p (by simpa using q), hok := I.hok, len := I.len }
/-- the wish of such a clause: the error is tracked at a, its name in slot i while the suite runs -/
def wKept (K : PySem.W.Frag) (c : Value) (i : Nat) (ts : TS) (D : Ends) : WX := fun cls d σ H =>
  PySem.W.exmOne K cls c = some true ∧ ∀ a, H a = none →
    ts { nx := fun σ' H' => D.nx (σ'.set i none) H', rt := D.rt, bk := fun σ' H' => D.bk (σ'.set i none) H', ct := fun σ' H' => D.ct (σ'.set i none) H' } (σ.set i (some (.ref a))) (upd H a (erk a cls d))
end
section
variable {X : Cx} {x n : Str} {c : Value} {i : Nat} {body suite : List Stmt} {b₀ : Stmt} {np pos pos' : Pos} {tb : WX → TS} {ts : TS}
theorem ps_try_keep (hs : X.stack = X.env :: X.outer) (hf : X.env.frame = some X.env.locals) (hex : X.ex = []) (hN : X.N.Nodup) (hi : X.N[i]? = some n) (hln : X.env.kindOf n = some .local) (hc : Names X x c)
    (hb : ∀ (W : WX) (pn : List (Addr × Obj)) (xe : Value → Shared → Prop), Takes (X.tr pn xe) W → PassesOwn (model X.prog X.w) X.A X.env xe → PSs (X.tr pn xe) body (tb W))
    (hsu : ∀ (a : Addr) (pn : List (Addr × Obj)), PSs (X.suite a pn) (b₀ :: suite) ts) :
    PS X (.Try body [.ExceptHandler (some (.Name x np)) (some n) (b₀ :: suite) pos'] [] [] pos) (fun D σ H => tb (wKept X.K c i ts D) D σ H) := by
  constructor
  intro pins s σ H D I reads
  have ok := I.ok
  have frames : X.A.frames = some (X.env :: X.outer) := ok.frames.trans (congrArg some hs)
  refine wpAny_Try_except (wpAny_mono ((hb (wKept X.K c i ts D) (X.pn ++ pins) _ ?caught PassesOwn.looking).run [] s σ H D (I.toTry _) reads) ?through fun _ _ z => z)
  case through =>
    intro f s1 done
    match f, done with
    | .next, ⟨σ1, H1, J, q⟩ => exact wpAny_execs_nil ⟨σ1, H1, J.ofTry ok, q⟩
    | .brk, ⟨σ1, H1, J, q⟩ => exact ⟨σ1, H1, J.ofTry ok, q⟩
    | .cont, ⟨σ1, H1, J, q⟩ => exact ⟨σ1, H1, J.ofTry ok, q⟩
    | .ret u, ⟨v, σ1, H1, J, r, q⟩ => exact ⟨v, σ1, H1, J.ofTry ok, r, q⟩
  case caught =>
    rintro u s1 ⟨a, B, sI, pins', σ1, H1, cls, d, rfl, Jt, nb, up, sky, na, os, bare, hmatch, hsuite⟩
    have J : L2.Inv X pins σ1 H1 sI := Jt.ofTry ok
    have sky' : Sky B (X.env :: X.outer) a (Zc cls d) X.env.locals s1.heap := hs ▸ sky
    show wpAny (model X.prog X.w) X.A (noteFrame (.ref a) X.env) _ _ _
    refine Sky.land Zc.steady frames hf sky' ?_
    intro h3 fl3 up3
    have J3 := J.landed (s' := { s1 with heap := h3 }) nb fl3.1 (up.trans up3) os bare
    obtain ⟨oe3, vs3, he3, hz3, hd3⟩ := fl3.there
    have notFrame : a ∉ frs (X.env :: X.outer) := fun hm => by
      obtain ⟨_, o', e', noFields⟩ := fl3.2.2.1.mem hm
      rw [he3] at e'
      cases e'
      exact noFields _ hd3
    have notLocals : a ≠ X.env.locals := fun z => notFrame (List.mem_filterMap.mpr ⟨X.env, List.mem_cons_self, hf.trans (congrArg some z.symm)⟩)
    have newB : B.get? a = none := fl3.2.1
    have newI : ∀ o, sI.heap.get? a ≠ some o := fun o e => by
      have z := nb a o e (by rw [hs]; exact notFrame)
      rw [newB] at z
      cases z
    refine wpAny_handleBy_cons (codeAny_handlers_test ?_) (by intro q; cases q)
    have typed : PySem.W.Looks (model X.prog X.w) h3 (typeOf (.ref a)) cls := fun A Q E s k q => wpAny_typeOf_ref (k _ _ he3) (by rw [hz3.1]; exact q)
    have matches_ := PySem.W.exm_one (M := model X.prog X.w) J3.kIn typed hmatch
    have named : ∀ {Q : Value → Shared → Prop} {E : Value → Shared → Prop}, Q c { s1 with heap := h3 } →
        wpAny (model X.prog X.w) (X.A.mark (some (.ref a))) (eval (.Name x np) X.env) Q E { s1 with heap := h3 } := by
      intro Q E q
      obtain ⟨g, dbg, m | ⟨m, bv, nn⟩⟩ := hc
      · exact ld_glob (X := X.suite a (X.pn ++ pins)) (into_suite a J3) g m q dbg
      · exact ld_blt (X := X.suite a (X.pn ++ pins)) (into_suite a J3) g m bv q nn dbg
    refine named (matches_.here (codeAny_handlers_suite_as (HandSPX.lands_againZ fl3 ?_)))
    intro h4 fl4 up4
    have J4 := J.landed (s' := { s1 with heap := h4 }) nb fl4.1 ((up.trans up3).trans up4) os bare
    obtain ⟨oe4, vs4, he4, hz4, hd4⟩ := fl4.there
    have T4 : L2.Inv X pins σ1 (upd H1 a (erk a cls d)) { s1 with heap := h4 } := by
      refine track J4 na ?_ notLocals (fun y cc e z => ?_) (fun p q z => ?_) (erk_ok he4 hz4 hd4)
      · cases e : X.s_0.heap.get? a with
        | none => rfl
        | some o =>
          obtain ⟨o', e'⟩ := J.base.there a o e (by rw [hex]; exact fun z => nomatch z)
          exact absurd e' (newI o')
      · obtain ⟨v, o, e1, _⟩ := J.cell y cc e
        rw [z] at e1
        exact newI o e1
      · have e1 := (J.pin p q).1
        rw [z] at e1
        exact newI _ e1
    refine store_ok (X := X.suite a (X.pn ++ pins)) (v := .ref a) (into_suite a T4) hN hi (.inl hln) rfl ?_ (.inr hln)
    intro s5 S5
    refine wpAny_mono ((hsu a (X.pn ++ pins)).run [] s5 _ _ _ S5 (hsuite a na)) ?_ fun _ _ z => z.elim
    intro f s6 done
    have leave : ∀ {σ6 : L2.St} {H6 : Hp} {Q : Shared → Prop}, L2.Inv (X.suite a (X.pn ++ pins)) [] σ6 H6 s6 → (∀ s7, L2.Inv X pins (σ6.set i none) H6 s7 → Q s7) →
        wpAny (model X.prog X.w) X.A (do bindName X.env n .none; unbindBehindTheSuite X.env n pos') (fun _ s7 => Q s7) X.xe s6 := fun S6 q => gone_ok (out_of_suite ok S6) hN hi hln q
    match f, done with
    | .next, ⟨_, _, S6, q⟩ => exact leave S6 fun s7 J7 => ⟨_, _, J7, q⟩
    | .brk, ⟨_, _, S6, q⟩ => exact leave S6 fun s7 J7 => ⟨_, _, J7, q⟩
    | .cont, ⟨_, _, S6, q⟩ => exact leave S6 fun s7 J7 => ⟨_, _, J7, q⟩
    | .ret u, ⟨v, _, _, S6, r, q⟩ => exact leave S6 fun s7 J7 => ⟨v, _, _, J7, r, q⟩
end
end K00
set_option Elab.async false
set_option linter.all false
set_option maxRecDepth 100000
set_option maxHeartbeats 4000000
namespace K00
open PySem PySem.Spec L2
def kD : Key → PyData
  | .inl i => .int i
  | .inr y => .str y
/-- the dict {None: 1} at a -/
def ndO (P : Program) (w : World) (a : Addr) : HO := .ext fun h => (a == sysModules) = false ∧ ∃ t, h.DictOf (noneKind P w) a [((none : Option Key), Value.int 1 t)]
theorem ndO_ok {P : Program} {w : World} {H : Hp} {h : Heap} {a : Addr} {t : Tok} (hs : (a == sysModules) = false) (d : h.DictOf (noneKind P w) a [((none : Option Key), Value.int 1 t)]) : ObjOk P w H h a (ndO P w a) := by
  refine ⟨⟨hs, t, d⟩, ?_, ?_⟩
  · obtain ⟨o, _, _, e, _⟩ := d
    exact ⟨o, e⟩
  · rintro h1 h2 ⟨z, t', o, es, ep, e, r⟩ k
    exact ⟨z, t', o, es, ep, k o e, r⟩
theorem ndO_at {P : Program} {w : World} {H : Hp} {h : Heap} {a : Addr} (hok : HOk P w H h) (e : H a = some (ndO P w a)) : (a == sysModules) = false ∧ ∃ t, h.DictOf (noneKind P w) a [((none : Option Key), Value.int 1 t)] := by
  have x : ObjOk P w H h a (.ext fun h => (a == sysModules) = false ∧ ∃ t, h.DictOf (noneKind P w) a [((none : Option Key), Value.int 1 t)]) := hok a _ e
  exact x.1
section
variable (P : Program) (w : World)
mutual
inductive Dat (H : Hp) : V → PyData → List Addr → Prop
  | non : Dat H .non .none []
  | bl (b : Bool) : Dat H (.bl b) (.bool b) []
  | int (i : Int) : Dat H (.int i) (.int i) []
  | str (x : Str) : Dat H (.str x) (.str x) []
  | lst {a : Addr} {xs : List V} {ds : List PyData} {as : List Addr} (h : H a = some (.lst xs)) (r : DatL H xs ds as) : Dat H (.ref a) (.list ds) (a :: as)
  | tup {a : Addr} {xs : List V} {ds : List PyData} {as : List Addr} (h : H a = some (.tup xs)) (r : DatL H xs ds as) : Dat H (.ref a) (.tuple ds) as
  | dic {a : Addr} {kvs : List (Key × V)} {es : List (PyData × PyData)} {as : List Addr} (h : H a = some (.dK kvs)) (r : DatK H kvs es as) : Dat H (.ref a) (.dict es) (a :: as)
  | nd {a : Addr} (h : H a = some (ndO P w a)) : Dat H (.ref a) (.dict [(.none, .int 1)]) [a]
inductive DatL (H : Hp) : List V → List PyData → List Addr → Prop
  | nil : DatL H [] [] []
  | cons {x : V} {xs : List V} {d : PyData} {ds : List PyData} {as bs : List Addr} (h : Dat H x d as) (r : DatL H xs ds bs) : DatL H (x :: xs) (d :: ds) (as ++ bs)
inductive DatK (H : Hp) : List (Key × V) → List (PyData × PyData) → List Addr → Prop
  | nil : DatK H [] [] []
  | cons {k : Key} {x : V} {kvs : List (Key × V)} {d : PyData} {es : List (PyData × PyData)} {as bs : List Addr} (h : Dat H x d as) (r : DatK H kvs es bs) : DatK H ((k, x) :: kvs) ((kD k, d) :: es) (as ++ bs)
end
end
section
variable {P : Program} {w : World}
mutual
theorem Dat.same {H H' : Hp} (k : ∀ b o, H b = some o → (∀ ps, o ≠ .tbl ps) → H' b = some o) : ∀ {x : V} {d : PyData} {as : List Addr}, Dat P w H x d as → Dat P w H' x d as
  | _, _, _, .non => .non
  | _, _, _, .bl b => .bl b
  | _, _, _, .int i => .int i
  | _, _, _, .str y => .str y
  | _, _, _, .lst h q => .lst (k _ _ h (fun _ z => nomatch z)) (DatL.same k q)
  | _, _, _, .tup h q => .tup (k _ _ h (fun _ z => nomatch z)) (DatL.same k q)
  | _, _, _, .dic h q => .dic (k _ _ h (fun _ z => nomatch z)) (DatK.same k q)
  | _, _, _, .nd h => .nd (k _ _ h (fun _ z => nomatch z))
theorem DatL.same {H H' : Hp} (k : ∀ b o, H b = some o → (∀ ps, o ≠ .tbl ps) → H' b = some o) : ∀ {xs : List V} {ds : List PyData} {as : List Addr}, DatL P w H xs ds as → DatL P w H' xs ds as
  | _, _, _, .nil => .nil
  | _, _, _, .cons h q => .cons (Dat.same k h) (DatL.same k q)
theorem DatK.same {H H' : Hp} (k : ∀ b o, H b = some o → (∀ ps, o ≠ .tbl ps) → H' b = some o) : ∀ {xs : List (Key × V)} {ds : List (PyData × PyData)} {as : List Addr}, DatK P w H xs ds as → DatK P w H' xs ds as
  | _, _, _, .nil => .nil
  | _, _, _, .cons h q => .cons (Dat.same k h) (DatK.same k q)
end
mutual
theorem Dat.ch {p : Addr} {H H' : Hp} (k : ∀ b o, b ≠ p → H b = some o → H' b = some o) (nt : ∀ xs, H p ≠ some (.tup xs)) : ∀ {x : V} {d : PyData} {as : List Addr}, Dat P w H x d as → p ∉ as → Dat P w H' x d as
  | _, _, _, .non, _ => .non
  | _, _, _, .bl b, _ => .bl b
  | _, _, _, .int i, _ => .int i
  | _, _, _, .str y, _ => .str y
  | _, _, _, .lst h q, n => .lst (k _ _ (fun e => n (e ▸ List.mem_cons_self)) h) (DatL.ch k nt q fun hm => n (List.mem_cons_of_mem _ hm))
  | _, _, _, .tup (a := a) h q, n => .tup (k _ _ (fun e => nt _ (e ▸ h)) h) (DatL.ch k nt q n)
  | _, _, _, .dic h q, n => .dic (k _ _ (fun e => n (e ▸ List.mem_cons_self)) h) (DatK.ch k nt q fun hm => n (List.mem_cons_of_mem _ hm))
  | _, _, _, .nd h, n => .nd (k _ _ (fun e => n (e ▸ List.mem_cons_self)) h)
theorem DatL.ch {p : Addr} {H H' : Hp} (k : ∀ b o, b ≠ p → H b = some o → H' b = some o) (nt : ∀ xs, H p ≠ some (.tup xs)) : ∀ {xs : List V} {ds : List PyData} {as : List Addr}, DatL P w H xs ds as → p ∉ as → DatL P w H' xs ds as
  | _, _, _, .nil, _ => .nil
  | _, _, _, .cons h q, n => .cons (Dat.ch k nt h fun hm => n (List.mem_append_left _ hm)) (DatL.ch k nt q fun hm => n (List.mem_append_right _ hm))
theorem DatK.ch {p : Addr} {H H' : Hp} (k : ∀ b o, b ≠ p → H b = some o → H' b = some o) (nt : ∀ xs, H p ≠ some (.tup xs)) : ∀ {xs : List (Key × V)} {ds : List (PyData × PyData)} {as : List Addr}, DatK P w H xs ds as → p ∉ as → DatK P w H' xs ds as
  | _, _, _, .nil, _ => .nil
  | _, _, _, .cons h q, n => .cons (Dat.ch k nt h fun hm => n (List.mem_append_left _ hm)) (DatK.ch k nt q fun hm => n (List.mem_append_right _ hm))
end
mutual
theorem Dat.old {H : Hp} : ∀ {x : V} {d : PyData} {as : List Addr} {b : Addr}, Dat P w H x d as → b ∈ as → ∃ D cs, Dat P w H (.ref b) D cs ∧ sizeOf D ≤ sizeOf d
  | _, _, _, _, .non, h => nomatch h
  | _, _, _, _, .bl _, h => nomatch h
  | _, _, _, _, .int _, h => nomatch h
  | _, _, _, _, .str _, h => nomatch h
  | _, _, _, _, .lst h q, hm => by
    rcases List.mem_cons.mp hm with e | hm
    · subst e
      exact ⟨_, _, .lst h q, Nat.le_refl _⟩
    · obtain ⟨D, cs, h1, h2⟩ := DatL.old q hm
      exact ⟨D, cs, h1, by simp only [PyData.list.sizeOf_spec]; omega⟩
  | _, _, _, _, .tup h q, hm => by
    obtain ⟨D, cs, h1, h2⟩ := DatL.old q hm
    exact ⟨D, cs, h1, by simp only [PyData.tuple.sizeOf_spec]; omega⟩
  | _, _, _, _, .dic h q, hm => by
    rcases List.mem_cons.mp hm with e | hm
    · subst e
      exact ⟨_, _, .dic h q, Nat.le_refl _⟩
    · obtain ⟨D, cs, h1, h2⟩ := DatK.old q hm
      exact ⟨D, cs, h1, by simp only [PyData.dict.sizeOf_spec]; omega⟩
  | _, _, _, b, .nd (a := a) h, hm => by
    have e : b = a := by simpa using hm
    subst e
    exact ⟨_, _, .nd h, Nat.le_refl _⟩
theorem DatL.old {H : Hp} : ∀ {xs : List V} {ds : List PyData} {as : List Addr} {b : Addr}, DatL P w H xs ds as → b ∈ as → ∃ D cs, Dat P w H (.ref b) D cs ∧ sizeOf D ≤ sizeOf ds
  | _, _, _, _, .nil, h => nomatch h
  | _, _, _, _, .cons h q, hm => by
    rcases List.mem_append.mp hm with hm | hm
    · obtain ⟨D, cs, h1, h2⟩ := Dat.old h hm
      exact ⟨D, cs, h1, by simp only [List.cons.sizeOf_spec]; omega⟩
    · obtain ⟨D, cs, h1, h2⟩ := DatL.old q hm
      exact ⟨D, cs, h1, by simp only [List.cons.sizeOf_spec]; omega⟩
theorem DatK.old {H : Hp} : ∀ {xs : List (Key × V)} {ds : List (PyData × PyData)} {as : List Addr} {b : Addr}, DatK P w H xs ds as → b ∈ as → ∃ D cs, Dat P w H (.ref b) D cs ∧ sizeOf D ≤ sizeOf ds
  | _, _, _, _, .nil, h => nomatch h
  | _, _, _, _, .cons h q, hm => by
    rcases List.mem_append.mp hm with hm | hm
    · obtain ⟨D, cs, h1, h2⟩ := Dat.old h hm
      exact ⟨D, cs, h1, by simp only [List.cons.sizeOf_spec, Prod.mk.sizeOf_spec]; omega⟩
    · obtain ⟨D, cs, h1, h2⟩ := DatK.old q hm
      exact ⟨D, cs, h1, by simp only [List.cons.sizeOf_spec]; omega⟩
end
theorem nd_ne {a : Addr} {kvs : List (Key × V)} : HO.dK kvs ≠ ndO P w a := fun z => by
  have z' : HO.dK kvs = HO.ext _ := z
  cases z'
mutual
theorem Dat.one {H : Hp} : ∀ {x : V} {d e : PyData} {as bs : List Addr}, Dat P w H x d as → Dat P w H x e bs → d = e
  | _, _, _, _, _, .non, h => by cases h; rfl
  | _, _, _, _, _, .bl b, h => by cases h; rfl
  | _, _, _, _, _, .int i, h => by cases h; rfl
  | _, _, _, _, _, .str y, h => by cases h; rfl
  | _, _, _, _, _, .lst h q, h' => by
    cases h' with
    | lst h2 q2 =>
      rw [h] at h2
      cases h2
      rw [DatL.one q q2]
    | tup h2 q2 => rw [h] at h2; cases h2
    | dic h2 q2 => rw [h] at h2; cases h2
    | nd h2 => rw [h] at h2; exact nomatch (Option.some.inj h2 : HO.lst _ = HO.ext _)
  | _, _, _, _, _, .tup h q, h' => by
    cases h' with
    | lst h2 q2 => rw [h] at h2; cases h2
    | tup h2 q2 =>
      rw [h] at h2
      cases h2
      rw [DatL.one q q2]
    | dic h2 q2 => rw [h] at h2; cases h2
    | nd h2 => rw [h] at h2; exact nomatch (Option.some.inj h2 : HO.tup _ = HO.ext _)
  | _, _, _, _, _, .dic h q, h' => by
    cases h' with
    | lst h2 q2 => rw [h] at h2; cases h2
    | tup h2 q2 => rw [h] at h2; cases h2
    | dic h2 q2 =>
      rw [h] at h2
      cases h2
      rw [DatK.one q q2]
    | nd h2 => rw [h] at h2; exact absurd (Option.some.inj h2) nd_ne
  | _, _, _, _, _, .nd h, h' => by
    cases h' with
    | lst h2 q2 => rw [h] at h2; exact nomatch (Option.some.inj h2 : HO.ext _ = HO.lst _)
    | tup h2 q2 => rw [h] at h2; exact nomatch (Option.some.inj h2 : HO.ext _ = HO.tup _)
    | dic h2 q2 => rw [h] at h2; exact absurd (Option.some.inj h2).symm nd_ne
    | nd h2 => rfl
theorem DatL.one {H : Hp} : ∀ {xs : List V} {ds es : List PyData} {as bs : List Addr}, DatL P w H xs ds as → DatL P w H xs es bs → ds = es
  | _, _, _, _, _, .nil, h => by cases h; rfl
  | _, _, _, _, _, .cons h q, h' => by
    cases h' with
    | cons h2 q2 => rw [Dat.one h h2, DatL.one q q2]
theorem DatK.one {H : Hp} : ∀ {xs : List (Key × V)} {ds es : List (PyData × PyData)} {as bs : List Addr}, DatK P w H xs ds as → DatK P w H xs es bs → ds = es
  | _, _, _, _, _, .nil, h => by cases h; rfl
  | _, _, _, _, _, .cons h q, h' => by
    cases h' with
    | cons h2 q2 => rw [Dat.one h h2, DatK.one q q2]
end
/-- no dict stands within its own values -/
theorem Dat.apart {H : Hp} {a : Addr} {kvs : List (Key × V)} {es : List (PyData × PyData)} {as : List Addr} (h : H a = some (.dK kvs)) (q : DatK P w H kvs es as) : a ∉ as := fun hm => by
  obtain ⟨D, cs, h1, h2⟩ := DatK.old q hm
  have e := Dat.one h1 (.dic h q)
  rw [e] at h2
  simp only [PyData.dict.sizeOf_spec] at h2
  omega
end
end K00
set_option Elab.async false
set_option linter.all false
set_option maxRecDepth 100000
set_option maxHeartbeats 4000000
namespace K00
open PySem PySem.Spec L2
/-- at 1 stands a dict of the module's start -/
def Sys (K : PySem.W.Frag) : Prop := ∃ o, K.lookup sysModules = some o ∧ o.cls = .type "dict"
theorem nk_none' {v : Value} (h : nkIs none v = true) : v = .none := nk_none h
section
variable {X : Cx} {pins : List (Addr × Obj)} {σ : L2.St} {H : Hp} {s : Shared}
mutual
theorem Dat.reads (I : L2.Inv X pins σ H s) (S : Sys X.K) : ∀ {x : V} {d : PyData} {as : List Addr} {u : Value}, Dat X.prog X.w H x d as → RelV x u → Reads s.heap u d as ∧ sysModules ∉ as
  | _, _, _, u, .non, r => by cases (show u = Value.none from r); exact ⟨.none, by simp⟩
  | _, _, _, u, .bl b, r => by cases (show u = Value.bool b from r); exact ⟨.bool b, by simp⟩
  | _, _, _, u, .int i, r => by obtain ⟨t, e⟩ := (show ∃ t, u = Value.int i t from r); cases e; exact ⟨.int i t, by simp⟩
  | _, _, _, u, .str y, r => by obtain ⟨t, e⟩ := (show ∃ t, u = Value.str y t from r); cases e; exact ⟨.str y t, by simp⟩
  | _, _, _, u, .lst (a := a) (xs := xs) h q, r => by
    cases (show u = Value.ref a from r)
    obtain ⟨_, its, n, rv, e⟩ := (show ObjOk X.prog X.w H s.heap a (.lst xs) from I.hok a _ h)
    obtain ⟨z, ns⟩ := DatL.reads I S q rv
    refine ⟨.list e rfl rfl (by simpa using z), fun hm => ?_⟩
    rcases List.mem_cons.mp hm with hm | hm
    · obtain ⟨o, ho, hc⟩ := S
      have e2 := I.kIn _ _ ho
      rw [hm, e] at e2
      rw [← Option.some.inj e2] at hc
      exact absurd hc (by intro z; injection z with z; exact absurd z (by decide))
    · exact ns hm
  | _, _, _, u, .tup (a := a) (xs := xs) h q, r => by
    cases (show u = Value.ref a from r)
    obtain ⟨_, its, rv, o, h1, h2, n, h3⟩ := (show ObjOk X.prog X.w H s.heap a (.tup xs) from I.hok a _ h)
    obtain ⟨z, ns⟩ := DatL.reads I S q rv
    exact ⟨.tuple h1 h2 h3 (by simpa using z), ns⟩
  | _, _, _, u, .dic (a := a) (kvs := kvs) h q, r => by
    cases (show u = Value.ref a from r)
    obtain ⟨_, hs, vs, kv, o, es, ep, h1, h2, h3, _, h5, _⟩ := (show ObjOk X.prog X.w H s.heap a (.dK kvs) from I.hok a _ h)
    obtain ⟨z1, z2, ns⟩ := DatK.reads I S q kv h5
    refine ⟨.dict (as := []) h1 h2.1 h3 z1 z2, fun hm => ?_⟩
    rcases List.mem_cons.mp hm with hm | hm
    · exact absurd hm.symm (beq_eq_false_iff_ne.mp hs)
    · exact ns hm
  | _, _, _, u, .nd (a := a) h, r => by
    cases (show u = Value.ref a from r)
    obtain ⟨hs, t, o, es, ep, h1, h2, h3, _, h5, _⟩ := ndO_at I.hok h
    obtain ⟨esl⟩ := es
    cases h5 with
    | @cons en kv' es' kvs' p1 p2 p3 =>
      cases p3
      have e1 : en.key = .none := nk_none' p1
      have e2 : en.val = Value.int 1 t := p2
      refine ⟨.dict (as := []) (bs := []) h1 h2.1 h3 ?_ ?_, fun hm => ?_⟩
      · show ReadsAll s.heap [en.key] [PyData.none] ([] ++ [])
        rw [e1]
        exact .cons .none .nil
      · show ReadsAll s.heap [en.val] [PyData.int 1] ([] ++ [])
        rw [e2]
        exact .cons (.int 1 t) .nil
      · have e : sysModules = a := by simpa using hm
        exact absurd e.symm (beq_eq_false_iff_ne.mp hs)
theorem DatL.reads (I : L2.Inv X pins σ H s) (S : Sys X.K) : ∀ {xs : List V} {ds : List PyData} {as : List Addr} {us : List Value}, DatL X.prog X.w H xs ds as → Vals xs us → ReadsAll s.heap us ds as ∧ sysModules ∉ as
  | _, _, _, _, .nil, r => by cases r; exact ⟨.nil, by simp⟩
  | _, _, _, _, .cons h q, r => by
    cases r with
    | cons r1 r2 =>
      obtain ⟨z1, n1⟩ := Dat.reads I S h r1
      obtain ⟨z2, n2⟩ := DatL.reads I S q r2
      exact ⟨.cons z1 z2, fun hm => by
        rcases List.mem_append.mp hm with hm | hm
        · exact n1 hm
        · exact n2 hm⟩
theorem DatK.reads (I : L2.Inv X pins σ H s) (S : Sys X.K) : ∀ {kvs : List (Key × V)} {ds : List (PyData × PyData)} {as : List Addr} {vs : List (Key × Value)} {es : List DictEntry}, DatK X.prog X.w H kvs ds as → KV kvs vs → Pairs (mixKind X.prog X.w) es vs →
    ReadsAll s.heap (es.map (·.key)) (ds.map (·.1)) [] ∧ ReadsAll s.heap (es.map (·.val)) (ds.map (·.2)) as ∧ sysModules ∉ as
  | _, _, _, _, _, .nil, r, p => by
    cases r
    cases p
    exact ⟨.nil, .nil, by simp⟩
  | _, _, _, _, _, .cons (k := k) (x := x) h q, r, p => by
    cases r with
    | @cons aa bb l1 l2 c t =>
      obtain ⟨k', u⟩ := bb
      obtain ⟨c1, c2⟩ := c
      have c1' : k = k' := c1
      subst c1'
      cases p with
      | @cons en kv' es' kvs' p1 p2 p3 =>
        obtain ⟨z1, n1⟩ := Dat.reads I S h (show RelV x u from c2)
        obtain ⟨y1, y2, n2⟩ := DatK.reads I S q t p3
        have p1' : keyIs k en.key = true := p1
        have p2' : en.val = u := p2
        refine ⟨?_, ?_, fun hm => ?_⟩
        · rcases keyIs_shape p1' with ⟨i, tt, rfl, ek⟩ | ⟨y, tt, rfl, ek⟩
          · show ReadsAll s.heap (en.key :: es'.map (·.key)) (PyData.int i :: _) ([] ++ [])
            rw [ek]
            exact .cons (.int i tt) y1
          · show ReadsAll s.heap (en.key :: es'.map (·.key)) (PyData.str y :: _) ([] ++ [])
            rw [ek]
            exact .cons (.str y tt) y1
        · show ReadsAll s.heap (en.val :: es'.map (·.val)) (_ :: _) _
          rw [p2']
          exact .cons z1 y2
        · rcases List.mem_append.mp hm with hm | hm
          · exact n1 hm
          · exact n2 hm
end
/-- data that repr shows within small bounds -/
def goodB (d : PyData) : Bool := d.showable && (Nat.ble d.shown.length 1000000 && Nat.ble d.depth 40)
def Data (P : Program) (w : World) (H : Hp) (x : V) (d : PyData) : Prop := ∃ as, Dat P w H x d as
def rRepr (P : Program) (w : World) : List V → Hp → VK → Prop := fun xs H Q => ∃ (x : V) (d : PyData), xs = [x] ∧ Data P w H x d ∧ goodB d = true ∧ Q (.str d.shown) H
theorem big1 {n : Nat} (h : n ≤ 1000000) : n ≤ sizeLine := Nat.le_trans h (by decide)
theorem call_repr (S : Sys X.K) (hg : X.A.guards = some []) (hu : X.A.units + 50 < cLine) : CallR X (.builtin "repr") (rRepr X.prog X.w) := by
  intro pins s σ H xs us Q I r h
  obtain ⟨x, d, rfl, ⟨as, hd⟩, hgd, q⟩ := h
  cases r with
  | cons r1 r2 =>
    cases r2
    obtain ⟨z, ns⟩ := hd.reads I S r1
    obtain ⟨g1, g2⟩ := He.ba hgd
    obtain ⟨g2, g3⟩ := He.ba g2
    have hsz : d.shown.length ≤ sizeLine := big1 (Nat.le_of_ble_eq_true g2)
    have g3' : d.depth ≤ 40 := Nat.le_of_ble_eq_true g3
    cases z with
    | none => exact PySem.P.repr_of_none ⟨.str _, H, I.tok _, ⟨_, by simp only [PyData.shown]; rfl⟩, q⟩
    | bool b => exact PySem.P.repr_of_bool ⟨.str _, H, I.tok _, ⟨_, by simp only [PyData.shown]; rfl⟩, q⟩
    | int i t => exact PySem.P.repr_of_int (by simpa [PyData.showable] using g1) ⟨.str _, H, I.tok _, ⟨_, by simp only [PyData.shown]; rfl⟩, q⟩
    | str y t => exact PySem.P.repr_of_str ⟨.str _, H, I.tok _, ⟨_, by simp only [PyData.shown]; rfl⟩, q⟩ (by simpa only [PyData.shown] using hsz)
    | list h1 h2 h3 h4 => exact repr_of_reads' (.list h1 h2 h3 h4) g1 (fun _ => ns) hg (by omega) (fun _ _ e => e) (fun h' u tk hk => ⟨.str _, H, I.kept (t' := tk) hk, ⟨_, rfl⟩, q⟩) hsz
    | tuple h1 h2 h3 h4 => exact repr_of_reads' (.tuple h1 h2 h3 h4) g1 (fun _ => ns) hg (by omega) (fun _ _ e => e) (fun h' u tk hk => ⟨.str _, H, I.kept (t' := tk) hk, ⟨_, rfl⟩, q⟩) hsz
    | dict h1 h2 h3 h4 h5 => exact repr_of_reads' (.dict h1 h2 h3 h4 h5) g1 (fun _ => ns) hg (by omega) (fun _ _ e => e) (fun h' u tk hk => ⟨.str _, H, I.kept (t' := tk) hk, ⟨_, rfl⟩, q⟩) hsz
/-- the class of data -/
def tyD : PyData → String
  | .none => "NoneType"
  | .bool _ => "bool"
  | .int _ => "int"
  | .str _ => "str"
  | .list _ => "list"
  | .tuple _ => "tuple"
  | .dict _ => "dict"
theorem kit_data (I : L2.Inv X pins σ H s) {x : V} {d : PyData} {as : List Addr} {u : Value} (h : Dat X.prog X.w H x d as) (r : RelV x u) :
    ∃ Q : Heap → Prop, PySem.W.KitX X.K u (.type (tyD d)) Q ∧ Q s.heap ∧ u ≠ .builtin "__main__.__loader__#opaque" := by
  cases h with
  | non => cases (show u = Value.none from r); exact ⟨_, PySem.W.kitx_none, True.intro, fun z => nomatch z⟩
  | bl b => cases (show u = Value.bool b from r); exact ⟨_, PySem.W.kitx_bool, True.intro, fun z => nomatch z⟩
  | int i => obtain ⟨t, e⟩ := (show ∃ t, u = Value.int i t from r); cases e; exact ⟨_, PySem.W.kitx_int, True.intro, fun z => nomatch z⟩
  | str y => obtain ⟨t, e⟩ := (show ∃ t, u = Value.str y t from r); cases e; exact ⟨_, PySem.W.kitx_str, True.intro, fun z => nomatch z⟩
  | @lst a xs ds as h q =>
    cases (show u = Value.ref a from r)
    obtain ⟨_, its, n, rv, e⟩ := (show ObjOk X.prog X.w H s.heap a (.lst xs) from I.hok a _ h)
    exact ⟨_, PySem.W.kitx_list, ⟨_, e, rfl⟩, fun z => nomatch z⟩
  | @tup a xs ds as h q =>
    cases (show u = Value.ref a from r)
    obtain ⟨_, its, rv, o, h1, h2, n, h3⟩ := (show ObjOk X.prog X.w H s.heap a (.tup xs) from I.hok a _ h)
    exact ⟨_, PySem.W.kitx_tuple, ⟨o, h1, h2⟩, fun z => nomatch z⟩
  | @dic a kvs es as h q =>
    cases (show u = Value.ref a from r)
    obtain ⟨_, hs, vs, kv, o, es, ep, h1, h2, _⟩ := (show ObjOk X.prog X.w H s.heap a (.dK kvs) from I.hok a _ h)
    exact ⟨_, PySem.W.kitx_dict, ⟨o, h1, h2.1⟩, fun z => nomatch z⟩
  | @nd a h =>
    cases (show u = Value.ref a from r)
    obtain ⟨hs, t, o, es, ep, h1, h2, _⟩ := ndO_at I.hok h
    exact ⟨_, PySem.W.kitx_dict, ⟨o, h1, h2.1⟩, fun z => nomatch z⟩
/-- isinstance(x, T), x data, T a built-in class -/
def rIsD (P : Program) (w : World) : List V → Hp → VK → Prop := fun xs H Q => ∃ (x : V) (T : String) (d : PyData) (b : Bool), xs = [x, .ty T] ∧ Data P w H x d ∧ kitB (tyD d) T = some b ∧ Q (.bl b) H
theorem call_isD : CallR X (.builtin "isinstance") (rIsD X.prog X.w) := by
  intro pins s σ H xs us Q I r h
  obtain ⟨x, T, d, b, rfl, ⟨as, hd⟩, e, q⟩ := h
  obtain ⟨u1, u2, rfl, r1, r2⟩ := vals2 r
  have e2 : u2 = .type T := r2
  subst e2
  obtain ⟨Q', Z, p, hx⟩ := kit_data I hd r1
  exact PySem.W.kia_one Z I.kIn p (kit_ty e) hx fun tk => ⟨.bl b, H, I.tok tk, rfl, q⟩
end
end K00
set_option Elab.async false
set_option linter.all false
set_option maxRecDepth 100000
set_option maxHeartbeats 4000000
/-! K00F: promises of defs that are called where no repr is under way. -/
namespace K00
open PySem PySem.Spec L2
open PyProof.Rows (envOfC)
/-- as a def's promise, for calls outside of every repr -/
structure FnG (P : Program) (w : World) (K : PySem.W.Frag) (mg : Str → Option Value) (base : Heap) (k : Nat) (f : Addr) (fd : FuncData) (ps : List Str) (sp : Sp) : Prop where
  len : ∀ vs H Q E, sp vs H Q E → vs.length = ps.length
  run : ∀ (A : Around) (outer : List Env) (s : Shared) (H : Hp) (args : Args) (us : List Value) (vs : List V) (Q : VK) (E : XK), A.guards = some [] → Room k A →
    Env0 P w K mg base A outer s H → BindsTo s fd args (ps.zip us) → Vals vs us → sp vs H Q E → codeAny (model P w) A (.call (.ref f) args) (CR CX0 outer P w H s Q E) s
section
variable {P : Program} {w : World} {K : PySem.W.Frag} {mg : Str → Option Value} {base : Heap}
theorem fnG_of {k : Nat} {f : Addr} {x : Str} {st : Stmt} {fd : FuncData} {N ps : List Str} {sp : Sp} (F : FunD K x x (defArgs st) (defBody st) (defScope st) [] [] f fd) (S : FnScope N ps (defScope st))
    (len : ∀ vs H Q E, sp vs H Q E → vs.length = ps.length)
    (body : ∀ (cdv : Value) (A : Around) (outer : List Env) (s : Shared) (H : Hp) (vs : List V) (Q : VK) (E : XK), A.guards = some [] → Room k (A.deeper (envOfC x (defScope st) s.heap.objs.size f cdv)) → sp vs H Q E →
      ∃ t, PSs (cxOf CX0 P w K mg base N x (defScope st) f cdv A outer s H E) (defBody st) t ∧ t { nx := fun _ H' => Q .non H', rt := Q } (start N vs) H) :
    FnG P w K mg base (k + 1) f fd ps sp := by
  refine ⟨len, ?_⟩
  intro A outer s H args us vs Q E hgd hr e0 hb r hsp
  obtain ⟨oc, od, dV, kV, doc, pm, an, cdv, ct, osl, rfl, lk, hcd, _, _⟩ := F.ex
  have stands := fun b o (e : base.get? b = some o) => (e0.bs b o e).1
  have inK : K.In s.heap := e0.mod.kin.keeps stands
  have size_ := len _ _ _ _ hsp
  have params : ∀ y ∈ ps.zip us, (defScope st).names.lookup y.1 = some .local ∨
      ((defScope st).names.lookup y.1 = some .cell ∧ ((cellsFrom (s.heap.objs.size + 1) (defScope st).names []).lookup y.1).isSome = true) := by
    rintro ⟨n, v⟩ hy
    exact (S.par n (List.of_mem_zip hy).1).imp id fun q => ⟨q, PySem.W.cellsFrom_some _ _ _ (Or.inl q)⟩
  refine codeAny_call_function hr.depth (inK _ _ lk) rfl S.co S.gen rfl
    (PySem.W.codeRec_of inK hcd) (hb _ _ _ _ (wpAny_newFunctionEnv_cells S.kind params ?_))
  intro env he s1 x
  subst he
  obtain ⟨t, ht, hq⟩ := body cdv A outer s H vs Q E hgd (hr.deeper _) hsp
  have I := inv_start (CX := CX0) (E := E) (qual := _) S hr.hd e0 size_ r x
  refine ⟨(e0.mod.nolimit.keeps stands).keeps x.toInCall.keep, codeAny_func (wpAny_mono (ht.run [] s1 _ H _ I hq) ?_ fun _ _ z => z)⟩
  intro fl s' hs
  match fl, hs with
  | .ret u, ⟨v, σ', H', J, rv, q⟩ => exact ⟨v, H', J.os, J.bare, J.base, J.hok, rv, q⟩
  | .next, ⟨σ', H', J, q⟩ => exact ⟨V.non, H', J.os, J.bare, J.base, J.hok, rfl, q⟩
  | .brk, ⟨_, _, _, q⟩ => exact q.elim
  | .cont, ⟨_, _, _, q⟩ => exact q.elim
end
section
variable {X : Cx}
theorem pe_callG {k : Nat} {f : Addr} {fd : FuncData} {ps : List Str} {sp : Sp} {e : Expr} {es : List Expr} {t : TA} {x : Str} {p pos : Pos} (F : FnG X.prog X.w X.K X.mg X.base k f fd ps sp) (hgd : X.A.guards = some []) (hr : Room k X.A) (hm : X.mg x = some (.ref f))
    (hk : PySem.W.keepIn X.K (.ref f) = true) (hb : Binds X.K fd ps []) (ha : PA X (e :: es) t) (hg : Gl X x := by rfl) (hdb : (x == ("__debug__" : Str)) = false := by decide)
    (he : starEach (e :: es) X.env = (false, eval e X.env) :: starEach es X.env := by rfl) (hpl : (backTo pos (starEach es X.env)).any (·.1) = false := by rfl) :
    PE X (.Call (.Name x p) (e :: es) [] pos) (tCall sp [] E0 t) := by
  refine ⟨fun pins s σ H Q I h => wpAny_Call_Name_kw (ld_glob I hg hm ?_ hdb)⟩
  refine PySem.W.callWith_K (h₀ := X.base) I.ok.mod.kin hk (thn (ha.run pos pins s σ H _ I h) fun us s1 hu => ?_) he hpl
  obtain ⟨vs, H1, J, r, q⟩ := hu
  refine ⟨J.kIn, ?_⟩
  have rr : Vals (vs ++ []) (us ++ []) := r.append .nil
  have hl : (us ++ []).length = ps.length := rr.length.symm.trans (F.len _ _ _ _ q)
  refine wpAny_call (codeAny_mono (F.run X.A X.stack s1 H1 ⟨us, []⟩ _ _ Q E0 hgd hr J.env0 (hb s1 us J.kIn hl) rr q) ?_)
  intro res s2 h2
  match res, h2 with
  | .ok (.ret u), h2 => exact J.after h2
  | .ok .next, h2 => exact h2.elim
  | .ok .brk, h2 => exact h2.elim
  | .ok .cont, h2 => exact h2.elim
  | .error e', h2 => exact h2.elim
end
end K00
set_option Elab.async false
set_option linter.all false
set_option maxRecDepth 100000
set_option maxHeartbeats 4000000
/-! K00G: list(zip(a, b)) of two lists, as a value. -/
namespace K00Z
open PySem PySem.Calls PyProof.Rows
theorem zip_no_len : typeLookup (.type "zip") "__len__" = pure none := am_miss_of_fast (by decide +kernel)
theorem zip_no_hint : typeLookup (.type "zip") "__length_hint__" = pure none := am_miss_of_fast (by decide +kernel)
section
variable {prog : Program} {w : World} {A : Around} {E : Value → Shared → Prop} {s : Shared} {R : Result → Shared → Prop} {z TI TO i1 i2 l1 l2 S : Addr} {xs ys : Array Value}
/-- the zip at z has given out i pairs -/
structure ZSt (h : Heap) (z TI TO i1 i2 l1 l2 S : Addr) (i : Nat) (xs ys : Array Value) : Prop where
  ti : IsPair h TI (.ref i1) (.ref i2)
  h1 : h.IsListIter i1 l1 i
  h2 : h.IsListIter i2 l2 i
  l1 : h.IsList l1 xs
  l2 : h.IsList l2 ys
  zz : (IsZip h z TI TO .none ∧ ∃ a b, IsPair h TO a b) ∨ ∃ T f oT, IsZipHeld h z TI TO T f ∧ h.get? T = some oT ∧ T ≠ z ∧ T ≠ i1 ∧ T ≠ i2 ∧ T ≠ S
/-- S stands apart from all of the zip's -/
structure Off (z TI TO i1 i2 l1 l2 S : Addr) : Prop where
  z : z ≠ S
  ti : TI ≠ S
  to : TO ≠ S
  i1 : i1 ≠ S
  i2 : i2 ≠ S
  l1 : l1 ≠ S
  l2 : l2 ≠ S
theorem ZSt.keep {h h' : Heap} {i : Nat} (x : ZSt h z TI TO i1 i2 l1 l2 S i xs ys) (O : Off z TI TO i1 i2 l1 l2 S) (hk : ∀ b o, b ≠ S → h.get? b = some o → h'.get? b = some o) : ZSt h' z TI TO i1 i2 l1 l2 S i xs ys where
  ti := hk _ _ O.ti x.ti
  h1 := x.h1.at fun o e => hk _ o O.i1 e
  h2 := x.h2.at fun o e => hk _ o O.i2 e
  l1 := x.l1.at fun o e => hk _ o O.l1 e
  l2 := x.l2.at fun o e => hk _ o O.l2 e
  zz := by
    rcases x.zz with ⟨hz, a, b, hTO⟩ | ⟨T, f, oT, hz, hT, r1, r2, r3, r4⟩
    · exact .inl ⟨hk _ _ O.z hz, a, b, hk _ _ O.to hTO⟩
    · exact .inr ⟨T, f, oT, hk _ _ O.z hz, hk _ _ r4 hT, r1, r2, r3, r4⟩
theorem zl_item {i : Nat} {x y : Value} {Q : Option Value → Shared → Prop} (D : ZipApart z TI TO i1 i2 l1 l2) (O : Off z TI TO i1 i2 l1 l2 S) (st : ZSt s.heap z TI TO i1 i2 l1 l2 S i xs ys) (hS : S < s.heap.objs.size) (ex : xs[i]? = some x) (ey : ys[i]? = some y)
    (hQ : ∀ h', ZSt h' z TI TO i1 i2 l1 l2 S (i + 1) xs ys → IsPair h' s.heap.objs.size x y → (∀ c o, c ≠ z → c ≠ TO → c ≠ i1 → c ≠ i2 → s.heap.get? c = some o → h'.get? c = some o) → Q (some (.ref s.heap.objs.size)) { s with heap := h' }) :
    wpAny (model prog w) A (pyNext (.ref z)) Q E s := by
  obtain ⟨hTI, h1, h2, hl1, hl2, hz⟩ := st
  have lt : ∀ {c o}, s.heap.get? c = some o → s.heap.objs.size ≠ c := fun e => Nat.ne_of_gt (Heap.lt_size e)
  have n1 : s.heap.objs.size ≠ i1 := let ⟨_, e, _⟩ := h1; lt e
  have n2 : s.heap.objs.size ≠ i2 := let ⟨_, e, _⟩ := h2; lt e
  rcases hz with ⟨hz, a, b, hTO⟩ | ⟨T, f, oT, hz, hT, r1, r2, r3, r4⟩
  · refine wpAny_pyNext_zip_item D hz hTI hTO h1 h2 hl1 hl2 ex ey fun h' a1 a2 a3 a4 a5 a6 hk => ?_
    exact hQ h' ⟨hk _ _ D.TIz D.TITO D.TIi1 D.TIi2 hTI, a3, a4, hl1.at fun o e => hk _ o D.l1z D.l1TO D.l1i1 D.l1i2 e, hl2.at fun o e => hk _ o D.l2z D.l2TO D.l2i1 D.l2i2 e,
      .inr ⟨s.heap.objs.size, false, _, a1, a5, lt hz, n1, n2, Nat.ne_of_gt hS⟩⟩ a5 hk
  · refine wpAny_pyNext_zip_item_held D hz hT hTI h1 h2 hl1 hl2 ex ey fun h' a1 a3 a4 a5 a6 hk => ?_
    exact hQ h' ⟨hk _ _ D.TIz D.TIi1 D.TIi2 hTI, a3, a4, hl1.at fun o e => hk _ o D.l1z D.l1i1 D.l1i2 e, hl2.at fun o e => hk _ o D.l2z D.l2i1 D.l2i2 e,
      .inr ⟨T, true, oT, a1, hk _ _ r1 r2 r3 hT, r1, r2, r3, r4⟩⟩ a5 fun c o c1 _ c3 c4 e => hk c o c1 c3 c4 e
theorem zl_done {i : Nat} {Q : Option Value → Shared → Prop} (hh : A.handled = none) (D : ZipApart z TI TO i1 i2 l1 l2) (st : ZSt s.heap z TI TO i1 i2 l1 l2 S i xs ys) (ex : xs[i]? = none ∨ ys[i]? = none)
    (hQ : ∀ h', (∀ c o, c ≠ z → c ≠ TO → c ≠ i1 → c ≠ i2 → s.heap.get? c = some o → h'.get? c = some o) → Q none { s with heap := h' }) :
    wpAny (model prog w) A (pyNext (.ref z)) Q E s := by
  obtain ⟨hTI, h1, h2, hl1, hl2, hz⟩ := st
  rcases hz with ⟨hz, a, b, hTO⟩ | ⟨T, f, oT, hz, hT, r1, r2, r3, r4⟩
  · exact wpAny_pyNext_zip_end hh D hz hTI hTO h1 h2 hl1 hl2 ex fun h' hk => hQ h' hk
  · exact wpAny_pyNext_zip_end_held hh D hz hT hTI h1 h2 hl1 hl2 ex fun h' hk => hQ h' fun c o c1 _ c3 c4 e => hk c o c1 c3 c4 e
/-- the tuples made so far -/
structure ZG (xs ys : Array Value) (lo : Addr) (h : Heap) (as : List Addr) : Prop where
  rise : as.Pairwise (· < ·)
  above : ∀ a ∈ as, lo < a
  pairs : ∀ (j : Nat) (a : Addr), as[j]? = some a → ∃ x y, xs[j]? = some x ∧ ys[j]? = some y ∧ IsPair h a x y
theorem ZG.there {lo : Addr} {h : Heap} {as : List Addr} (g : ZG xs ys lo h as) {a : Addr} (ha : a ∈ as) : a < h.objs.size := by
  obtain ⟨j, hj⟩ := List.mem_iff_getElem?.mp ha
  obtain ⟨_, _, _, _, e⟩ := g.pairs j a hj
  exact Heap.lt_size e
structure Below (z TI TO i1 i2 l1 l2 S : Addr) : Prop where
  z : z < S
  ti : TI < S
  to : TO < S
  i1 : i1 < S
  i2 : i2 < S
  l1 : l1 < S
  l2 : l2 < S
theorem Below.off (B : Below z TI TO i1 i2 l1 l2 S) : Off z TI TO i1 i2 l1 l2 S := ⟨Nat.ne_of_lt B.z, Nat.ne_of_lt B.ti, Nat.ne_of_lt B.to, Nat.ne_of_lt B.i1, Nat.ne_of_lt B.i2, Nat.ne_of_lt B.l1, Nat.ne_of_lt B.l2⟩
theorem zl_loop (hh : A.handled = none) (D : ZipApart z TI TO i1 i2 l1 l2) (B : Below z TI TO i1 i2 l1 l2 S) (hxy : xs.size = ys.size) (hn : xs.size ≤ sizeLine) (res : Value) {h₁ : Heap}
    (hR : ∀ h' tk acc c as, (∀ b o, b ≠ S → b ≠ z → b ≠ TO → b ≠ i1 → b ≠ i2 → h₁.get? b = some o → h'.get? b = some o) → h'.get? S = some { cls := .type "list", dict := none, data := .seq acc c, slots := #[] } → as.length = xs.size → ZG xs ys S h' as →
      acc.toList = as.map Value.ref → R (.ok (.ret res)) { s with heap := h', toks := tk }) :
    ∀ (k i : Nat) (h : Heap) (tk c : Nat) (acc : Array Value) (as : List Addr), xs.size - i = k → i ≤ xs.size → ZSt h z TI TO i1 i2 l1 l2 S i xs ys → (∀ b o, b ≠ S → b ≠ z → b ≠ TO → b ≠ i1 → b ≠ i2 → h₁.get? b = some o → h.get? b = some o) →
      h.get? S = some { cls := .type "list", dict := none, data := .seq acc c, slots := #[] } → acc.toList = as.map Value.ref → as.length = i → ZG xs ys S h as →
      codeAny (model prog w) A (.builtin "list.extend.loop" ⟨[.ref S, .ref z, res], []⟩) R { s with heap := h, toks := tk } := by
  have O := B.off
  intro k
  induction k with
  | zero =>
    intro i h tk c acc as hk hi hst hkeep hS hacc hal hG
    have hin : i = xs.size := by omega
    refine codeAny_builtin PySem.F.entry_extend_loop ?_
    rw [Around.under_plainId PySem.F.plain_extend_loop _]
    show wpAny _ A.in1 (pyNext (.ref z) >>= _) _ _ _
    refine wpAny_bind (zl_done (s := { s with heap := h, toks := tk }) (A := A.in1) hh D hst (.inl (Array.getElem?_eq_none (by omega))) fun h' he => ?_)
    refine wpAny_pure (hR h' tk acc c as (fun b o h1 h2 h3 h4 h5 e => he b o h2 h3 h4 h5 (hkeep b o h1 h2 h3 h4 h5 e)) (he S _ (Ne.symm O.z) (Ne.symm O.to) (Ne.symm O.i1) (Ne.symm O.i2) hS) (by omega) ⟨hG.rise, hG.above, fun j a hj => ?_⟩ hacc)
    obtain ⟨x, y, e1, e2, e3⟩ := hG.pairs j a hj
    have ha := hG.above a (List.mem_of_getElem? hj)
    exact ⟨x, y, e1, e2, he a _ (Nat.ne_of_gt (Nat.lt_trans B.z ha)) (Nat.ne_of_gt (Nat.lt_trans B.to ha)) (Nat.ne_of_gt (Nat.lt_trans B.i1 ha)) (Nat.ne_of_gt (Nat.lt_trans B.i2 ha)) e3⟩
  | succ k ih =>
    intro i h tk c acc as hk hi hst hkeep hS hacc hal hG
    have hlt : i < xs.size := by omega
    have hlt2 : i < ys.size := by omega
    have ex := Array.getElem?_eq_getElem hlt
    have ey := Array.getElem?_eq_getElem hlt2
    have hsz : acc.size = i := by rw [← Array.length_toList, hacc, List.length_map, hal]
    have hSl : S < h.objs.size := Heap.lt_size hS
    refine codeAny_builtin PySem.F.entry_extend_loop ?_
    rw [Around.under_plainId PySem.F.plain_extend_loop _]
    show wpAny _ A.in1 (pyNext (.ref z) >>= _) _ _ _
    refine wpAny_bind (zl_item (s := { s with heap := h, toks := tk }) D O hst hSl ex ey fun h' hst' ht hkp => ?_)
    dsimp only at ht hkp ⊢
    have hS' := hkp S _ (Ne.symm O.z) (Ne.symm O.to) (Ne.symm O.i1) (Ne.symm O.i2) hS
    have up : ∀ b o, b ≠ S → h'.get? b = some o → (h'.update S (Obj.mapSeq (·.push (Value.ref h.objs.size)))).get? b = some o := fun b o hb e => (Heap.get?_update_other _ _ (Ne.symm hb)).trans e
    have kp2 : ∀ b o, S < b → h.get? b = some o → h'.get? b = some o := fun b o hb e => hkp b o (Nat.ne_of_gt (Nat.lt_trans B.z hb)) (Nat.ne_of_gt (Nat.lt_trans B.to hb)) (Nat.ne_of_gt (Nat.lt_trans B.i1 hb)) (Nat.ne_of_gt (Nat.lt_trans B.i2 hb)) e
    show wpAny _ A.in1 (updateSeq S (·.push (Value.ref h.objs.size)) >>= _) _ _ _
    refine wpAny_bind ?_
    refine wpAny_updateSeq hS' rfl (wpAny_pure ⟨plainId_quiet PySem.F.plain_extend_loop _, ih (i + 1) _ tk _ (acc.push (Value.ref h.objs.size)) (as ++ [h.objs.size]) (by omega) hlt (hst'.keep O up)
      (fun b o h1 h2 h3 h4 h5 e => up b o h1 (hkp b o h2 h3 h4 h5 (hkeep b o h1 h2 h3 h4 h5 e))) (Heap.get?_update_self _ hS' rfl) (by rw [Array.toList_push, hacc, List.map_append]; rfl) (by rw [List.length_append, hal]; rfl) ⟨?_, ?_, ?_⟩⟩) (by rw [hsz]; omega) (by show (acc.push (Value.ref h.objs.size)).size ≤ sizeLine + 1; rw [Array.size_push, hsz]; omega)
    · refine List.pairwise_append.mpr ⟨hG.rise, List.pairwise_singleton _ _, fun a ha b hb => ?_⟩
      rw [List.mem_singleton.mp hb]
      exact hG.there ha
    · intro a ha
      rcases List.mem_append.mp ha with ha | ha
      · exact hG.above a ha
      · rw [List.mem_singleton.mp ha]; exact hSl
    · intro j b hj
      rcases Nat.lt_trichotomy j as.length with h1 | h1 | h1
      · rw [List.getElem?_append_left h1] at hj
        obtain ⟨x', y', e1, e2, e3⟩ := hG.pairs j b hj
        have hb := hG.above b (List.mem_of_getElem? hj)
        exact ⟨x', y', e1, e2, up b _ (Nat.ne_of_gt hb) (kp2 b _ hb e3)⟩
      · subst h1
        have hb : h.objs.size = b := by simpa using hj
        subst hb
        exact ⟨_, _, by rw [hal]; exact ex, by rw [hal]; exact ey, up _ _ (Nat.ne_of_gt hSl) ht⟩
      · have hnone : (as ++ [h.objs.size])[j]? = none := List.getElem?_eq_none (by rw [List.length_append, List.length_singleton]; omega)
        rw [hnone] at hj; cases hj
theorem zl_call {Q : Value → Shared → Prop} (hh : A.handled = none) (D : ZipApart z TI TO i1 i2 l1 l2) (hst : ∀ S, s.heap.objs.size ≤ S → ZSt s.heap z TI TO i1 i2 l1 l2 S 0 xs ys) (B : Below z TI TO i1 i2 l1 l2 s.heap.objs.size) (hxy : xs.size = ys.size) (hn : xs.size ≤ sizeLine)
    (hQ : ∀ h' tk acc c as, (∀ b o, b ≠ z → b ≠ TO → b ≠ i1 → b ≠ i2 → s.heap.get? b = some o → h'.get? b = some o) → h'.get? s.heap.objs.size = some { cls := .type "list", dict := none, data := .seq acc c, slots := #[] } → as.length = xs.size → ZG xs ys s.heap.objs.size h' as →
      acc.toList = as.map Value.ref → Q (.ref s.heap.objs.size) { s with heap := h', toks := tk }) :
    wpAny (model prog w) A (call (.type "list") [.ref z]) Q E s := by
  refine callType_codes (Q₁ := fun obj s₁ => obj = .ref s.heap.objs.size ∧ s₁ = { s with heap := s.heap.push { cls := .type "list", data := .seq #[] } }) PySem.F.called_list (PySem.F.typeCall_list_1 _) PySem.F.entry_list_init
    (code_list_new _ ⟨rfl, rfl⟩) fun obj s₁ h₁ => ?_
  obtain ⟨rfl, rfl⟩ := h₁
  have O := B.off
  have hS : (s.heap.push { cls := .type "list", data := .seq #[] }).get? s.heap.objs.size = some { cls := .type "list", data := .seq #[] } := Heap.get?_push_size _ rfl
  have st1 : ZSt (s.heap.push { cls := .type "list", data := .seq #[] }) z TI TO i1 i2 l1 l2 s.heap.objs.size 0 xs ys := (hst _ (Nat.le_refl _)).keep O fun b o _ e => Heap.get?_push_of_some _ e
  have tyz : ∀ {h : Heap} {S i}, ZSt h z TI TO i1 i2 l1 l2 S i xs ys → ∃ o, h.get? z = some o ∧ o.cls = .type "zip" := fun st => by
    rcases st.zz with ⟨hz, _⟩ | ⟨T, f, oT, hz, _⟩
    · exact ⟨_, hz, rfl⟩
    · exact ⟨_, hz, rfl⟩
  refine ⟨⟨_, hS, rfl⟩, PySem.F.args_list_init_2 _ _, ?_⟩
  show wpAny _ _ (do let old ← Builtin.List.listItems (.ref s.heap.objs.size); Builtin.List.listUpdate (.ref s.heap.objs.size) (fun _ => #[]); letGo old.toList.reverse; Builtin.List.listExtendWith (.ref s.heap.objs.size) (.ref z) .none) _ _ _
  refine wpAny_bind ?_
  unfold Builtin.List.listItems
  refine wpAny_bind (wpAny_seqItems hS rfl (wpAny_pure ?_))
  show wpAny _ _ (updateSeq s.heap.objs.size (fun _ => #[]) >>= fun _ => letGo (#[] : Array Value).toList.reverse >>= fun _ => Builtin.List.listExtendWith (.ref s.heap.objs.size) (.ref z) .none) _ _ _
  refine wpAny_bind (wpAny_updateSeq hS rfl ?_)
  have hS₂ := Heap.get?_update_self (Obj.mapSeq (fun _ => (#[] : Array Value))) hS rfl
  have oth : ∀ b o, b ≠ s.heap.objs.size → (s.heap.push { cls := .type "list", data := .seq #[] }).get? b = some o → ((s.heap.push { cls := .type "list", data := .seq #[] }).update s.heap.objs.size (Obj.mapSeq (fun _ => (#[] : Array Value)))).get? b = some o :=
    fun b o hb e => (Heap.get?_update_other _ _ (Ne.symm hb)).trans e
  have st2 := st1.keep O oth
  refine wpAny_bind (wpAny_letGo ?_)
  unfold Builtin.List.listExtendWith
  refine wpAny_bind (wpAny_typeOf (T := "zip") (tyz st2) ?_)
  have h1 : Builtin.List.listSameRef (.ref s.heap.objs.size) (.ref z) = false := by simp [Builtin.List.listSameRef, Ne.symm O.z]
  have h2 : (Value.type "zip" == Value.type "list") = false := by decide
  have h3 : (Value.type "zip" == Value.type "tuple") = false := by decide
  simp only [h1, h2, h3, Bool.or_false, Bool.false_eq_true, if_false]
  have hT := tyz st2
  refine wpAny_bind (wpAny_pyIter_slot hT PySem.F.slot_zip_iter (wpAny_call_entry PySem.F.slot_zip_iter hT PySem.F.entry_zip_iter ?_ (PySem.F.args_zip_iter_1 _)))
  show wpAny _ _ (ret (.ref z)) _ _ _
  refine wpAny_pure ⟨_, rfl, "zip", _, hT, PySem.F.slot_zip_next.lookup, ?_⟩
  refine wpAny_bind (wpAny_holding ?_)
  unfold Builtin.List.listLengthHint
  refine wpAny_bind (wpAny_specialOf hT zip_no_len ?_)
  show wpAny _ _ (specialOf (Value.ref z) (Str.ofString "__length_hint__") >>= _) _ _ _
  refine wpAny_bind (wpAny_specialOf hT zip_no_hint ?_)
  refine wpAny_pure ?_
  show wpAny _ _ (rule "list.extend.makes-room" >>= fun _ => Builtin.List.listTouch (.ref s.heap.objs.size) >>= fun _ =>
    again (.builtin "list.extend.loop" ⟨[.ref s.heap.objs.size, .ref z, .none], []⟩)) _ _ _
  refine wpAny_bind (wpAny_rule ?_)
  refine wpAny_bind ?_
  show wpAny _ _ (updateSeq s.heap.objs.size (·.push .none) >>= fun _ => updateSeq s.heap.objs.size (·.pop)) _ _ _
  refine wpAny_bind (wpAny_updateSeq hS₂ rfl ?_)
  have hS₃ := Heap.get?_update_self (Obj.mapSeq (·.push Value.none)) hS₂ rfl
  refine wpAny_updateSeq (hz := by seq_fits) hS₃ rfl ?_
  have hS₄ := Heap.get?_update_self (Obj.mapSeq (·.pop)) hS₃ rfl
  refine wpAny_pure ⟨plainId_quiet PySem.F.plain_extend_loop _, ?_⟩
  refine zl_loop (A := A.in1) (s := s) (h₁ := s.heap) hh D B hxy hn .none (fun h' tk acc c as hk hS' hl hG hacc => ⟨rfl, hQ h' tk acc c as (fun b o b2 b3 b4 b5 e => hk b o (Nat.ne_of_lt (Heap.lt_size e)) b2 b3 b4 b5 e) hS' hl hG hacc⟩) xs.size 0 _ _ _ _ [] (Nat.sub_zero _) (Nat.zero_le _)
    (st2.keep O fun b o hb e => (Heap.get?_update_other _ _ (Ne.symm hb)).trans ((Heap.get?_update_other _ _ (Ne.symm hb)).trans e))
    (fun b o hb _ _ _ _ e => (Heap.get?_update_other _ _ (Ne.symm hb)).trans ((Heap.get?_update_other _ _ (Ne.symm hb)).trans (oth b o hb (Heap.get?_push_of_some _ e)))) hS₄ rfl rfl
    ⟨List.Pairwise.nil, (fun _ ha => nomatch ha), (fun j a hj => by simp at hj)⟩
end
end K00Z
set_option Elab.async false
set_option linter.all false
set_option maxRecDepth 100000
set_option maxHeartbeats 4000000
/-! K00I: the rule for list(zip(a, b)). -/
namespace K00
open PySem PySem.Spec PyProof.Rows L2 K00Z
def putP : Hp → List Addr → List (V × V) → Hp
  | H, a :: as, p :: ps => putP (upd H a (.tup [p.1, p.2])) as ps
  | H, _, _ => H
theorem putP_off {b : Addr} : ∀ (as : List Addr) (ps : List (V × V)) (H : Hp), b ∉ as → putP H as ps b = H b
  | [], _, _, _ => rfl
  | _ :: _, [], _, _ => rfl
  | a :: as, p :: ps, H, h => by
    show putP (upd H a (.tup [p.1, p.2])) as ps b = H b
    rw [putP_off as ps _ (fun z => h (List.mem_cons_of_mem _ z)), upd_ne (fun z => h (by rw [z]; exact List.mem_cons_self))]
theorem putP_at : ∀ (as : List Addr) (ps : List (V × V)) (H : Hp), as.length = ps.length → as.Nodup → Paired (fun (t : Addr) (p : V × V) => putP H as ps t = some (.tup [p.1, p.2])) as ps
  | [], [], _, _, _ => .nil
  | [], _ :: _, _, h, _ => by cases h
  | _ :: _, [], _, h, _ => by cases h
  | a :: as, p :: ps, H, h, hn => by
    have hn' := List.nodup_cons.mp hn
    have ih := putP_at as ps (upd H a (.tup [p.1, p.2])) (Nat.succ.inj h) hn'.2
    refine .cons ?_ ih
    show putP (upd H a (.tup [p.1, p.2])) as ps a = some (.tup [p.1, p.2])
    rw [putP_off as ps _ hn'.1, upd_same]
def rZipL (K : PySem.W.Frag) : List V → Hp → VK → Prop := fun vs H Q => ∃ a b xs ys, vs = [.ref a, .ref b] ∧ SqL K H a xs ∧ SqL K H b ys ∧ xs.length = ys.length ∧
  ∀ (H' : Hp) (p : Addr) (ts : List Addr), Same H H' → H p = none → (∀ t ∈ ts, H t = none) → p ∉ ts → H' p = some (.lst (ts.map V.ref)) → Paired (fun (t : Addr) (q : V × V) => H' t = some (.tup [q.1, q.2])) ts (xs.zip ys) → Q (.ref p) H'
def tListZip (K : PySem.W.Frag) (ta : TA) : TE := fun σ H Q => ta σ H fun vs H1 => rZipL K vs H1 Q
theorem zip_laid {X : Cx} {pins : List (Addr × Obj)} {σ : L2.St} {H : Hp} {s : Shared} {h' : Heap} {tk : Nat} {xs ys : List V} {us vs : List Value} {acc : Array Value} {c : Nat} {as : List Addr} {S : Addr} (I : Inv X pins σ H s) (hz : xs.length ≤ sizeLine) (hxy : xs.length = ys.length) (rx : Vals xs us) (ry : Vals ys vs)
    (hk : ∀ b o, s.heap.get? b = some o → h'.get? b = some o) (hSs : s.heap.objs.size ≤ S) (hS : h'.get? S = some { cls := .type "list", dict := none, data := .seq acc c, slots := #[] }) (hl : as.length = us.length) (hG : ZG us.toArray vs.toArray S h' as) (hacc : acc.toList = as.map Value.ref) :
    ∃ H' : Hp, Same H H' ∧ H S = none ∧ (∀ t ∈ as, H t = none) ∧ S ∉ as ∧ H' S = some (.lst (as.map V.ref)) ∧ Paired (fun (t : Addr) (q : V × V) => H' t = some (.tup [q.1, q.2])) as (xs.zip ys) ∧ Inv X pins σ H' { s with heap := h', toks := tk } := by
  have lx : xs.length = us.length := rx.length
  have ly : ys.length = vs.length := ry.length
  have lz : (xs.zip ys).length = xs.length := by rw [List.length_zip, ← hxy, Nat.min_self]
  have hSn : S ∉ as := fun z => Nat.lt_irrefl _ (hG.above _ z)
  have nd : as.Nodup := List.Pairwise.imp (fun {a b} (h : a < b) => Nat.ne_of_lt h) hG.rise
  have new : ∀ t ∈ as, H t = none := fun t ht => I.hok.fresh (Nat.le_trans hSs (Nat.le_of_lt (hG.above t ht)))
  have newS : H S = none := I.hok.fresh hSs
  have atP := putP_at as (xs.zip ys) (upd H S (.lst (as.map V.ref))) (by omega) nd
  have off : ∀ b, b ∉ as → b ≠ S → putP (upd H S (.lst (as.map V.ref))) as (xs.zip ys) b = H b := fun b h1 h2 => by rw [putP_off as _ _ h1, upd_ne h2]
  have low : ∀ b o, s.heap.get? b = some o → b ∉ as ∧ b ≠ S := fun b o e => ⟨fun z => absurd (Heap.lt_size e) (Nat.not_lt.mpr (Nat.le_trans hSs (Nat.le_of_lt (hG.above b z)))), Nat.ne_of_lt (Nat.lt_of_lt_of_le (Heap.lt_size e) hSs)⟩
  have kp : ∀ b u, H b = some u → (putP (upd H S (.lst (as.map V.ref))) as (xs.zip ys)) b = some u := fun b u e => by
    rw [off b (fun z => by rw [new b z] at e; cases e) (fun z => by rw [z, newS] at e; cases e)]
    exact e
  have eS : putP (upd H S (.lst (as.map V.ref))) as (xs.zip ys) S = some (.lst (as.map V.ref)) := by rw [putP_off as _ _ hSn, upd_same]
  refine ⟨putP (upd H S (.lst (as.map V.ref))) as (xs.zip ys), kp, newS, new, hSn, eS, atP, ?_⟩
  refine I.call' (ch := []) rfl ⟨fun b o q _ _ _ => hk b o q, fun b o q _ _ _ => ⟨o.slots, hk b o q⟩, fun b o q n _ => ?_, fun b o q _ => ⟨o, hk b o q⟩, fun b xs q => kp b _ q, fun b o u q => kp b _ q, fun b ps q => ⟨#[], by rw [kp b _ q]; simp⟩⟩ (fun b u q => ?_) I.bare fun b z => by simp at z
  · obtain ⟨z1, z2⟩ := low b o q
    rw [off b z1 z2]
    exact n
  · by_cases hb : b ∈ as
    · obtain ⟨j, pk, e1, e2, e3⟩ := LiI.paired_ix atP hb
      rw [e3] at q
      cases q
      obtain ⟨x, y, f1, f2, f3⟩ := hG.pairs j b e1
      have hzip := List.getElem?_zip_eq_some.mp (show (xs.zip ys)[j]? = some (pk.1, pk.2) from e2)
      obtain ⟨u1, hu1, r1⟩ := rx.get hzip.1
      obtain ⟨u2, hu2, r2⟩ := ry.get hzip.2
      have g1 : us[j]? = some x := by simpa using f1
      have g2 : vs[j]? = some y := by simpa using f2
      rw [g1] at hu1
      rw [g2] at hu2
      cases hu1
      cases hu2
      exact ⟨by show 2 ≤ sizeLine; decide, [x, y], .cons r1 (.cons r2 .nil), ⟨_, f3, rfl, _, rfl⟩⟩
    · by_cases hb2 : b = S
      · rw [hb2] at q ⊢
        rw [eS] at q
        cases q
        refine ⟨by rw [List.length_map]; omega, acc.toList, c, by rw [hacc]; exact LiI.vals_refs as, ?_⟩
        rw [Array.toArray_toList]
        exact hS
      · rw [off b hb hb2] at q
        exact (I.hok b u q).stay (fun d v _ y => hk d v y) (fun d y => kp d _ y) fun d xs y => kp d _ y
theorem apartN {n a b : Nat} (ha : a < n) (hb : b < n) : ZipApart (n + 4) (n + 2) (n + 3) n (n + 1) a b := by
  have key : ∀ {x y : Nat}, x < y ∨ y < x → x ≠ y := by omega
  constructor <;> exact key (by omega)
theorem belowN {n a b : Nat} (ha : a < n) (hb : b < n) : Below (n + 4) (n + 2) (n + 3) n (n + 1) a b (n + 5) := by
  have key : ∀ {x y : Nat}, x + 1 ≤ y → x < y := fun h => h
  exact ⟨key (by omega), key (by omega), key (by omega), key (by omega), key (by omega), key (by omega), key (by omega)⟩
theorem neN {x y : Nat} (h : x < y) : x ≠ y := Nat.ne_of_lt h
section
variable {X : Cx} {e e2 : Expr} {ta : TA} {p p2 cpos pos : Pos}
/-- list(zip(e, e2)) -/
theorem pe_listzip (hc : X.calm = true) (hg : Gl X "list") (hm : X.mg "list" = none) (hv : bootBuiltins "list" = some (.type "list")) (hg2 : Gl X "zip") (hm2 : X.mg "zip" = none) (ha : PA X [e, e2] ta)
    (hs2 : starEach [e, e2] X.env = (false, eval e X.env) :: starEach [e2] X.env := by rfl) (hpl2 : (backTo cpos (starEach [e2] X.env)).any (·.1) = false := by rfl)
    (hs : starEach [.Call (.Name "zip" p2) [e, e2] [] cpos] X.env = (false, eval (.Call (.Name "zip" p2) [e, e2] [] cpos) X.env) :: starEach [] X.env := by rfl) :
    PE X (.Call (.Name "list" p) [.Call (.Name "zip" p2) [e, e2] [] cpos] [] pos) (tListZip X.K ta) := by
  refine ⟨fun pins s σ H Q I hq => ?_⟩
  refine wpAny_Call_Name_kw (ld_blt I hg hm hv ?_)
  refine PyProof.Rows.callWith_type1 ?_ hs rfl
  rw [hs]
  show wpAny _ _ (spliced ((false, eval (.Call (.Name "zip" p2) [e, e2] [] cpos) X.env) :: backTo pos (starEach [] X.env))) _ _ s
  refine Calls.spliced_cons ?_
  refine wpAny_Call_Name_kw (ld_blt I hg2 hm2 PyProof.Rows.boot_zip (PyProof.Rows.callWith_type1 (thn (ha.run cpos pins s σ H _ I hq) fun us s1 ⟨vs, H1, I1, r1, q1⟩ => ?_) hs2 hpl2))
  obtain ⟨a, b, xs, ys, ex, hqx, hqy, hxy, q⟩ := q1
  subst ex
  cases r1 with
  | cons r rr =>
    cases rr with
    | cons r' rr =>
      cases rr
      cases r
      cases r'
      obtain ⟨its, rv, p1, hz1⟩ := I1.list hqx
      obtain ⟨its2, rv2, p2', hz2⟩ := I1.list hqy
      have la : a < s1.heap.objs.size := let ⟨_, ho, _⟩ := p1.isList; Heap.lt_size ho
      have lb : b < s1.heap.objs.size := let ⟨_, ho, _⟩ := p2'.isList; Heap.lt_size ho
      have lx : xs.length = its.length := rv.length
      have ly : ys.length = its2.length := rv2.length
      refine call_zip_2 p1.isList p2'.isList fun h' hz hTI hTO h1 h2 hsz hk => ?_
      refine Calls.spliced_nil ?_
      have D : ZipApart (s1.heap.objs.size + 4) (s1.heap.objs.size + 2) (s1.heap.objs.size + 3) s1.heap.objs.size (s1.heap.objs.size + 1) a b := apartN la lb
      refine zl_call (s := { s1 with heap := h' }) (xs := its.toArray) (ys := its2.toArray) (I1.ok.hd hc) D (fun S _ => ⟨hTI, h1, h2, p1.isList.at fun o e => hk _ o e, p2'.isList.at fun o e => hk _ o e, .inl ⟨hz, _, _, hTO⟩⟩) ?_ (by simp only [List.size_toArray]; omega) (by simp only [List.size_toArray]; omega) fun h'' tk acc c as hk2 hS hl hG hacc => ?_
      · show Below _ _ _ _ _ _ _ h'.objs.size
        rw [hsz]
        exact belowN la lb
      have hlow : ∀ b' o, s1.heap.get? b' = some o → h''.get? b' = some o := fun b' o e => by
        have lt := Heap.lt_size e
        exact hk2 b' o (neN (Nat.lt_add_right 4 lt)) (neN (Nat.lt_add_right 3 lt)) (neN lt) (neN (Nat.lt_add_right 1 lt)) (hk b' o e)
      have hSs : s1.heap.objs.size ≤ h'.objs.size := by rw [hsz]; omega
      obtain ⟨H', k1, k2, k3, k4, k5, k6, J⟩ := zip_laid (tk := tk) I1 hz1 hxy rv rv2 hlow hSs hS (by simpa using hl) hG hacc
      exact ⟨.ref _, H', J, rfl, q H' _ as k1 k2 k3 k4 k5 k6⟩
end
end K00
set_option Elab.async false
set_option linter.all false
set_option maxRecDepth 100000
set_option maxHeartbeats 4000000
/-! K00J: data over the heap, all lists and dicts of it locked for good. -/
namespace K00
open PySem PySem.Spec L2
section
variable (P : Program) (w : World)
/-- at d stands a locked dict with these entries -/
def Dd (H : Hp) (d : Addr) (o : Obj) (es : List (V × V)) : Prop :=
  (∃ kvs : List (Key × V), H d = some (.frz o (.dK kvs)) ∧ es = kvs.map fun p => (kV p.1, p.2)) ∨ (H d = some (.frz o (ndO P w d)) ∧ es = [(.non, .int 1)])
mutual
inductive Da (H : Hp) : V → PyData → Prop
  | non : Da H .non .none
  | bl (b : Bool) : Da H (.bl b) (.bool b)
  | int (i : Int) : Da H (.int i) (.int i)
  | str (x : Str) : Da H (.str x) (.str x)
  | lst {a : Addr} {o : Obj} {xs : List V} {ds : List PyData} (h : H a = some (.frz o (.lst xs))) (r : DaL H xs ds) : Da H (.ref a) (.list ds)
  | tup {a : Addr} {xs : List V} {ds : List PyData} (h : H a = some (.tup xs)) (r : DaL H xs ds) : Da H (.ref a) (.tuple ds)
  | dic {a : Addr} {o : Obj} {es : List (V × V)} {ds : List (PyData × PyData)} (h : Dd P w H a o es) (r : DaE H es ds) : Da H (.ref a) (.dict ds)
inductive DaL (H : Hp) : List V → List PyData → Prop
  | nil : DaL H [] []
  | cons {x : V} {xs : List V} {d : PyData} {ds : List PyData} (h : Da H x d) (r : DaL H xs ds) : DaL H (x :: xs) (d :: ds)
inductive DaE (H : Hp) : List (V × V) → List (PyData × PyData) → Prop
  | nil : DaE H [] []
  | cons {x y : V} {es : List (V × V)} {d e : PyData} {ds : List (PyData × PyData)} (k : Da H x d) (h : Da H y e) (r : DaE H es ds) : DaE H ((x, y) :: es) ((d, e) :: ds)
end
end
/-- tuples and what is locked stay -/
def Kp (H H' : Hp) : Prop := (∀ b xs, H b = some (.tup xs) → H' b = some (.tup xs)) ∧ ∀ b o u, H b = some (.frz o u) → H' b = some (.frz o u)
theorem Kp.refl (H : Hp) : Kp H H := ⟨fun _ _ e => e, fun _ _ _ e => e⟩
theorem Kp.trans {H H1 H2 : Hp} (a : Kp H H1) (b : Kp H1 H2) : Kp H H2 := ⟨fun c xs e => b.1 c xs (a.1 c xs e), fun c o u e => b.2 c o u (a.2 c o u e)⟩
theorem Kp.same {H H' : Hp} (k : Same H H') : Kp H H' := ⟨fun b xs e => k b _ e, fun b o u e => k b _ e⟩
/-- all but what stands at p is as it was -/
def Ch (p : Addr) (H H' : Hp) : Prop := ∀ b o, b ≠ p → H b = some o → H' b = some o
theorem Ch.refl (p : Addr) (H : Hp) : Ch p H H := fun _ _ _ e => e
theorem Ch.trans {p : Addr} {H H1 H2 : Hp} (a : Ch p H H1) (b : Ch p H1 H2) : Ch p H H2 := fun c o n e => b c o n (a c o n e)
theorem Ch.same {p : Addr} {H H' : Hp} (k : Same H H') : Ch p H H' := fun b o _ e => k b o e
theorem ch_upd {p : Addr} {H : Hp} {o : HO} : Ch p H (upd H p o) := fun b u n e => by rw [upd_ne n]; exact e
theorem Kp.ch {p : Addr} {H H' : Hp} {xs : List V} (k : Ch p H H') (h : H p = some (.lst xs)) : Kp H H' :=
  ⟨fun b ys e => k b _ (fun z => by rw [z, h] at e; cases e) e, fun b o u e => k b _ (fun z => by rw [z, h] at e; cases e) e⟩
theorem same_refl (H : Hp) : Same H H := fun _ _ e => e
theorem same_new {H : Hp} {p : Addr} (h : H p = none) (o : HO) : Same H (upd H p o) := fun b u q => by rw [upd_ne (ne_of_none q h)]; exact q
theorem Kp.new {H : Hp} {p : Addr} (h : H p = none) (o : HO) : Kp H (upd H p o) := .same (same_new h o)
theorem Kp.lst {H : Hp} {p : Addr} {xs : List V} (h : H p = some (.lst xs)) (o : HO) : Kp H (upd H p o) := .ch ch_upd h
section
variable {P : Program} {w : World} {H H' : Hp}
theorem Dd.kp {d : Addr} {o : Obj} {es : List (V × V)} (h : Dd P w H d o es) (k : Kp H H') : Dd P w H' d o es := by
  rcases h with ⟨kvs, h, e⟩ | ⟨h, e⟩
  · exact .inl ⟨kvs, k.2 _ _ _ h, e⟩
  · exact .inr ⟨k.2 _ _ _ h, e⟩
mutual
theorem Da.kp (k : Kp H H') : ∀ {x : V} {d : PyData}, Da P w H x d → Da P w H' x d
  | _, _, .non => .non
  | _, _, .bl b => .bl b
  | _, _, .int i => .int i
  | _, _, .str y => .str y
  | _, _, .lst h q => .lst (k.2 _ _ _ h) (DaL.kp k q)
  | _, _, .tup h q => .tup (k.1 _ _ h) (DaL.kp k q)
  | _, _, .dic h q => .dic (h.kp k) (DaE.kp k q)
theorem DaL.kp (k : Kp H H') : ∀ {xs : List V} {ds : List PyData}, DaL P w H xs ds → DaL P w H' xs ds
  | _, _, .nil => .nil
  | _, _, .cons h q => .cons (Da.kp k h) (DaL.kp k q)
theorem DaE.kp (k : Kp H H') : ∀ {xs : List (V × V)} {ds : List (PyData × PyData)}, DaE P w H xs ds → DaE P w H' xs ds
  | _, _, .nil => .nil
  | _, _, .cons i h q => .cons (Da.kp k i) (Da.kp k h) (DaE.kp k q)
end
theorem DaL.length : ∀ {xs : List V} {ds : List PyData}, DaL P w H xs ds → xs.length = ds.length
  | _, _, .nil => rfl
  | _, _, .cons _ q => congrArg (· + 1) (DaL.length q)
theorem DaL.append : ∀ {xs ys : List V} {ds es : List PyData}, DaL P w H xs ds → DaL P w H ys es → DaL P w H (xs ++ ys) (ds ++ es)
  | _, _, _, _, .nil, q => q
  | _, _, _, _, .cons h r, q => .cons h (DaL.append r q)
theorem DaL.get : ∀ {xs : List V} {ds : List PyData} {i : Nat} {x : V}, DaL P w H xs ds → xs[i]? = some x → ∃ d, ds[i]? = some d ∧ Da P w H x d
  | _, _, _, _, .nil, h => nomatch h
  | _, _, 0, x, .cons h r, e => by
    cases (Option.some.inj e)
    exact ⟨_, rfl, h⟩
  | _, _, i + 1, x, .cons h r, e => DaL.get r (i := i) e
theorem DaL.mem {xs : List V} {ds : List PyData} {x : V} (q : DaL P w H xs ds) (h : x ∈ xs) : ∃ d, d ∈ ds ∧ Da P w H x d := by
  obtain ⟨i, e⟩ := List.mem_iff_getElem?.mp h
  obtain ⟨d, e2, h2⟩ := q.get e
  exact ⟨d, List.mem_of_getElem? e2, h2⟩
theorem DaL.snoc {xs : List V} {ds : List PyData} {x : V} {d : PyData} (q : DaL P w H xs ds) (h : Da P w H x d) : DaL P w H (xs ++ [x]) (ds ++ [d]) := q.append (.cons h .nil)
theorem DaL.take : ∀ {xs : List V} {ds : List PyData} (n : Nat), DaL P w H xs ds → DaL P w H (xs.take n) (ds.take n)
  | _, _, 0, _ => .nil
  | _, _, _ + 1, .nil => .nil
  | _, _, n + 1, .cons h q => .cons h (DaL.take n q)
theorem DaL.drop : ∀ {xs : List V} {ds : List PyData} (n : Nat), DaL P w H xs ds → DaL P w H (xs.drop n) (ds.drop n)
  | _, _, 0, h => h
  | _, _, _ + 1, .nil => .nil
  | _, _, n + 1, .cons h q => DaL.drop n q
theorem DaE.length : ∀ {xs : List (V × V)} {ds : List (PyData × PyData)}, DaE P w H xs ds → xs.length = ds.length
  | _, _, .nil => rfl
  | _, _, .cons _ _ q => congrArg (· + 1) (DaE.length q)
theorem DaE.get : ∀ {xs : List (V × V)} {ds : List (PyData × PyData)} {i : Nat} {x : V × V}, DaE P w H xs ds → xs[i]? = some x → ∃ d, ds[i]? = some d ∧ Da P w H x.1 d.1 ∧ Da P w H x.2 d.2
  | _, _, _, _, .nil, h => nomatch h
  | _, _, 0, x, .cons k h r, e => by
    cases (Option.some.inj e)
    exact ⟨_, rfl, k, h⟩
  | _, _, i + 1, x, .cons k h r, e => DaE.get r (i := i) e
theorem DaE.values : ∀ {xs : List (V × V)} {ds : List (PyData × PyData)}, DaE P w H xs ds → DaL P w H (xs.map (·.2)) (ds.map (·.2))
  | _, _, .nil => .nil
  | _, _, .cons k h q => .cons h (DaE.values q)
theorem DaE.keys : ∀ {xs : List (V × V)} {ds : List (PyData × PyData)}, DaE P w H xs ds → DaL P w H (xs.map (·.1)) (ds.map (·.1))
  | _, _, .nil => .nil
  | _, _, .cons k h q => .cons k (DaE.keys q)
end
/-- at 1 stands a dict of the module's start -/
def SysD (K : PySem.W.Frag) : Prop := ∃ o, K.lookup sysModules = some o ∧ o.cls = .type "dict"
section
variable {X : Cx} {pins : List (Addr × Obj)} {σ : L2.St} {H : Hp} {s : Shared} {d : Addr} {o : Obj}
/-- what the model says of a locked dict of data -/
theorem frzD {es : List (V × V)} (I : L2.Inv X pins σ H s) (h : Dd X.prog X.w H d o es) :
    (d == sysModules) = false ∧ s.heap.get? d = some o ∧ o.ExactDict ∧ ∃ (κ : Type) (_ : DecidableEq κ) (knd : KeyKind X.prog X.w κ) (e' : Array DictEntry) (ep : Nat) (vs : List (κ × Value)), o.data = .dict e' ep ∧ e'.size = es.length ∧ es.length ≤ sizeLine ∧
      Paired (fun (p : V × V) (q : κ × Value) => (∀ u, knd.is q.1 u = true → RelV p.1 u) ∧ RelV p.2 q.2) es vs ∧ s.heap.DictAt knd d vs ep := by
  rcases h with ⟨kvs, h, rfl⟩ | ⟨h, rfl⟩
  · obtain ⟨hs, hgd, hx, e', ep, vs, hdt, hsz, kv, hm⟩ := I.frzK h
    have zz : kvs.length ≤ sizeLine := (I.hok d _ h).2.1
    refine ⟨hs, hgd, hx, Key, inferInstance, mixKind X.prog X.w, e', ep, vs, hdt, by rw [List.length_map]; exact hsz, by rw [List.length_map]; exact zz, ?_, hm⟩
    clear hsz hm h zz
    induction kv with
    | nil => exact .nil
    | cons r t ih =>
      refine .cons ⟨fun u hu => ?_, r.2⟩ ih
      have e1 := r.1
      show RelV (kV _) u
      rw [e1]
      exact relV_key hu
  · obtain ⟨hgd, ⟨hs, t, o', es, ep, ho, hx, hdt, r⟩, _⟩ := I.hok d _ h
    rw [hgd] at ho
    cases ho
    refine ⟨hs, hgd, hx, Option Key, inferInstance, noneKind X.prog X.w, es, ep, _, hdt, ?_, by show 1 ≤ sizeLine; decide, .cons ⟨fun u hu => ?_, ⟨t, rfl⟩⟩ .nil, o, es, hgd, hx, hdt, r⟩
    · have l1 := r.2.1.length
      rw [Array.length_toList] at l1
      exact l1
    · have e : u = .none := nk_none hu
      exact e
theorem Dd.size {es : List (V × V)} (I : L2.Inv X pins σ H s) (h : Dd X.prog X.w H d o es) : es.length ≤ sizeLine := by
  obtain ⟨_, _, _, _, _, _, _, _, _, _, _, z, _⟩ := frzD I h
  exact z
end
end K00
set_option Elab.async false
set_option linter.all false
set_option maxRecDepth 100000
set_option maxHeartbeats 4000000
/-! K00K: repr and isinstance of data. -/
namespace K00
open PySem PySem.Spec L2
section
variable {X : Cx} {pins : List (Addr × Obj)} {σ : L2.St} {H : Hp} {s : Shared}
theorem ents_of {κ : Type} [DecidableEq κ] {knd : PySem.KeyKind X.prog X.w κ} : ∀ {es : List (V × V)} {vs : List (κ × Value)} {ens : List DictEntry}, Paired (fun (p : V × V) (q : κ × Value) => (∀ u, knd.is q.1 u = true → RelV p.1 u) ∧ RelV p.2 q.2) es vs → Pairs knd ens vs →
    Vals (es.map (·.1)) (ens.map (·.key)) ∧ Vals (es.map (·.2)) (ens.map (·.val))
  | _, _, _, .nil, p => by
    cases p
    exact ⟨.nil, .nil⟩
  | _, _, _, .cons r t, p => by
    cases p with
    | @cons en kv' es' kvs' p1 p2 p3 =>
      obtain ⟨z1, z2⟩ := ents_of t p3
      exact ⟨.cons (r.1 _ p1) z1, .cons (by show RelV _ en.val; rw [show en.val = _ from p2]; exact r.2) z2⟩
mutual
theorem Da.reads (I : L2.Inv X pins σ H s) (S : SysD X.K) : ∀ {x : V} {d : PyData} {u : Value}, Da X.prog X.w H x d → RelV x u → ∃ as, Reads s.heap u d as ∧ sysModules ∉ as
  | _, _, u, .non, r => by cases (show u = Value.none from r); exact ⟨[], .none, by simp⟩
  | _, _, u, .bl b, r => by cases (show u = Value.bool b from r); exact ⟨[], .bool b, by simp⟩
  | _, _, u, .int i, r => by obtain ⟨t, e⟩ := (show ∃ t, u = Value.int i t from r); cases e; exact ⟨[], .int i t, by simp⟩
  | _, _, u, .str y, r => by obtain ⟨t, e⟩ := (show ∃ t, u = Value.str y t from r); cases e; exact ⟨[], .str y t, by simp⟩
  | _, _, u, .lst (a := a) (xs := xs) h q, r => by
    cases (show u = Value.ref a from r)
    obtain ⟨_, _, its, n, rv, e⟩ := I.hok a _ h
    obtain ⟨as, z, ns⟩ := DaL.reads I S q rv
    refine ⟨a :: as, .list e rfl rfl (by simpa using z), fun hm => ?_⟩
    rcases List.mem_cons.mp hm with hm | hm
    · obtain ⟨o, ho, hc⟩ := S
      have e2 := I.kIn _ _ ho
      rw [hm, e] at e2
      rw [← Option.some.inj e2] at hc
      exact absurd hc (by intro z; injection z with z; exact absurd z (by decide))
    · exact ns hm
  | _, _, u, .tup (a := a) (xs := xs) h q, r => by
    cases (show u = Value.ref a from r)
    obtain ⟨_, its, rv, o, h1, h2, n, h3⟩ := (show ObjOk X.prog X.w H s.heap a (.tup xs) from I.hok a _ h)
    obtain ⟨as, z, ns⟩ := DaL.reads I S q rv
    exact ⟨as, .tuple h1 h2 h3 (by simpa using z), ns⟩
  | _, _, u, .dic (a := a) (es := es) h q, r => by
    cases (show u = Value.ref a from r)
    obtain ⟨hs, hgd, hx, κ, _, knd, e', ep, vs, hdt, hsz, _, pr, o2, es2, h1, h2, h3, _, h5, _⟩ := frzD I h
    obtain ⟨rk, rv⟩ := ents_of pr h5
    obtain ⟨as, bs, z1, z2, n1, n2⟩ := DaE.reads I S q rk rv
    refine ⟨_, .dict h1 h2.1 h3 z1 z2, fun hm => ?_⟩
    rcases List.mem_cons.mp hm with hm | hm
    · exact absurd hm.symm (beq_eq_false_iff_ne.mp hs)
    · rcases List.mem_append.mp hm with hm | hm
      · exact n1 hm
      · exact n2 hm
theorem DaL.reads (I : L2.Inv X pins σ H s) (S : SysD X.K) : ∀ {xs : List V} {ds : List PyData} {us : List Value}, DaL X.prog X.w H xs ds → Vals xs us → ∃ as, ReadsAll s.heap us ds as ∧ sysModules ∉ as
  | _, _, _, .nil, r => by cases r; exact ⟨[], .nil, by simp⟩
  | _, _, _, .cons h q, r => by
    cases r with
    | cons r1 r2 =>
      obtain ⟨as, z1, n1⟩ := Da.reads I S h r1
      obtain ⟨bs, z2, n2⟩ := DaL.reads I S q r2
      exact ⟨as ++ bs, .cons z1 z2, fun hm => by
        rcases List.mem_append.mp hm with hm | hm
        · exact n1 hm
        · exact n2 hm⟩
theorem DaE.reads (I : L2.Inv X pins σ H s) (S : SysD X.K) : ∀ {es : List (V × V)} {ds : List (PyData × PyData)} {ks us : List Value}, DaE X.prog X.w H es ds → Vals (es.map (·.1)) ks → Vals (es.map (·.2)) us →
    ∃ as bs, ReadsAll s.heap ks (ds.map (·.1)) as ∧ ReadsAll s.heap us (ds.map (·.2)) bs ∧ sysModules ∉ as ∧ sysModules ∉ bs
  | _, _, _, _, .nil, r, r' => by
    cases r
    cases r'
    exact ⟨[], [], .nil, .nil, by simp, by simp⟩
  | _, _, _, _, .cons k h q, r, r' => by
    cases r with
    | cons r1 r2 =>
      cases r' with
      | cons s1 s2 =>
        obtain ⟨a1, z1, n1⟩ := Da.reads I S k r1
        obtain ⟨b1, y1, m1⟩ := Da.reads I S h s1
        obtain ⟨a2, b2, z2, y2, n2, m2⟩ := DaE.reads I S q r2 s2
        exact ⟨a1 ++ a2, b1 ++ b2, .cons z1 z2, .cons y1 y2, fun hm => by
          rcases List.mem_append.mp hm with hm | hm
          · exact n1 hm
          · exact n2 hm, fun hm => by
          rcases List.mem_append.mp hm with hm | hm
          · exact m1 hm
          · exact m2 hm⟩
end
def rReprD (P : Program) (w : World) : List V → Hp → VK → Prop := fun xs H Q => ∃ (x : V) (d : PyData), xs = [x] ∧ Da P w H x d ∧ goodB d = true ∧ Q (.str d.shown) H
theorem call_reprD (S : SysD X.K) (hg : X.A.guards = some []) (hu : X.A.units + 50 < cLine) : CallR X (.builtin "repr") (rReprD X.prog X.w) := by
  intro pins s σ H xs us Q I r h
  obtain ⟨x, d, rfl, hd, hgd, q⟩ := h
  cases r with
  | cons r1 r2 =>
    cases r2
    obtain ⟨as, z, ns⟩ := hd.reads I S r1
    obtain ⟨g1, g2⟩ := He.ba hgd
    obtain ⟨g2, g3⟩ := He.ba g2
    have hsz : d.shown.length ≤ sizeLine := big1 (Nat.le_of_ble_eq_true g2)
    have g3' : d.depth ≤ 40 := Nat.le_of_ble_eq_true g3
    cases z with
    | none => exact PySem.P.repr_of_none ⟨.str _, H, I.tok _, ⟨_, by simp only [PyData.shown]; rfl⟩, q⟩
    | bool b => exact PySem.P.repr_of_bool ⟨.str _, H, I.tok _, ⟨_, by simp only [PyData.shown]; rfl⟩, q⟩
    | int i t => exact PySem.P.repr_of_int (by simpa [PyData.showable] using g1) ⟨.str _, H, I.tok _, ⟨_, by simp only [PyData.shown]; rfl⟩, q⟩
    | str y t => exact PySem.P.repr_of_str ⟨.str _, H, I.tok _, ⟨_, by simp only [PyData.shown]; rfl⟩, q⟩ (by simpa only [PyData.shown] using hsz)
    | list h1 h2 h3 h4 => exact repr_of_reads' (.list h1 h2 h3 h4) g1 (fun _ => ns) hg (by omega) (fun _ _ e => e) (fun h' u tk hk => ⟨.str _, H, I.kept (t' := tk) hk, ⟨_, rfl⟩, q⟩) hsz
    | tuple h1 h2 h3 h4 => exact repr_of_reads' (.tuple h1 h2 h3 h4) g1 (fun _ => ns) hg (by omega) (fun _ _ e => e) (fun h' u tk hk => ⟨.str _, H, I.kept (t' := tk) hk, ⟨_, rfl⟩, q⟩) hsz
    | dict h1 h2 h3 h4 h5 => exact repr_of_reads' (.dict h1 h2 h3 h4 h5) g1 (fun _ => ns) hg (by omega) (fun _ _ e => e) (fun h' u tk hk => ⟨.str _, H, I.kept (t' := tk) hk, ⟨_, rfl⟩, q⟩) hsz
theorem kit_da (I : L2.Inv X pins σ H s) {x : V} {d : PyData} {u : Value} (h : Da X.prog X.w H x d) (r : RelV x u) :
    ∃ Q : Heap → Prop, PySem.W.KitX X.K u (.type (tyD d)) Q ∧ Q s.heap ∧ u ≠ .builtin "__main__.__loader__#opaque" := by
  cases h with
  | non => cases (show u = Value.none from r); exact ⟨_, PySem.W.kitx_none, True.intro, fun z => nomatch z⟩
  | bl b => cases (show u = Value.bool b from r); exact ⟨_, PySem.W.kitx_bool, True.intro, fun z => nomatch z⟩
  | int i => obtain ⟨t, e⟩ := (show ∃ t, u = Value.int i t from r); cases e; exact ⟨_, PySem.W.kitx_int, True.intro, fun z => nomatch z⟩
  | str y => obtain ⟨t, e⟩ := (show ∃ t, u = Value.str y t from r); cases e; exact ⟨_, PySem.W.kitx_str, True.intro, fun z => nomatch z⟩
  | @lst a o xs ds h q =>
    cases (show u = Value.ref a from r)
    obtain ⟨_, _, its, n, rv, e⟩ := I.hok a _ h
    exact ⟨_, PySem.W.kitx_list, ⟨_, e, rfl⟩, fun z => nomatch z⟩
  | @tup a xs ds h q =>
    cases (show u = Value.ref a from r)
    obtain ⟨_, its, rv, o, h1, h2, n, h3⟩ := (show ObjOk X.prog X.w H s.heap a (.tup xs) from I.hok a _ h)
    exact ⟨_, PySem.W.kitx_tuple, ⟨o, h1, h2⟩, fun z => nomatch z⟩
  | @dic a o es ds h q =>
    cases (show u = Value.ref a from r)
    obtain ⟨hs, hgd, hx, _⟩ := frzD I h
    exact ⟨_, PySem.W.kitx_dict, ⟨o, hgd, hx.1⟩, fun z => nomatch z⟩
/-- isinstance(x, T), x data, T a built-in class -/
def rIsDa (P : Program) (w : World) : List V → Hp → VK → Prop := fun xs H Q => ∃ (x : V) (T : String) (d : PyData) (b : Bool), xs = [x, .ty T] ∧ Da P w H x d ∧ kitB (tyD d) T = some b ∧ Q (.bl b) H
theorem call_isDa : CallR X (.builtin "isinstance") (rIsDa X.prog X.w) := by
  intro pins s σ H xs us Q I r h
  obtain ⟨x, T, d, b, rfl, hd, e, q⟩ := h
  obtain ⟨u1, u2, rfl, r1, r2⟩ := vals2 r
  have e2 : u2 = .type T := r2
  subst e2
  obtain ⟨Q', Z, p, hx⟩ := kit_da I hd r1
  exact PySem.W.kia_one Z I.kIn p (kit_ty e) hx fun tk => ⟨.bl b, H, I.tok tk, rfl, q⟩
end
end K00
set_option Elab.async false
set_option linter.all false
set_option maxRecDepth 100000
set_option maxHeartbeats 4000000
/-! K00L: walks over locked dicts of data: keys, items; the list of the values. -/
namespace K00
open PySem PySem.Spec PyProof.Rows L2
section
variable (P : Program) (w : World)
def ItkD (d : Addr) (o : Obj) (es : List (V × V)) : It :=
  ⟨fun i H => Dd P w H d o es ∧ i < es.length, fun i H x H' => H' = H ∧ ∃ p, es[i]? = some p ∧ x = p.1, fun i H => Dd P w H d o es ∧ es.length ≤ i⟩
def ItiD (d : Addr) (o : Obj) (es : List (V × V)) : It :=
  ⟨fun i H => Dd P w H d o es ∧ i < es.length, fun i H x H' => ∃ T p, es[i]? = some p ∧ x = .ref T ∧ H T = none ∧ H' = upd H T (.tup [p.1, p.2]), fun i H => Dd P w H d o es ∧ es.length ≤ i⟩
end
section
variable {P : Program} {w : World} {K : PySem.W.Frag} {tg : Expr} {d : Addr} {o : Obj} {es : List (V × V)} {e0 : Array DictEntry} {ep : Nat}
theorem turn_keysD (it : Addr) (hod : o.data = .dict e0 ep) : Turn P w K tg (ItkD P w d o es) [it] it (fun i h => h.IsKeyIter it d i es.length ep) where
  mem := by simp
  obj := fun i h st b hb => by
    have e : b = it := by simpa using hb
    subst e
    obtain ⟨oi, e, c, dd⟩ := st
    exact ⟨oi, e, fun v z => by rw [dd] at z; cases z⟩
  keep := fun i h h' st k => st.at fun oi e => k it (by simp) oi e
  item := by
    intro X hP hw hK hc i pins s σ H E I hf st hg
    subst hP hw hK
    obtain ⟨hd, hi⟩ := hg
    obtain ⟨f0, f1, f2, f3, f4, f5⟩ := hf it (by simp)
    obtain ⟨hs, hgd, hx, κ, _, knd, e', ep', vs, hdt, hsz, _, pr, hm⟩ := frzD I hd
    obtain ⟨rfl, rfl⟩ := dict_ep hod hdt
    obtain ⟨p, hp⟩ : ∃ p, es[i]? = some p := ⟨es[i], List.getElem?_eq_getElem hi⟩
    obtain ⟨⟨k, v⟩, hkv, r1, r2⟩ := L2.paired_get pr hp
    have hl : es.length = vs.length := Paired.length pr
    rw [hl] at st
    refine wpAny_pyNext_dict_item st hm hkv fun key h' hkey st' sb => ?_
    have I1 : L2.Inv X pins σ H { s with heap := h' } := I.turned (t' := s.toks) (fun b ob hb e => (sb.2 b hb).trans e) f0 f1 f3 f4 f5
    obtain ⟨oi, e, c, dd⟩ := id st'
    refine ⟨key, rfl, go_of (s := { s with heap := h' }) e c dd (by decide) ⟨p.1, H, I1, r1 key hkey, ⟨rfl, p, hp, rfl⟩, ?_, fun b hb => (hf b hb).1⟩⟩
    show h'.IsKeyIter it d (i + 1) es.length _
    rw [hl]
    exact st'
  done := by
    intro X hP hw hK hc i pins s σ H E I hf st hg
    subst hP hw hK
    obtain ⟨hd, hi⟩ := hg
    obtain ⟨f0, f1, f2, f3, f4, f5⟩ := hf it (by simp)
    obtain ⟨hs, hgd, hx, κ, _, knd, e', ep', vs, hdt, hsz, _, pr, hm⟩ := frzD I hd
    obtain ⟨rfl, rfl⟩ := dict_ep hod hdt
    exact next_key_end (I.ok.hd hc) st hgd hdt hsz hi fun h' eb => ⟨rfl, I.turned (t' := s.toks) (fun b ob hb e => eb b ob hb e) f0 f1 f3 f4 f5⟩
  self := fun A i s Q E st h => wpAny_pyIter_keyiter st h
theorem turn_itemsD {elts : List Expr} {kk : Nat} {tpos : Pos} (it : Addr) (hod : o.data = .dict e0 ep) :
    Turn P w K (.Tuple elts kk tpos) (ItiD P w d o es) [it] it (fun i h => ∃ ok ov, IsItemIter h it d i es.length ep ok ov) where
  mem := by simp
  obj := fun i h st b hb => by
    have e : b = it := by simpa using hb
    subst e
    obtain ⟨ok, ov, e⟩ := st
    exact ⟨_, e, fun v z => nomatch z⟩
  keep := fun i h h' st k => let ⟨ok, ov, e⟩ := st; ⟨ok, ov, k it (by simp) _ e⟩
  item := by
    intro X hP hw hK hc i pins s σ H E I hf st hg
    subst hP hw hK
    obtain ⟨hd, hi⟩ := hg
    obtain ⟨hs, hgd, hx, κ, _, knd, e', ep', vs, hdt, hsz, _, pr, hm⟩ := frzD I hd
    obtain ⟨rfl, rfl⟩ := dict_ep hod hdt
    obtain ⟨p, hp⟩ : ∃ p, es[i]? = some p := ⟨es[i], List.getElem?_eq_getElem hi⟩
    obtain ⟨⟨k, u⟩, hkv, r1, r2⟩ := L2.paired_get pr hp
    have hl : es.length = vs.length := Paired.length pr
    obtain ⟨ok, ov, he⟩ := st
    rw [hl] at he
    have hlt : it < s.heap.objs.size := Heap.lt_size he
    refine wpAny_pyNext_items_item he hm hkv fun key h' hkey ho hT hz hk => ?_
    refine ⟨_, rfl, wpAny_letOwnedTupleGo_items (s := { s with heap := h' }) ho fun h'' he' sb => ?_⟩
    have hT2 : h''.get? s.heap.objs.size = some { cls := .type "tuple", data := .seq #[key, u] } := (sb.2 _ (Nat.ne_of_gt hlt)).trans hT
    have new : ObjOk X.prog X.w (upd H s.heap.objs.size (.tup [p.1, p.2])) h'' s.heap.objs.size (.tup [p.1, p.2]) :=
      ⟨by show 2 ≤ sizeLine; decide, [key, u], .cons (r1 key hkey) (.cons r2 .nil), ⟨_, hT2, rfl, _, rfl⟩⟩
    have I1 : L2.Inv X pins σ (upd H s.heap.objs.size (.tup [p.1, p.2])) { s with heap := h'' } :=
      I.turnedNew (t' := s.toks) (ch := [it]) (fun b ob hb e => (sb.2 b (by simpa using hb)).trans (hk b ob (by simpa using hb) e)) hf (Nat.le_refl _) new
    refine ⟨.ref s.heap.objs.size, _, I1, rfl, ⟨_, p, hp, rfl, I.hok.fresh (Nat.le_refl _), rfl⟩, ⟨key, u, ?_⟩, fun b hb => ?_⟩
    · rw [hl]; exact he'
    · have e : b = it := by simpa using hb
      rw [e, upd_ne (Nat.ne_of_lt hlt)]
      exact (hf it (by simp)).1
  done := by
    intro X hP hw hK hc i pins s σ H E I hf st hg
    subst hP hw hK
    obtain ⟨hd, hi⟩ := hg
    obtain ⟨f0, f1, f2, f3, f4, f5⟩ := hf it (by simp)
    obtain ⟨hs, hgd, hx, κ, _, knd, e', ep', vs, hdt, hsz, _, pr, hm⟩ := frzD I hd
    obtain ⟨rfl, rfl⟩ := dict_ep hod hdt
    have hl : es.length = vs.length := Paired.length pr
    obtain ⟨ok, ov, he⟩ := st
    rw [hl] at he
    exact wpAny_pyNext_items_end (I.ok.hd hc) he hm (List.getElem?_eq_none (by omega)) fun h' eb => ⟨rfl, I.turned (t' := s.toks) (fun b ob hb e => eb b ob hb e) f0 f1 f3 f4 f5⟩
  self := fun A i s Q E st h => let ⟨_, _, e⟩ := st; PySem.W.kcp_self e h
theorem walk_keysD : Walk (ItkD P w d o es) es.length (fun H => Dd P w H d o es) (YAt (es.map (·.1))) :=
  ⟨fun i _ hi q => ⟨q, hi⟩, fun _ q => ⟨q, Nat.le_refl _⟩, fun i _ x _ _ q y => ⟨y.1, by obtain ⟨p, e1, e2⟩ := y.2; rw [List.getElem?_map, e1, e2]; rfl⟩⟩
theorem walk_itemsD : Walk (ItiD P w d o es) es.length (fun H => Dd P w H d o es) (fun i H x H' => ∃ T p, es[i]? = some p ∧ x = .ref T ∧ H T = none ∧ H' = upd H T (.tup [p.1, p.2])) :=
  ⟨fun i _ hi q => ⟨q, hi⟩, fun _ q => ⟨q, Nat.le_refl _⟩, fun i _ x _ _ q y => y⟩
def iKeysD (P : Program) (w : World) (td : TE) : TI := fun σ H R => td σ H fun x H1 => ∃ d o es, x = .ref d ∧ Dd P w H1 d o es ∧ R (ItkD P w d o es) H1
def iItemsD (P : Program) (w : World) (td : TE) : TI := fun σ H R => td σ H fun x H1 => ∃ d o es, x = .ref d ∧ Dd P w H1 d o es ∧ R (ItiD P w d o es) H1
end
theorem vals_of_pr {κ : Type} {F : V → κ → Prop} : ∀ {es : List (V × V)} {vs : List (κ × Value)}, Paired (fun (p : V × V) (q : κ × Value) => F p.1 q.1 ∧ RelV p.2 q.2) es vs → Vals (es.map (·.2)) (vs.map (·.2))
  | _, _, .nil => .nil
  | _, _, .cons r t => .cons r.2 (vals_of_pr t)
section
variable {X : Cx} {tg e : Expr} {td : TE} {p apos cpos pos : Pos}
theorem pi_keysD (he : PE X e td) : PI X tg e (iKeysD X.prog X.w td) := by
  refine ⟨fun pins s σ H R I h => ?_⟩
  refine thn (he.run pins s σ H _ I h) fun u s1 ⟨x, H1, I1, rx, d, o, es, ex, hd, q⟩ => ?_
  subst ex
  obtain rfl : u = Value.ref d := rx
  obtain ⟨hs, hgd, hx, κ, _, knd, e', ep', vs, hdt, hsz, _, pr, hm⟩ := frzD I1 hd
  refine iter_keys hs hgd hx hdt (pi_one (tk := s1.toks) I1 _ (turn_keysD _ hdt) ⟨_, Heap.get?_push_size _ rfl, rfl, ?_⟩ q)
  rw [hsz] <;> rfl
theorem pi_itemsD {elts : List Expr} {kk : Nat} {tpos : Pos} (he : PE X e td) (hbase : attributeBase e "items" X.env (eval e X.env) = eval e X.env := by rfl) (hline : (apos.endLine == cpos.line) = true := by rfl) :
    PI X (.Tuple elts kk tpos) (.Call (.Attribute e "items" apos) [] [] cpos) (iItemsD X.prog X.w td) := by
  refine ⟨fun pins s σ H R I h => ?_⟩
  refine wpAny_Call_method (T := "dict") (id := "dict.items") hbase rfl hline F.plainAttrs_dict F.slot_dict_items F.type_dict_items (thn (he.run pins s σ H _ I h) fun u s1 ⟨x, H1, I1, rx, d, o, es, ex, hd, q⟩ => ?_)
  subst ex
  obtain rfl : u = Value.ref d := rx
  obtain ⟨hs, hgd, hx, κ, _, knd, e', ep', vs, hdt, hsz, _, pr, hm⟩ := frzD I1 hd
  have hl : es.length = vs.length := Paired.length pr
  refine ⟨hm.dictOf.typeIs, hm.dictOf.mapOf.noDict, ?_⟩
  have I2 : L2.Inv X pins σ H1 { s1 with heap := s1.heap.push { cls := .type "dict_items", data := .fields #[.ref d] } } := I1.kept (t' := s1.toks) fun b ob q => Heap.get?_push_of_some _ q
  have fin : wpAny (model X.prog X.w) X.A (pyIter (.ref s1.heap.objs.size)) (PIE X pins σ (.Tuple elts kk tpos) R) X.xe { s1 with heap := s1.heap.push { cls := .type "dict_items", data := .fields #[.ref d] } } := by
    refine wpAny_pyIter_items (d := d) (knd := knd) ⟨_, Heap.get?_push_size _ rfl, rfl, rfl⟩ (hm.push _) (pi_one (tk := s1.toks) I2 _ (turn_itemsD _ hdt) ⟨.none, .none, ?_⟩ q)
    rw [hl]
    exact Heap.get?_push_size _ rfl
  show wpAny _ _ (callWith cpos (.builtin "dict.items") [.ref d] [] []) _ X.xe s1
  exact method_meetsIn F.slot_dict_items F.entry_dict_items rfl (PySem.evalArgs_none ⟨rfl, hm.dictOf.typeIs, F.args_dict_items_1 _, _, meets_dict_items knd d hs, ⟨vs, hm.dictOf⟩, fin⟩)
/-- list(e.values()), list(e.items()) of a locked dict of data -/
def tListVals (P : Program) (w : World) (te : TE) : TE := fun σ H Q => te σ H fun x H1 => ∃ d o es, x = .ref d ∧ Dd P w H1 d o es ∧ ∀ l, H1 l = none → Q (.ref l) (upd H1 l (.lst (es.map (·.2))))
theorem pe_listVals (hc : X.calm = true) (he : PE X e td) (hg : Gl X "list") (hm : X.mg "list" = none) (hv : bootBuiltins "list" = some (.type "list")) (hbase : attributeBase e "values" X.env (eval e X.env) = eval e X.env := by rfl) (hline : (apos.endLine == cpos.line) = true := by rfl)
    (hs : starEach [.Call (.Attribute e "values" apos) [] [] cpos] X.env = (false, eval (.Call (.Attribute e "values" apos) [] [] cpos) X.env) :: starEach [] X.env := by rfl) :
    PE X (.Call (.Name "list" p) [.Call (.Attribute e "values" apos) [] [] cpos] [] pos) (tListVals X.prog X.w td) := by
  refine ⟨fun pins s σ H Q I hq => ?_⟩
  refine wpAny_Call_Name_kw (ld_blt I hg hm hv ?_)
  refine PyProof.Rows.callWith_type1 ?_ hs rfl
  rw [hs]
  show wpAny _ _ (spliced ((false, eval (.Call (.Attribute e "values" apos) [] [] cpos) X.env) :: backTo pos (starEach [] X.env))) _ _ s
  refine Calls.spliced_cons ?_
  refine wpAny_Call_method (T := "dict") (id := "dict.values") hbase rfl hline F.plainAttrs_dict F.slot_dict_values F.type_dict_values (thn (he.run pins s σ H _ I hq) fun u s1 ⟨x, H1, I1, rx, d, o, es, ex, hd, q⟩ => ?_)
  subst ex
  obtain rfl : u = Value.ref d := rx
  obtain ⟨hs0, hgd, hx, κ, _, knd, e', ep', vs, hdt, hsz, hzz, pr, hat⟩ := frzD I1 hd
  have lk : es.length = vs.length := Paired.length pr
  have I2 : L2.Inv X pins σ H1 { s1 with heap := s1.heap.push { cls := .type "dict_values", data := .fields #[.ref d] } } := I1.kept (t' := s1.toks) fun b ob q => Heap.get?_push_of_some _ q
  refine ⟨hat.dictOf.typeIs, hat.dictOf.mapOf.noDict, ?_⟩
  show wpAny _ _ (callWith cpos (.builtin "dict.values") [.ref d] [] []) _ X.xe s1
  refine method_meetsIn F.slot_dict_values F.entry_dict_values rfl (PySem.evalArgs_none ⟨rfl, hat.dictOf.typeIs, F.args_dict_values_1 _, _, meets_dict_values knd d hs0, ⟨vs, hat.dictOf⟩, ?_⟩)
  refine Calls.spliced_nil ?_
  refine PySem.W.kdl_call (PySem.W.kdl_values (knd := knd) (kvs := vs) (d := d) (ep := ep')) (I1.ok.hd hc) ⟨⟨_, Heap.get?_push_size _ rfl, rfl, rfl⟩, hat.push _⟩ (by omega) fun h' tk acc c hk hS hacc => ?_
  have rv : Vals (es.map (·.2)) acc.toList := by
    have e : acc.toList = vs.map (·.2) := PySem.W.kdl_vals_eq acc.toList (by rw [Array.length_toList]; exact hacc.1) fun j v hj => hacc.2 j v (by simpa using hj)
    rw [e]
    exact vals_of_pr (F := fun p k => ∀ u, knd.is k u = true → RelV p u) pr
  have J : L2.Inv X pins σ (upd H1 _ (.lst (es.map (·.2)))) { { s1 with heap := s1.heap.push { cls := .type "dict_values", data := .fields #[.ref d] } } with heap := h', toks := tk } :=
    I2.laid (t' := tk) hk (Nat.le_refl _) (show ObjOk X.prog X.w _ h' _ (.lst (es.map (·.2))) from ⟨by rw [List.length_map]; exact hzz, acc.toList, c, rv, by rw [Array.toArray_toList]; exact hS⟩)
  exact ⟨.ref _, _, J, rfl, q _ (I2.hok.fresh (Nat.le_refl _))⟩
/-- list(e.items()) -/
def tListItsD (P : Program) (w : World) (te : TE) : TE := fun σ H Q => te σ H fun x H1 => ∃ d o es, x = .ref d ∧ Dd P w H1 d o es ∧
  ∀ (H' : Hp) (p : Addr) (ts : List Addr), Same H1 H' → H1 p = none → (∀ t ∈ ts, H1 t = none) → p ∉ ts → H' p = some (.lst (ts.map V.ref)) → Paired (fun (t : Addr) (q : V × V) => H' t = some (.tup [q.1, q.2])) ts es → Q (.ref p) H'
theorem items_laidD {κ : Type} [DecidableEq κ] {knd : PySem.KeyKind X.prog X.w κ} {pins : List (Addr × Obj)} {σ : L2.St} {H : Hp} {s : Shared} {h' : Heap} {tk : Nat} {es : List (V × V)} {vs : List (κ × Value)} {acc : Array Value} {c : Nat} {as : List Addr} (I : L2.Inv X pins σ H s) (hz : es.length ≤ sizeLine)
    (pr : Paired (fun (p : V × V) (q : κ × Value) => (∀ u, knd.is q.1 u = true → RelV p.1 u) ∧ RelV p.2 q.2) es vs)
    (hk : ∀ b o, s.heap.get? b = some o → h'.get? b = some o) (hS : h'.get? s.heap.objs.size = some { cls := .type "list", dict := none, data := .seq acc c, slots := #[] }) (hl : as.length = vs.length) (hG : PySem.W.KdxG knd vs s.heap.objs.size h' as) (hacc : acc.toList = as.map Value.ref) :
    ∃ H' : Hp, Same H H' ∧ H s.heap.objs.size = none ∧ (∀ t ∈ as, H t = none) ∧ s.heap.objs.size ∉ as ∧ H' s.heap.objs.size = some (.lst (as.map V.ref)) ∧ Paired (fun (t : Addr) (q : V × V) => H' t = some (.tup [q.1, q.2])) as es ∧ L2.Inv X pins σ H' { s with heap := h', toks := tk } := by
  have lk : es.length = vs.length := Paired.length pr
  have hSn : s.heap.objs.size ∉ as := fun z => Nat.lt_irrefl _ (hG.above _ z)
  have nd : as.Nodup := List.Pairwise.imp (fun {a b} (h : a < b) => Nat.ne_of_lt h) hG.rise
  have new : ∀ t ∈ as, H t = none := fun t ht => I.hok.fresh (Nat.le_of_lt (hG.above t ht))
  have newS : H s.heap.objs.size = none := I.hok.fresh (Nat.le_refl _)
  have atP := putP_at as es (upd H s.heap.objs.size (.lst (as.map V.ref))) (by omega) nd
  have off : ∀ b, b ∉ as → b ≠ s.heap.objs.size → putP (upd H s.heap.objs.size (.lst (as.map V.ref))) as es b = H b := fun b h1 h2 => by rw [putP_off as es _ h1, upd_ne h2]
  have low : ∀ b o, s.heap.get? b = some o → b ∉ as ∧ b ≠ s.heap.objs.size := fun b o e => ⟨fun z => absurd (Heap.lt_size e) (Nat.not_lt.mpr (Nat.le_of_lt (hG.above b z))), Nat.ne_of_lt (Heap.lt_size e)⟩
  have kp : ∀ b u, H b = some u → (putP (upd H s.heap.objs.size (.lst (as.map V.ref))) as es) b = some u := fun b u e => by
    rw [off b (fun z => by rw [new b z] at e; cases e) (fun z => by rw [z, newS] at e; cases e)]
    exact e
  have eS : putP (upd H s.heap.objs.size (.lst (as.map V.ref))) as es s.heap.objs.size = some (.lst (as.map V.ref)) := by rw [putP_off as es _ hSn, upd_same]
  refine ⟨putP (upd H s.heap.objs.size (.lst (as.map V.ref))) as es, kp, newS, new, hSn, eS, atP, ?_⟩
  refine I.call' (ch := []) rfl ⟨fun b o q _ _ _ => hk b o q, fun b o q _ _ _ => ⟨o.slots, hk b o q⟩, fun b o q n _ => ?_, fun b o q _ => ⟨o, hk b o q⟩, fun b xs q => kp b _ q, fun b o u q => kp b _ q, fun b ps q => ⟨#[], by rw [kp b _ q]; simp⟩⟩ (fun b u q => ?_) I.bare fun b z => by simp at z
  · obtain ⟨z1, z2⟩ := low b o q
    rw [off b z1 z2]
    exact n
  · by_cases hb : b ∈ as
    · obtain ⟨j, pk, e1, e2, e3⟩ := LiI.paired_ix atP hb
      rw [e3] at q
      cases q
      obtain ⟨key, k, x, f1, f2, f3⟩ := hG.pairs j b e1
      obtain ⟨qv, g1, g2, g3⟩ := L2.paired_get pr e2
      rw [f1] at g1
      cases g1
      exact ⟨by show 2 ≤ sizeLine; decide, [key, x], .cons (g2 key f2) (.cons g3 .nil), ⟨_, f3, rfl, _, rfl⟩⟩
    · by_cases hb2 : b = s.heap.objs.size
      · rw [hb2] at q ⊢
        rw [eS] at q
        cases q
        refine ⟨by rw [List.length_map]; omega, acc.toList, c, by rw [hacc]; exact LiI.vals_refs as, ?_⟩
        rw [Array.toArray_toList]
        exact hS
      · rw [off b hb hb2] at q
        exact (I.hok b u q).stay (fun d v _ y => hk d v y) (fun d y => kp d _ y) fun d xs y => kp d _ y
theorem pe_listItsD (hc : X.calm = true) (he : PE X e td) (hg : Gl X "list") (hm : X.mg "list" = none) (hv : bootBuiltins "list" = some (.type "list")) (hbase : attributeBase e "items" X.env (eval e X.env) = eval e X.env := by rfl) (hline : (apos.endLine == cpos.line) = true := by rfl)
    (hs : starEach [.Call (.Attribute e "items" apos) [] [] cpos] X.env = (false, eval (.Call (.Attribute e "items" apos) [] [] cpos) X.env) :: starEach [] X.env := by rfl) :
    PE X (.Call (.Name "list" p) [.Call (.Attribute e "items" apos) [] [] cpos] [] pos) (tListItsD X.prog X.w td) := by
  refine ⟨fun pins s σ H Q I hq => ?_⟩
  refine wpAny_Call_Name_kw (ld_blt I hg hm hv ?_)
  refine PyProof.Rows.callWith_type1 ?_ hs rfl
  rw [hs]
  show wpAny _ _ (spliced ((false, eval (.Call (.Attribute e "items" apos) [] [] cpos) X.env) :: backTo pos (starEach [] X.env))) _ _ s
  refine Calls.spliced_cons ?_
  refine wpAny_Call_method (T := "dict") (id := "dict.items") hbase rfl hline F.plainAttrs_dict F.slot_dict_items F.type_dict_items (thn (he.run pins s σ H _ I hq) fun u s1 ⟨x, H1, I1, rx, d, o, es, ex, hd, q⟩ => ?_)
  subst ex
  obtain rfl : u = Value.ref d := rx
  obtain ⟨hs0, hgd, hx, κ, _, knd, e', ep', vs, hdt, hsz, hzz, pr, hat⟩ := frzD I1 hd
  have lk : es.length = vs.length := Paired.length pr
  have I2 : L2.Inv X pins σ H1 { s1 with heap := s1.heap.push { cls := .type "dict_items", data := .fields #[.ref d] } } := I1.kept (t' := s1.toks) fun b ob q => Heap.get?_push_of_some _ q
  refine ⟨hat.dictOf.typeIs, hat.dictOf.mapOf.noDict, ?_⟩
  show wpAny _ _ (callWith cpos (.builtin "dict.items") [.ref d] [] []) _ X.xe s1
  refine method_meetsIn F.slot_dict_items F.entry_dict_items rfl (PySem.evalArgs_none ⟨rfl, hat.dictOf.typeIs, F.args_dict_items_1 _, _, meets_dict_items knd d hs0, ⟨vs, hat.dictOf⟩, ?_⟩)
  refine Calls.spliced_nil ?_
  refine PySem.W.kdx_call (knd := knd) (kvs := vs) (ep := ep') (I1.ok.hd hc) ⟨_, Heap.get?_push_size _ rfl, rfl, rfl⟩ (hat.push _) (by omega) fun h' tk acc c as hk hS hl hG hacc => ?_
  obtain ⟨H', k1, k2, k3, k4, k5, k6, J⟩ := items_laidD (tk := tk) I2 hzz pr hk hS hl hG hacc
  exact ⟨.ref _, H', J, rfl, q H' _ as k1 k2 k3 k4 k5 k6⟩
end
/-! ### a thing that was just made is locked for good -/
section
variable {X : Cx} {e : Expr} {t : TE}
def tFz (t : TE) : TE := fun σ H Q => t σ H fun v H' => ∃ d u, v = .ref d ∧ H' d = some u ∧ Mut (some u) ∧ ∀ o, Q v (upd H' d (.frz o u))
theorem pe_fz (h : PE X e t) : PE X e (tFz t) := by
  refine ⟨fun pins s σ H Q I hq => ?_⟩
  refine thn (h.run pins s σ H _ I hq) fun v s1 ⟨x, H1, I1, rx, d, u, ex, hd, mu, q⟩ => ?_
  obtain ⟨od, J⟩ := I1.lock hd mu
  exact ⟨x, _, J, rx, q od⟩
theorem pe_mono {e : Expr} {t t' : TE} (h : PE X e t) (f : ∀ σ H Q, t' σ H Q → t σ H Q) : PE X e t' := ⟨fun pins s σ H Q I q => h.run pins s σ H Q I (f σ H Q q)⟩
theorem pa_mono {es : List Expr} {t t' : TA} (h : PA X es t) (f : ∀ σ H Q, t' σ H Q → t σ H Q) : PA X es t' := ⟨fun pos pins s σ H Q I q => h.run pos pins s σ H Q I (f σ H Q q)⟩
end
end K00
set_option Elab.async false
set_option linter.all false
set_option maxRecDepth 100000
set_option maxHeartbeats 4000000
/-! K00M: a list beside [], a dict beside {}, count of a bool. -/
namespace PySem.SeqAt
open AutoSeq1 (wpAny_loadPart')
open MeetsSeq MeetsSeq2 MeetsSeq3 SeqRoads2
section
variable {prog : Program} {w : World}
theorem k00_list_neIn (l b : Addr) (items items2 : Array Value) (n n2 : Nat) (dd dd2 : Option Addr) (sl sl2 : Array (Option Value)) (h2 : items2.size = 0) :
    MeetsIn prog w (Builtin.«list.__ne__» ⟨[.ref l, .ref b], []⟩)
      (fun A R s => s.heap.get? l = some { cls := .type "list", dict := dd, data := .seq items n, slots := sl } ∧ s.heap.get? b = some { cls := .type "list", dict := dd2, data := .seq items2 n2, slots := sl2 } ∧
        R (.ok (.ret (.bool (items.size != 0)))) s) := by
  intro A R s h
  obtain ⟨hp, g, d, tk, os⟩ := s; obtain ⟨hl, hb, h⟩ := h
  have f3 := AutoSeq1.sub_list_list
  by_cases hz : items.size = 0
  · have hne : ¬ (items.size != items2.size) = true := by simp [hz, h2]
    wp_walk using wpAny_loadPart' hl, wpAny_loadPart' hb
    refine ⟨plainId_quiet plain_eq_loop _, codeAny_builtin entry_eq_loop ?_⟩
    rw [Around.under_plainId plain_eq_loop _]
    wp_walk using wpAny_loadPart' hl, wpAny_loadPart' hb
    have e1 : items[((0 : Int)).toNat]? = none := Array.getElem?_eq_none (Nat.le_of_eq hz)
    have e2 : items2[((0 : Int)).toNat]? = none := Array.getElem?_eq_none (Nat.le_of_eq h2)
    rw [e1, e2]
    wp_walk using wpAny_loadPart' hl, wpAny_loadPart' hb
    show R (.ok (.ret (.bool (items.size != items2.size)))) _
    rw [h2]
    exact h
  · have hne : (items.size != items2.size) = true := by simp [hz, h2]
    wp_walk using wpAny_loadPart' hl, wpAny_loadPart' hb
    have e : (items.size != 0) = true := by simp [hz]
    rw [e] at h
    exact h
theorem k00_ne_nil {A : Around} {E : Value → Shared → Prop} {s : Shared} {l b : Addr} {items items2 : Array Value} {Q : Value → Shared → Prop} (hl : s.heap.IsList l items) (hb : s.heap.IsList b items2) (h2 : items2.size = 0) (hu : A.units < cLine)
    (h : Q (.bool (items.size != 0)) s) : wpAny (model prog w) A (compareOp .NotEq (.ref l) (.ref b)) Q E s := by
  obtain ⟨⟨cls, dd, data, sl⟩, ho, hc, n, hd⟩ := id hl
  obtain ⟨⟨cls2, dd2, data2, sl2⟩, ho2, hc2, n2, hd2⟩ := id hb
  simp only at hc hd hc2 hd2
  subst hc hd hc2 hd2
  have ta : s.TypeIs (.ref l) "list" := ⟨_, ho, rfl⟩
  have tb : s.TypeIs (.ref b) "list" := ⟨_, ho2, rfl⟩
  show wpAny _ _ (richCompare .NotEq (.ref l) (.ref b)) _ _ _
  exact wpAny_richCompare_same_room (op := .NotEq) ta tb F.slot_list_ne (call_meetsIn F.slot_list_ne ta F.entry_list_ne (F.args_list_ne_2 _ _) (k00_list_neIn l b items items2 n n2 dd dd2 sl sl2 h2)
    ⟨ho, ho2, show Value.bool (items.size != 0) ≠ Value.notImplemented ∧ Q (.bool (items.size != 0)) s from ⟨(fun x => nomatch x), h⟩⟩) hu
end
end PySem.SeqAt
namespace PySem.W
section
variable {prog : Program} {w : World} {K : Type} [DecidableEq K] {knd : KeyKind prog w K} {A : Around} {s : Shared}
theorem k00_ne_dicts {a b : Addr} {ka kb : List (K × Value)} {E : Value → Shared → Prop} {Q : Value → Shared → Prop} (ha : (a == sysModules) = false) (hb : (b == sysModules) = false)
    (da : s.heap.DictOf knd a ka) (db : s.heap.DictOf knd b kb) (hkb : kb = []) (hu : A.units < cLine) (h : Q (.bool (!ka.isEmpty)) s) : wpAny (model prog w) A (compareOp .NotEq (.ref a) (.ref b)) Q E s := by
  show wpAny _ _ (richCompare .NotEq (.ref a) (.ref b)) _ _ _
  refine wpAny_richCompare_same_room (op := .NotEq) da.typeIs db.typeIs PySem.F.slot_dict_ne (wpAny_call_entry PySem.F.slot_dict_ne da.typeIs PySem.F.entry_dict_ne ?_ (PySem.F.args_dict_ne_2 _ _)) hu
  show wpAny _ _ (Builtin.Dict.dictSlotArgs "__ne__" ⟨[.ref a, .ref b], []⟩ >>= _) _ _ s
  refine wpAny_bind ?_
  unfold Builtin.Dict.dictSlotArgs
  refine wpAny_bind (wpAny_notOrdered_dict da.typeIs ?_)
  show wpAny _ _ (pure (Value.ref a, Value.ref b)) _ _ s
  refine wpAny_pure ?_
  refine wpAny_bind (wpAny_isInstance (T := "dict") db.typeIs PySem.F.sub_dict_dict ?_)
  simp only [Bool.not_true, Bool.false_eq_true, if_false]
  refine wpAny_bind (wpAny_pure (wpAny_bind (wpAny_pure ?_)))
  subst hkb
  cases ka with
  | nil =>
    refine wpAny_bind (samePairsP (r := true) ha hb da db (fun _ => .nil) ?_)
    refine wpAny_pure ⟨_, rfl, ?_, ?_⟩
    · exact fun x => nomatch x
    · simpa using h
  | cons p r =>
    refine wpAny_bind (samePairsP (r := true) ha hb da db (fun z => by cases z) ?_)
    refine wpAny_pure ⟨_, rfl, ?_, ?_⟩
    · exact fun x => nomatch x
    · simpa using h
end
end PySem.W
namespace K00
open PySem PySem.Spec PyProof.Rows L2
section
variable {X : Cx}
def rNeNil (K : PySem.W.Frag) : R2 := fun x y H Q => ∃ a b xs, x = .ref a ∧ y = .ref b ∧ SqL K H a xs ∧ SqL K H b [] ∧ Q (.bl (!xs.isEmpty)) H
theorem op_neNil (hu : X.A.units < cLine) : OpR X (compareOp .NotEq) (rNeNil X.K) := by
  intro pins s σ H x y v u Q I rx ry h
  obtain ⟨a, b, xs, rfl, rfl, hx, hy, q⟩ := h
  cases rx
  cases ry
  obtain ⟨its, rv, p1, hz1⟩ := I.list hx
  obtain ⟨its2, rv2, p2, hz2⟩ := I.list hy
  have l1 := rv.length
  have l2 := rv2.length
  refine PySem.SeqAt.k00_ne_nil p1.isList p2.isList (by simpa using l2.symm) hu ⟨.bl _, H, I, ?_, q⟩
  show Value.bool _ = Value.bool _
  congr 1
  cases xs with
  | nil => simp at l1; simp [← l1]
  | cons x r => simp at l1; simp [← l1]
def rNeNilD (P : Program) (w : World) : R2 := fun x y H Q => ∃ a b kvs, x = .ref a ∧ y = .ref b ∧ Rd H a (.dK kvs) ∧ Rd H b (.dK []) ∧ Q (.bl (!kvs.isEmpty)) H
theorem op_neNilD (hu : X.A.units < cLine) : OpR X (compareOp .NotEq) (rNeNilD X.prog X.w) := by
  intro pins s σ H x y v u Q I rx ry h
  obtain ⟨a, b, kvs, rfl, rfl, hx, hy, q⟩ := h
  cases rx
  cases ry
  obtain ⟨_, hd, vs, kv, dd⟩ := dk_rd I.hok hx
  obtain ⟨_, hd2, vs2, kv2, dd2⟩ := dk_rd I.hok hy
  have l1 : kvs.length = vs.length := Paired.length kv
  cases kv2
  refine PySem.W.k00_ne_dicts hd hd2 dd dd2 rfl hu ⟨.bl _, H, I, ?_, q⟩
  show Value.bool _ = Value.bool _
  congr 1
  cases kvs with
  | nil => cases vs with
    | nil => rfl
    | cons _ _ => cases l1
  | cons x r => cases vs with
    | nil => cases l1
    | cons _ _ => rfl
end
end K00
set_option Elab.async false
set_option linter.all false
set_option maxRecDepth 100000
set_option maxHeartbeats 4000000
/-! K00N: an error that is kept: its value, isinstance of it; a lambda handed on, what it raises told at the very slots; _law_heard. -/
namespace K00
open PySem PySem.Spec L2 LamX
open PyProof.Rows (envOfC)
/-- u is an error of the class at C that holds v, kept behind its except clause -/
def IsKept (H : Hp) (C : Addr) (v u : V) : Prop := ∃ a d : Addr, u = .ref a ∧ H a = some (erk a (.ref C) (some d)) ∧ H d = some (.xd [(("value" : Str), v)])
theorem IsKept.same {H H' : Hp} {C : Addr} {v u : V} (h : IsKept H C v u) (k : Same H H') : IsKept H' C v u := by
  obtain ⟨a, d, h0, h1, h2⟩ := h
  exact ⟨a, d, h0, k _ _ h1, k _ _ h2⟩
section
variable {X : Cx} {fI : Addr}
theorem inst_ofK {pins : List (Addr × Obj)} {σ : L2.St} {H : Hp} {s : Shared} {C a d : Addr} {v : V} (I : L2.Inv X pins σ H s) (h1 : H a = some (erk a (.ref C) (some d))) (h2 : H d = some (.xd [(("value" : Str), v)])) :
    ∃ (ox od : Obj) (u : Value), PySem.W.InstAt s.heap a ox C (some od) ∧ PySem.W.lookIn "value" od = some (some u) ∧ RelV v u := by
  obtain ⟨oe, vs, ha, hz, hd⟩ := erk_at I.hok h1
  have hx : ObjOk X.prog X.w H s.heap d (.xd [(("value" : Str), v)]) := I.hok d _ h2
  obtain ⟨mA, hns, hr⟩ := hx
  obtain ⟨od, ho, hl⟩ := lookIn_ns hns
  have l : List.lookup ("value" : Str) [(("value" : Str), v)] = some v := by simp [List.lookup]
  obtain ⟨u, hu, ru⟩ := RelO.some_of (v := v) (o := mA "value") (by rw [← l]; exact hr "value")
  exact ⟨oe, od, u, ⟨ha, hz.1, by unfold PySem.W.notCls; rw [hd] <;> rfl, by rw [hz.2]; exact ho⟩, by rw [hl, hu], ru⟩
def tValK (K : PySem.W.Frag) (fI : Addr) (te : TE) : TE := fun σ H Q => te σ H fun x H1 => ∃ (C : Addr) (v : V), ErrT K C fI ∧ IsKept H1 C v x ∧ Q v H1
theorem pe_valK {e : Expr} {te : TE} {pos : Pos} (he : PE X e te) (hb : attributeBase e "value" X.env (eval e X.env) = eval e X.env := by rfl) :
    PE X (.Attribute e "value" pos) (tValK X.K fI te) := by
  refine ⟨fun pins s σ H Q I h => ?_⟩
  refine attr_of hb (thn (he.run pins s σ H _ I h) fun u s1 hh => ?_)
  obtain ⟨x, H1, I1, rx, C, v, T, ⟨a, d, rfl, h1, h2⟩, q⟩ := hh
  obtain rfl : u = Value.ref a := rx
  obtain ⟨ox, od, u, J, hl, ru⟩ := inst_ofK I1 h1 h2
  exact HandSPX.exc_get I1.kIn J T.ga T.gg T.exC (PySem.W.findObj_own T.hdC T.noN rfl hl) (handed_of ru) ⟨v, H1, I1.tok _, ru, q⟩
def rIsErrK (K : PySem.W.Frag) (fI : Addr) : List V → Hp → VK → Prop := fun xs H Q => ∃ (x c : V) (C : Addr) (v : V) (u : Value) (b : Bool), xs = [x, c] ∧ ClsV c u ∧ ErrT K C fI ∧ IsKept H C v x ∧ PySem.W.kitOne K (.ref C) u = some b ∧ Q (.bl b) H
theorem call_isErrK (T0 : InitT X.K fI) : CallR X (.builtin "isinstance") (rIsErrK X.K fI) := by
  intro pins s σ H xs us Q I r h
  obtain ⟨x, c, C, v, cv, b, rfl, hcv, T, ⟨a, d, rfl, h1, h2⟩, e, q⟩ := h
  obtain ⟨u1, u2, rfl, r1, r2⟩ := vals2 r
  have e2 := hcv.eq r2
  subst e2
  cases (show u1 = Value.ref a from r1)
  obtain ⟨ox, od, _, J, _, _⟩ := inst_ofK I h1 h2
  have hcl : (PySem.W.clsIn X.K C).isSome = true := by
    obtain ⟨nm, q, N, bs, bm, sn, sub, ab, col, dd, k0, k1, k2, k3, k5, hC, _⟩ := T.cls
    unfold PySem.W.clsIn
    rw [hC] <;> rfl
  exact PySem.W.kia_one (PySem.W.kitx_exc (od := some od) hcl T.ga T.gg T.exC T.cl T0.gt T0.tk T.ob) I.kIn J e (fun z => nomatch z) fun tk => ⟨.bl b, H, I.tok tk, rfl, q⟩
/-- xs.count(True) of a list of bools -/
def rCntB (K : PySem.W.Frag) : V → List V → Hp → VK → Prop := fun x xs H Q => ∃ (p : Addr) (bs : List Bool) (k : Bool), x = .ref p ∧ xs = [.bl k] ∧ SqL K H p (bs.map V.bl) ∧ Q (.int (bs.count k : Nat)) H
theorem vals_bls : ∀ {bs : List Bool} {its : List Value}, Vals (bs.map V.bl) its → its = bs.map Value.bool
  | [], _, .nil => rfl
  | b :: bs, _, .cons r t => by
    have e : _ = Value.bool b := r
    rw [e, vals_bls t]
    rfl
theorem mt_countB : MtR X "list.count" (rCntB X.K) := by
  intro pins s σ H x xs v us Q I rx rxs h
  obtain ⟨p, bs, k, rfl, rfl, hs, q⟩ := h
  cases rx
  obtain ⟨u, rfl, ru⟩ := rxs.one
  obtain rfl : u = Value.bool k := ru
  obtain ⟨its, rv, ⟨⟨cls, dd, data, sl⟩, n, ho, hc, hdn, hd⟩, hlen⟩ := I.list hs
  simp only at hc hd
  subst hc hd
  have hi := vals_bls rv
  refine PySem.call_meets PySem.F.slot_list_count ⟨_, ho, rfl⟩ PySem.F.entry_list_count (PySem.F.args_list_count_2 _ _)
    (SeqAt.list_countAt p its.toArray n dd sl (.bool k) (fun y => y == .bool k)) ⟨ho, fun y hy => ?_, ?_⟩
  · have hy' : y ∈ its := by simpa using hy
    rw [hi] at hy'
    obtain ⟨b, _, rfl⟩ := List.mem_map.mp hy'
    have z := SeqAt.EqAt.bool_bool (A := X.A.in1) (s := s) b k
    have e : (Value.bool b == Value.bool k) = (b == k) := by cases b <;> cases k <;> rfl
    show SeqAt.EqAt _ _ _ _ (Value.bool b == Value.bool k)
    rw [e]
    exact z
  · have ec : its.toArray.toList.countP (fun y => y == Value.bool k) = bs.count k := by
      rw [hi]
      show List.countP _ (bs.map Value.bool) = _
      rw [List.countP_map]
      unfold List.count
      congr 1
      funext b
      cases b <;> cases k <;> rfl
    refine ⟨.int (bs.count k : Nat), H, I.tok _, ⟨s.toks, ?_⟩, q⟩
    show Value.int ((its.toArray.toList.countP (fun y => y == Value.bool k) : Nat) : Int) s.toks = Value.int ((bs.count k : Nat) : Int) s.toks
    rw [ec]
end
/-! ### the lambda -/
section
variable {X : Cx} {pins : List (Addr × Obj)} {σ : L2.St} {H HZ : Hp} {s s1 : Shared}
theorem pe_actE {CXg : CXT} {Eg : XK} {Ng : List Str} {qg : Str} {sg : Scope} {g f c' : Addr} {cdg pm ctv : Value} {params : Arguments} {body : Expr} {scope : Scope} {k i : Nat} {a : Str} {pn : List (Addr × Obj)} {xe : Value → Shared → Prop} {W : WX} {tb : XK → TE} {p1 p2 : Pos}
    (I : L2.Inv X pins σ H s) (L : LamS X.env.scope scope) (hf : s.heap.get? f = some (PySem.W.kla_obj "<lambda>" (X.env.qual ++ "<lambda>") params body scope (cloFrom X.env.cells scope.names []) pm c' ctv)) (hfn : H f = none) (hfr : f ∉ frs X.stack)
    (hbind : bindArgs (PySem.W.kla_fn "<lambda>" (X.env.qual ++ "<lambda>") params body scope (cloFrom X.env.cells scope.names []) pm (.ref c') ctv) ⟨[], []⟩ = pure [])
    (tk : Takes ((cxOf CXg X.prog X.w X.K X.mg X.base Ng qg sg g cdg X.A X.stack s H Eg).tr pn xe) W) (hr : Room (k + 1) (X.A.deeper (envOfC qg sg s.heap.objs.size g cdg)))
    (hbody : ∀ (A : Around) (outer : List Env) (s : Shared) (H : Hp) (E : XK), Room k (A.deeper (lamEnv X scope s.heap.objs.size f c')) → PE (lamCx X A outer s H E scope f c') body (tb E))
    (hN : Ng[i]? = some a) (hv : Vis sg a) (hd : (a == ("__debug__" : Str)) = false := by decide) (hcd : (a == ("__classdict__" : Str)) = false := by decide) :
    PE ((cxOf CXg X.prog X.w X.K X.mg X.base Ng qg sg g cdg X.A X.stack s H Eg).tr pn xe) (.Call (.Name a p1) [] [] p2)
      (fun σZ HZ Q => ∃ E : XK, (∀ cls d H', E cls d H' → W cls d σZ H') ∧ σZ[i]? = some (some (.ref f)) ∧ HZ c' = some (CodeO c' (X.env.qual ++ "<lambda>")) ∧ tb E σ HZ Q) := by
  refine ⟨fun pinsZ sZ σZ HZ Q IZ h => ?_⟩
  obtain ⟨E, hW, hs, hc, ht⟩ := h
  refine wpAny_Call_Name_kw (thn ((pe_var (pos := p1) (i := i) hN hv hd hcd).run pinsZ sZ σZ HZ (fun v H1 => v = .ref f ∧ H1 = HZ) IZ ⟨.ref f, hs, rfl, rfl⟩) fun u s1 ⟨v, H1, I1, r1, q1⟩ => ?_)
  obtain ⟨ev, eH⟩ := q1
  subst ev
  rw [eH] at I1
  obtain rfl : u = Value.ref f := r1
  have of1 : s1.heap.get? f = some (PySem.W.kla_obj "<lambda>" (X.env.qual ++ "<lambda>") params body scope (cloFrom X.env.cells scope.names []) pm c' ctv) := I1.base.keep f _ hf hfn hfr (fun z => nomatch (show f ∈ ([] : List Addr) from z))
  refine PySem.W.callWith_F0 ⟨_, _, _, _, of1⟩ ?_
  have un : Un (frs X.stack) [] H HZ s.heap s1.heap := I1.base
  obtain ⟨⟨oc, vs, t, hoc, hdc, hvc⟩, _, _⟩ := I1.hok c' _ hc
  have rc : codeAny (model X.prog X.w) (X.A.deeper (envOfC qg sg s.heap.objs.size g cdg)) (.call (.ref f) ⟨[], []⟩) (CR (L2.CX X.prog X.w) (envOfC qg sg s.heap.objs.size g cdg :: X.stack) X.prog X.w HZ s1 Q E) s1 := by
    refine PySem.W.kla_callFunE hr.depth of1 rfl L.co L.gen rfl ⟨c', oc, vs, t, rfl, hoc, hdc, hvc⟩ ?_
    rw [hbind]
    refine wpAny_pure (wpAny_newFunctionEnv (fun y hy => (L.own y hy).2) (fun y hy => absurd hy (by simp)) (fun h₁ hns hsb => ⟨I1.nolimit.fresh _ hsb, ?_⟩) L.kind)
    show codeAny _ _ (.expr body (lamEnv X scope s1.heap.objs.size f c')) _ _
    have kp : ∀ b o, s1.heap.get? b = some o → h₁.get? b = some o := fun b o e => hsb.extBut b o (Nat.ne_of_lt (Heap.lt_size e)) (Heap.get?_push_of_some _ e)
    have J : L2.Inv (lamCx X (X.A.deeper (envOfC qg sg s.heap.objs.size g cdg)) (envOfC qg sg s.heap.objs.size g cdg :: X.stack) s1 HZ E scope f c') [] σ HZ { s1 with heap := h₁, toks := s1.toks + ([] : List (Str × Value)).length } :=
      lam_start2 I L I1.env0 hr.hd un hns kp
    refine PySem.W.kla_codeExpr (wpAny_mono ((hbody _ _ s1 HZ E (hr.deeper _)).run [] _ _ HZ Q J ht) (fun v s' hq => ?_) fun e s' hq => hq)
    obtain ⟨w', H', J', rv, q⟩ := hq
    exact ⟨w', H', J'.os, J'.bare, J'.base, J'.hok, rv, q⟩
  refine wpAny_call (codeAny_mono rc fun r s' hq => ?_)
  cases r with
  | error e => exact tk e s' (XE.of_call I1 hW hq)
  | ok fl =>
    cases fl with
    | ret u => exact I1.after hq
    | next => exact False.elim hq
    | brk => exact False.elim hq
    | cont => exact False.elim hq
end
/-- the def that calls what it got: a calls it; TT: what it makes of the lambda's reading -/
def GivesE (X : Cx) (Ng : List Str) (x : Str) (sg : Scope) (g : Addr) (cdg : Value) (bg : List Stmt) (a : Str) (q : Str) (k : Nat) (TT : (XK → Hp → VK → Prop) → Hp → VK → Prop) : Prop :=
  ∀ (f c' : Addr) (s : Shared) (H : Hp) (Q : VK) (tl : XK → Hp → VK → Prop), Room k (X.A.deeper (envOfC x sg s.heap.objs.size g cdg)) →
    (∀ (W : WX) (pn : List (Addr × Obj)) (xe : Value → Shared → Prop) (p1 p2 : Pos), Takes ((cxOf C8.CX0 X.prog X.w X.K X.mg X.base Ng x sg g cdg X.A X.stack s H C8.E0).tr pn xe) W →
      PE ((cxOf C8.CX0 X.prog X.w X.K X.mg X.base Ng x sg g cdg X.A X.stack s H C8.E0).tr pn xe) (.Call (.Name a p1) [] [] p2) (fun σZ HZ Q => ∃ E : XK, (∀ cls d H', E cls d H' → W cls d σZ H') ∧ σZ[0]? = some (some (.ref f)) ∧ HZ c' = some (CodeO c' q) ∧ tl E HZ Q)) →
    H c' = some (CodeO c' q) → TT tl H Q →
    ∃ t, PSs (cxOf C8.CX0 X.prog X.w X.K X.mg X.base Ng x sg g cdg X.A X.stack s H C8.E0).nox bg t ∧ t { nx := fun _ H' => Q .non H', rt := Q } (L2.start Ng [.ref f]) H
section
variable {X : Cx}
/-- x(lambda: body) -/
theorem pe_lamcallE {T : List (Addr × Str)} {TT : (XK → Hp → VK → Prop) → Hp → VK → Prop} {x a : Str} {g c P : Addr} {k : Nat} {pg : Arguments} {bg : List Stmt} {sg : Scope} {dV kV doc pm cdv ct oc : Value} {an od : Option Addr} {osl : Array (Option Value)} {Ng : List Str}
    {params : Arguments} {body : Expr} {scope : Scope} {t : XK → TE} {p lpos pos : Pos} (hg : Gl X x) (hm : X.mg x = some (.ref g)) (hk : PySem.W.keepIn X.K (.ref g) = true)
    (lk : X.K.lookup g = some ⟨oc, od, .func (PySem.W.fnOf x x pg bg sg dV kV doc pm an cdv ct), osl⟩) (hcg : PySem.W.codeIn X.K cdv x = true) (hb : L2.Binds X.K (PySem.W.fnOf x x pg bg sg dV kV doc pm an cdv ct) [a] []) (Sg : FnScope Ng [a] sg) (hNg : Ng[0]? = some a) (hva : Vis sg a)
    (hG : GivesE X Ng x sg g cdv bg a (X.env.qual ++ "<lambda>") (k + 1) TT)
    (TB : TabB X.base X.mg c P) (hcode : X.env.code = .ref c) (hmT : (P, X.env.qual ++ "<lambda>") ∈ T) (hu : ∀ p ∈ T, p.1 = P → p.2 = X.env.qual ++ "<lambda>") (hr : Room (k + 2) X.A) (L : LamS X.env.scope scope) (hdef : defaultsOf params X.env = ([], []))
    (hbind : ∀ (q : Str) (cl : List (Str × Addr)) (pm cv ctv : Value), bindArgs (PySem.W.kla_fn "<lambda>" q params body scope cl pm cv ctv) ⟨[], []⟩ = pure [])
    (hbody : ∀ (A : Around) (outer : List Env) (s : Shared) (H : Hp) (E : XK) (f c' : Addr), Room k (A.deeper (lamEnv X scope s.heap.objs.size f c')) → PE (lamCx X A outer s H E scope f c') body (t E))
    (hdb : (x == ("__debug__" : Str)) = false := by decide) (hd : (a == ("__debug__" : Str)) = false := by decide) (hcd : (a == ("__classdict__" : Str)) = false := by decide) :
    PE X (.Call (.Name x p) [.Lambda params body scope lpos] [] pos) (tLam T TT t) := by
  refine ⟨fun pins s σ H Q I h => ?_⟩
  obtain ⟨hT, h⟩ := h
  refine wpAny_Call_Name_kw (ld_glob I hg hm ?_ hdb)
  refine PySem.W.callWith_K (h₀ := X.base) I.ok.mod.kin hk ?_ (by rfl) (by rfl)
  show wpAny _ _ (spliced ((false, eval (.Lambda params body scope lpos) X.env) :: backTo pos (starEach [] X.env))) _ _ s
  refine Calls.spliced_cons (lam_make2 I TB hcode hmT hu hT hdef (L.has I.ok) fun f c' pm' ctv H1 s' I1 eN T1 hf hfn hfr hco => ?_)
  refine Calls.spliced_nil ⟨I1.kIn, ?_⟩
  have rc : codeAny (model X.prog X.w) X.A (.call (.ref g) ⟨[.ref f], []⟩) (CR C8.CX0 X.stack X.prog X.w H1 s' Q C8.E0) s' := by
    refine run_ofS (N := Ng) (ps := [a]) (us := [.ref f]) (vs := [.ref f]) lk hcg Sg hr I1.env0 (hb s' [.ref f] I1.kIn rfl) (.cons rfl .nil) rfl fun hr' => ?_
    obtain ⟨t', ht', hq'⟩ := hG f c' s' H1 Q (fun E H' Q' => t E σ H' Q') hr' (fun W pn xe p1 p2 tk => pe_actE (i := 0) I1 L hf hfn hfr (hbind _ _ _ _ _) tk hr' (fun A outer s H E hr2 => hbody A outer s H E f c' hr2) hNg hva hd hcd) hco (h H1 eN T1)
    exact ⟨t', ht'.nox, hq'⟩
  refine wpAny_call (codeAny_mono rc fun r s2 hq => ?_)
  cases r with
  | error e => exact (show False from hq).elim
  | ok fl =>
    cases fl with
    | ret u => exact I1.after hq
    | next => exact False.elim hq
    | brk => exact False.elim hq
    | cont => exact False.elim hq
end
end K00
set_option Elab.async false
set_option linter.all false
set_option maxRecDepth 100000
set_option maxHeartbeats 4000000
/-! K00O: when two documents are the same: their inks, and what can be told part by part. -/
namespace K00
open PySem PySem.Spec PyProof.Rows
def kS : PyData → Str
  | .str s => s
  | _ => ""
def LeS (a b : Str) : Prop := ltCps b.cps.toList a.cps.toList = false
theorem leS_iff {a b : Str} : LeS a b ↔ a.cps.toList ≤ b.cps.toList := by
  unfold LeS
  rw [ltCps_eq]
  constructor
  · intro h
    exact List.not_lt.mp (of_decide_eq_false h)
  · intro h
    exact decide_eq_false (List.not_lt.mpr h)
theorem str_ext {a b : Str} (h : a.cps.toList = b.cps.toList) : a = b := PyProof.Rows.str_of_list h
theorem leS_trans {a b c : Str} (h : LeS a b) (k : LeS b c) : LeS a c := leS_iff.mpr (List.le_trans (leS_iff.mp h) (leS_iff.mp k))
theorem leS_anti {a b : Str} (h : LeS a b) (k : LeS b a) : a = b := str_ext (List.le_antisymm (leS_iff.mp h) (leS_iff.mp k))
theorem leS_total (a b : Str) : LeS a b ∨ LeS b a := by
  rcases List.le_total a.cps.toList b.cps.toList with h | h
  · exact .inl (leS_iff.mpr h)
  · exact .inr (leS_iff.mpr h)
theorem rising_pair : ∀ (l : List Str) (p : Str), risingS p l = true → (p :: l).Pairwise LeS
  | [], p, _ => List.pairwise_singleton _ _
  | x :: r, p, h => by
    have h' : (!ltCps x.cps.toList p.cps.toList && risingS x r) = true := h
    obtain ⟨h1, h2⟩ := Bool.and_eq_true_iff.mp h'
    have ih := rising_pair r x h2
    have e1 : LeS p x := by
      unfold LeS
      simpa using h1
    refine List.pairwise_cons.mpr ⟨fun y hy => ?_, ih⟩
    rcases List.mem_cons.mp hy with e | hy
    · rw [e]; exact e1
    · exact leS_trans e1 ((List.pairwise_cons.mp ih).1 y hy)
theorem sorted_pair {l : List Str} (h : sortedS l = true) : l.Pairwise LeS := by
  cases l with
  | nil => exact .nil
  | cons x r => exact rising_pair r x h
theorem sorted_same {a b : List Str} (hp : a.Perm b) (ha : a.Pairwise LeS) (hb : b.Pairwise LeS) : a = b := by
  exact hp.eq_of_pairwise (fun x y _ _ h1 h2 => leS_anti h1 h2) ha hb
def ins (p : Str × PyData) : List (Str × PyData) → List (Str × PyData)
  | [] => [p]
  | q :: r => if ltCps q.1.cps.toList p.1.cps.toList = true then q :: ins p r else p :: q :: r
def isort : List (Str × PyData) → List (Str × PyData)
  | [] => []
  | p :: r => ins p (isort r)
theorem ins_perm (p : Str × PyData) : ∀ l, (ins p l).Perm (p :: l)
  | [] => .refl _
  | q :: r => by
    unfold ins
    split
    · exact ((ins_perm p r).cons q).trans (.swap p q r)
    · exact .refl _
theorem isort_perm : ∀ l, (isort l).Perm l
  | [] => .refl _
  | p :: r => (ins_perm p _).trans ((isort_perm r).cons p)
theorem ins_sorted (p : Str × PyData) : ∀ l : List (Str × PyData), l.Pairwise (fun a b => LeS a.1 b.1) → (ins p l).Pairwise (fun a b => LeS a.1 b.1)
  | [], _ => List.pairwise_singleton _ _
  | q :: r, h => by
    have h' := List.pairwise_cons.mp h
    unfold ins
    split
    · rename_i c
      refine List.pairwise_cons.mpr ⟨fun y hy => ?_, ins_sorted p r h'.2⟩
      rcases List.mem_cons.mp ((ins_perm p r).mem_iff.mp hy) with e | hy
      · rw [e]
        rcases leS_total q.1 p.1 with z | z
        · exact z
        · unfold LeS at z
          rw [c] at z
          cases z
      · exact h'.1 y hy
    · rename_i c
      have e1 : LeS p.1 q.1 := by
        unfold LeS
        simpa using c
      refine List.pairwise_cons.mpr ⟨fun y hy => ?_, h⟩
      rcases List.mem_cons.mp hy with e | hy
      · rw [e]; exact e1
      · exact leS_trans e1 (h'.1 y hy)
theorem isort_sorted : ∀ l, (isort l).Pairwise (fun a b => LeS a.1 b.1)
  | [] => .nil
  | p :: r => ins_sorted p _ (isort_sorted r)
def pairT (p : Str × PyData) : PyData := .tuple [.str p.1, p.2]
theorem pairT_inj : ∀ a b : Str × PyData, pairT a = pairT b → a = b := fun a b h => by
  unfold pairT at h
  injection h with h
  injection h with h1 h2
  injection h2 with h2 h3
  injection h1 with h1
  exact Prod.ext h1 h2
mutual
def inkD : PyData → PyData
  | .none => .tuple [.str "word", .str "None"]
  | .bool b => .tuple [.str "word", .str (if b then "True" else "False")]
  | .int i => .tuple [.str "int", .int i]
  | .str s => .tuple [.str "text", .str s]
  | .tuple _ => .none
  | .list xs => .tuple (.str "list" :: inkL xs)
  | .dict ds => .tuple (.str "record" :: (isort (inkK ds)).map pairT)
def inkL : List PyData → List PyData
  | [] => []
  | x :: r => inkD x :: inkL r
def inkK : List (PyData × PyData) → List (Str × PyData)
  | [] => []
  | (k, v) :: r => (kS k, inkD v) :: inkK r
end
theorem inkL_eq : ∀ xs, inkL xs = xs.map inkD
  | [] => rfl
  | x :: r => by rw [inkL, inkL_eq r, List.map_cons]
theorem inkK_eq : ∀ ds, inkK ds = ds.map fun p => (kS p.1, inkD p.2)
  | [] => rfl
  | (k, v) :: r => by rw [inkK, inkK_eq r, List.map_cons]
/-- the value at a key -/
def lookD (ds : List (PyData × PyData)) (k : Str) : PyData := ((ds.find? fun p => decide (kS p.1 = k)).map (·.2)).getD .none
theorem lookD_mem {ds : List (PyData × PyData)} {k : Str} (h : k ∈ ds.map fun p => kS p.1) : ∃ p ∈ ds, kS p.1 = k ∧ lookD ds k = p.2 := by
  unfold lookD
  cases e : ds.find? fun p => decide (kS p.1 = k) with
  | none =>
    obtain ⟨p, hp, hk⟩ := List.mem_map.mp h
    have := List.find?_eq_none.mp e p hp
    simp [hk] at this
  | some p =>
    exact ⟨p, List.mem_of_find?_eq_some e, by simpa using List.find?_some e, rfl⟩
theorem nodup_fn {ds : List (PyData × PyData)} (n : (ds.map fun p => kS p.1).Nodup) {p q : PyData × PyData} (hp : p ∈ ds) (hq : q ∈ ds) (e : kS p.1 = kS q.1) : p = q := by
  induction ds with
  | nil => cases hp
  | cons x r ih =>
    rw [List.map_cons] at n
    obtain ⟨n1, n2⟩ := List.nodup_cons.mp n
    rcases List.mem_cons.mp hp with hp | hp <;> rcases List.mem_cons.mp hq with hq | hq
    · rw [hp, hq]
    · exfalso
      apply n1
      rw [← hp, e]
      exact List.mem_map.mpr ⟨q, hq, rfl⟩
    · exfalso
      apply n1
      rw [← hq, ← e]
      exact List.mem_map.mpr ⟨p, hp, rfl⟩
    · exact ih n2 hp hq
theorem lookD_of {ds : List (PyData × PyData)} (n : (ds.map fun p => kS p.1).Nodup) {p : PyData × PyData} (hp : p ∈ ds) : lookD ds (kS p.1) = p.2 := by
  obtain ⟨q, h1, h2, h3⟩ := lookD_mem (ds := ds) (k := kS p.1) (List.mem_map.mpr ⟨p, hp, rfl⟩)
  rw [h3, nodup_fn n h1 hp h2]
theorem isort_keys (ds : List (PyData × PyData)) : ((isort (inkK ds)).map (·.1)).Perm (ds.map fun p => kS p.1) := by
  have h := (isort_perm (inkK ds)).map (·.1)
  rw [inkK_eq, List.map_map] at h
  rw [inkK_eq]
  exact h
theorem isort_keys_sorted (ds : List (PyData × PyData)) : ((isort (inkK ds)).map (·.1)).Pairwise LeS := by
  rw [List.pairwise_map]
  exact isort_sorted _
/-- the sorted keys with the inks of their values are the record's ink -/
theorem ink_dict {ds : List (PyData × PyData)} {ys : List Str} (n : (ds.map fun p => kS p.1).Nodup) (hp : ys.Perm (ds.map fun p => kS p.1)) (hs : sortedS ys = true) :
    inkD (.dict ds) = .tuple (.str "record" :: ys.map fun k => pairT (k, inkD (lookD ds k))) := by
  have e : (isort (inkK ds)).map (·.1) = ys := sorted_same ((isort_keys ds).trans hp.symm) (isort_keys_sorted ds) (sorted_pair hs)
  rw [inkD, ← e, List.map_map]
  congr 2
  refine List.map_congr_left fun q hq => ?_
  have hq' := (isort_perm (inkK ds)).mem_iff.mp hq
  rw [inkK_eq] at hq'
  obtain ⟨p, hp2, rfl⟩ := List.mem_map.mp hq'
  show pairT (kS p.1, inkD p.2) = pairT (kS p.1, inkD (lookD ds (kS p.1)))
  rw [lookD_of n hp2]
theorem ink_lists {xs ys : List PyData} (h : xs.length = ys.length) : inkD (.list xs) = inkD (.list ys) ↔ ∀ p ∈ xs.zip ys, inkD p.1 = inkD p.2 := by
  rw [inkD, inkD, inkL_eq, inkL_eq]
  constructor
  · intro e p hp
    injection e with e
    injection e with _ e
    obtain ⟨i, hi⟩ := List.mem_iff_getElem?.mp hp
    obtain ⟨a, b⟩ := p
    obtain ⟨h1, h2⟩ := List.getElem?_zip_eq_some.mp hi
    have z := congrArg (fun l => l[i]?) e
    simp only [List.getElem?_map] at z
    rw [show xs[i]? = some a from h1, show ys[i]? = some b from h2] at z
    exact Option.some.inj z
  · intro q
    congr 2
    induction xs generalizing ys with
    | nil => cases ys with
      | nil => rfl
      | cons _ _ => cases h
    | cons x r ih => cases ys with
      | nil => cases h
      | cons y t =>
        rw [List.map_cons, List.map_cons, q (x, y) (by simp), ih (by simpa using h) fun p hp => q p (by simp [hp])]
theorem ink_len {xs ys : List PyData} (h : inkD (.list xs) = inkD (.list ys)) : xs.length = ys.length := by
  rw [inkD, inkD, inkL_eq, inkL_eq] at h
  injection h with e
  injection e with _ e
  simpa using congrArg List.length e
theorem ink_records {ds es : List (PyData × PyData)} {ys zs : List Str} (n : (ds.map fun p => kS p.1).Nodup) (m : (es.map fun p => kS p.1).Nodup) (hy : ys.Perm (ds.map fun p => kS p.1)) (sy : sortedS ys = true)
    (hz : zs.Perm (es.map fun p => kS p.1)) (sz : sortedS zs = true) : inkD (.dict ds) = inkD (.dict es) ↔ ys = zs ∧ ∀ p ∈ ds, inkD p.2 = inkD (lookD es (kS p.1)) := by
  rw [ink_dict n hy sy, ink_dict m hz sz]
  constructor
  · intro e
    injection e with e
    injection e with _ e
    have e1 : ys = zs := by
      have z := congrArg (List.map fun t => match t with | PyData.tuple (PyData.str k :: _) => k | _ => ("" : Str)) e
      simpa [List.map_map, pairT, Function.comp_def] using z
    subst e1
    refine ⟨rfl, fun p hp => ?_⟩
    have hk : kS p.1 ∈ ys := hy.mem_iff.mpr (List.mem_map.mpr ⟨p, hp, rfl⟩)
    obtain ⟨i, hi⟩ := List.mem_iff_getElem?.mp hk
    have z := congrArg (fun l => l[i]?) e
    simp only [List.getElem?_map] at z
    rw [hi] at z
    have z2 := pairT_inj _ _ (Option.some.inj z)
    have z3 : inkD (lookD ds (kS p.1)) = inkD (lookD es (kS p.1)) := congrArg Prod.snd z2
    rw [lookD_of n hp] at z3
    exact z3
  · rintro ⟨rfl, q⟩
    congr 2
    refine List.map_congr_left fun k hk => ?_
    obtain ⟨p, hp, rfl⟩ := List.mem_map.mp (hy.mem_iff.mp hk)
    rw [lookD_of n hp, q p hp]
end K00
set_option Elab.async false
set_option linter.all false
set_option maxRecDepth 100000
set_option maxHeartbeats 4000000
/-! K00P: the program's defs on data: is_name, sort_of, inner_parts, parts_of, is_document. -/
namespace K00
open PySem PySem.Spec L2
open PyProof.Rows (envOfC)
structure Bl (mg : Str → Option Value) : Prop where
  len : mg "len" = none
  isi : mg "isinstance" = none
  all : mg "all" = none
  list : mg "list" = none
  max : mg "max" = none
  min : mg "min" = none
  range : mg "range" = none
  abs : mg "abs" = none
  int : mg "int" = none
  repr : mg "repr" = none
  zip : mg "zip" = none
  bool : mg "bool" = none
  str : mg "str" = none
  dict : mg "dict" = none
  ve : mg "ValueError" = none
  sorted : mg "sorted" = none
  tuple : mg "tuple" = none
  sum : mg "sum" = none
/-- a def of the top's i-th statement at f -/
abbrev FnD (K : PySem.W.Frag) (x : Str) (i : Nat) (f : Addr) (fd : FuncData) : Prop := FunD K x x (defArgs (top i)) (defBody (top i)) (defScope (top i)) [] [] f fd
theorem pt_no {X : Cx} {e : Expr} : PT X e (fun _ _ _ => False) := ⟨fun _ _ _ _ _ _ h => h.elim⟩
theorem pe_no {X : Cx} {e : Expr} : PE X e (fun _ _ _ => False) := ⟨fun _ _ _ _ _ _ h => h.elim⟩
theorem small1000 {n : Nat} (h : n ≤ 1000) : n < sizeLine := Nat.lt_of_le_of_lt h (by decide)
theorem smallM {n : Nat} (h : n ≤ 1000000) : n < sizeLine := Nat.lt_of_le_of_lt h (by decide)
theorem ite_t {c : Bool} {A B : Prop} (hc : c = true) (h : A) : if c = true then A else B := by rw [hc]; exact iteT h
theorem ite_f {c : Bool} {A B : Prop} (hc : c = false) (h : B) : if c = true then A else B := by rw [hc]; exact iteF h
/-! ### small data -/
mutual
def Sm : PyData → Prop
  | .none => True
  | .bool _ => True
  | .int _ => True
  | .str s => s.length ≤ 1000 ∧ PyData.strOk s = true
  | .tuple xs => xs.length ≤ 1000 ∧ SmL xs
  | .list xs => xs.length ≤ 1000 ∧ SmL xs
  | .dict ds => ds.length ≤ 60 ∧ (ds.map fun p => kS p.1).Nodup ∧ SmK ds
def SmL : List PyData → Prop
  | [] => True
  | x :: r => Sm x ∧ SmL r
def SmK : List (PyData × PyData) → Prop
  | [] => True
  | (k, v) :: r => Sm k ∧ Sm v ∧ SmK r
end
theorem smL_iff : ∀ {xs : List PyData}, SmL xs ↔ ∀ x ∈ xs, Sm x
  | [] => by simp [SmL]
  | x :: r => by simp [SmL, smL_iff (xs := r)]
theorem smK_iff : ∀ {xs : List (PyData × PyData)}, SmK xs ↔ ∀ p ∈ xs, Sm p.1 ∧ Sm p.2
  | [] => by simp [SmK]
  | (k, v) :: r => by
    simp only [SmK, smK_iff (xs := r), List.mem_cons]
    constructor
    · rintro ⟨h1, h2, h3⟩ p (rfl | hp)
      · exact ⟨h1, h2⟩
      · exact h3 p hp
    · intro h
      exact ⟨(h _ (.inl rfl)).1, (h _ (.inl rfl)).2, fun p hp => h p (.inr hp)⟩
theorem sm_kids {d : PyData} (h : Sm d) : ∀ x ∈ kids d, Sm x := by
  cases d with
  | list xs => exact smL_iff.mp h.2
  | dict ds =>
    intro x hx
    obtain ⟨p, hp, rfl⟩ := List.mem_map.mp hx
    exact (smK_iff.mp h.2.2 p hp).2
  | _ => intro x hx; cases hx
/-! ### which class -/
def isB : PyData → Bool | .bool _ => true | _ => false
def isI : PyData → Bool | .bool _ => true | .int _ => true | _ => false
def isS : PyData → Bool | .str _ => true | _ => false
def isL : PyData → Bool | .list _ => true | _ => false
def isK : PyData → Bool | .dict _ => true | _ => false
theorem kt_b (d : PyData) : kitB (tyD d) "bool" = some (isB d) := by cases d <;> (dsimp only [tyD, isB, isI, isS, isL, isK]; decide +kernel)
theorem kt_i (d : PyData) : kitB (tyD d) "int" = some (isI d) := by cases d <;> (dsimp only [tyD, isB, isI, isS, isL, isK]; decide +kernel)
theorem kt_s (d : PyData) : kitB (tyD d) "str" = some (isS d) := by cases d <;> (dsimp only [tyD, isB, isI, isS, isL, isK]; decide +kernel)
theorem kt_l (d : PyData) : kitB (tyD d) "list" = some (isL d) := by cases d <;> (dsimp only [tyD, isB, isI, isS, isL, isK]; decide +kernel)
theorem kt_k (d : PyData) : kitB (tyD d) "dict" = some (isK d) := by cases d <;> (dsimp only [tyD, isB, isI, isS, isL, isK]; decide +kernel)
section
variable {P : Program} {w : World} {K : PySem.W.Frag} {mg : Str → Option Value} {base : Heap} {f g g2 : Addr} {fd gd gd2 : FuncData}
/-! ### is_name -/
def spName (P : Program) (w : World) : Sp := fun vs H Q _ => ∃ (x : V) (d : PyData), vs = [x] ∧ Da P w H x d ∧ Sm d ∧ ∀ H', Same H H' → Q (.bl (keyB d)) H'
theorem scName : FnScope ["value", "letter"] ["value"] (defScope (top 6)) := ⟨rfl, rfl, rfl, by decide +kernel, rfl, by decide +kernel, by decide +kernel⟩
theorem ok_name {t1 t2 : Tok} (F : FnD K "is_name" 6 f fd) (B : Bl mg) (gL : mg "LETTERS" = some (.str LET t1)) (gN : mg "LONGEST_NAME" = some (.int 8 t2)) : FnOk P w K mg base CX0 1 f fd ["value"] (spName P w) := by
  refine F.ok scName (fun vs H Q E h => ?_) (fun cdv A outer s H vs Q E hr h => ?_)
  · obtain ⟨x, d, rfl, _⟩ := h
    rfl
  obtain ⟨x, d, rfl, hd, hs, q⟩ := h
  refine ⟨_, PSs.nox (pss_cons (ps_if (PW.pt (pw_or (pt_not (pt_val (pe_callB call_isDa (by rfl) B.isi (by decide +kernel) (pa_cons (pv 0) (pa_cons (pe_bltn (v := .ty "str") (by rfl) B.str (by decide +kernel) rfl) pa_nil)))))
      (pw_or1 (pt_not (pt_chain op_le op_le pe_int (pe_callB call_len_str (by rfl) B.len PySem.boot_len (pa_cons (pv 0) pa_nil)) (pe_glob (v := .int 8) rfl gN ⟨_, rfl⟩))))))
      (pss_one (ps_ret pe_bl)) pss_nil)
    (pss_one (ps_ret (pe_callB (cr_all rfl) (by rfl) B.all (by decide +kernel) (pa_cons
      (pe_lc (own := [("letter", 1)]) (g := gName 1) (tt := tYes) rfl scName.nd (pi_str (pv 0)) (blkOk_by (N := ["value", "letter"]) (sc := defScope (top 6)) (by decide +kernel))
        (fun _ _ _ _ _ => pg_name (i := 1) scName.nd rfl (Or.inl rfl)) (fun _ _ _ _ _ => pts_nil)
        (fun _ _ _ _ _ => pe_cmpR op_in_sign (pv 1) (pe_glob (v := .str LET) rfl gL ⟨_, rfl⟩) (by rfl))) pa_nil))))), ?_⟩
  refine ⟨_, rfl, x, "str", d, _, rfl, hd, kt_s d, _, rfl, ?_⟩
  cases hd with
  | str y =>
    have hy : y.length ≤ 1000 := hs.1
    refine iteF ⟨_, rfl, y, rfl, Nat.le_of_lt (small1000 hy), _, _, rfl, rfl, _, rfl, ?_⟩
    refine ite2 (fun c1 => ⟨_, _, rfl, rfl, _, rfl, ite2 (fun c => ?_) (fun c => ?_)⟩) (fun c1 => ⟨_, rfl, ?_⟩)
    · -- the second bound fails
      have c' : decide ((y.length : Int) ≤ 8) = false := by simpa using c
      have e : keyB (.str y) = false := by
        show nameB y = _
        unfold nameB
        have : decide (y.length ≤ 8) = false := by
          have := of_decide_eq_false c'
          exact decide_eq_false (by omega)
        rw [this]
        simp
      rw [← e]
      exact q H (same_refl H)
    · have c' : decide ((y.length : Int) ≤ 8) = true := by simpa using c
      have b8 : y.length ≤ 8 := by have := of_decide_eq_true c'; omega
      have b1 : 1 ≤ y.length := by have := of_decide_eq_true c1; omega
      refine ⟨_, rfl, y, rfl, fun D hD => ?_⟩
      have hlen : y.cps.size = y.length := rfl
      refine lc_it (walk_str (z := y)) (fun i H2 => Same H H2 ∧ H2 D = some (.lst (((y.cps.toList.take i).map fun c => decide (c ∈ LET.cps.toList)).map V.bl))) ⟨same_new hD _, upd_same⟩ (fun _ _ _ _ => trivial) ?_ ?_
      · rintro i v H2 H2' hi ⟨k2, hD2⟩ ⟨rfl, c, hc, rfl⟩
        refine ⟨rfl, ?_⟩
        simp only [tYes, if_true]
        have hc' : y.cps.toList[i]? = some c := by rw [Array.getElem?_toList]; exact hc
        refine ⟨_, rfl, c, LET, rfl, rfl, _, hD2, ?_, fun b o e => ?_, ?_⟩
        · rw [List.length_map, List.length_map, List.length_take]
          exact small1000 (by omega)
        · have nb : b ≠ D := ne_of_none e hD
          rw [upd_ne nb]
          exact k2 _ _ e
        · rw [upd_same, List.take_add_one, hc']
          simp
      · rintro H2 ⟨k2, hD2⟩
        refine ⟨D, _, rfl, SqL.of hD2, ?_⟩
        have e : keyB (.str y) = (((y.cps.toList.take y.cps.size).map fun c => decide (c ∈ LET.cps.toList)).all id) := by
          show nameB y = _
          unfold nameB
          rw [decide_eq_true b1, decide_eq_true b8]
          simp only [Bool.true_and]
          rw [List.take_of_length_le (by simp), List.all_map]
          congr 1
          funext c
          simp [List.contains_eq_mem]
        rw [← e]
        exact q H2 k2
    · have e : keyB (.str y) = false := by
        show nameB y = _
        unfold nameB
        have : decide (1 ≤ y.length) = false := by
          have c1' : decide (1 ≤ (y.length : Int)) = false := by simpa using c1
          have := of_decide_eq_false c1'
          exact decide_eq_false (by omega)
        rw [this]
        simp
      refine iteT ?_
      rw [← e]
      exact q H (same_refl H)
  | non => exact iteT (q H (same_refl H))
  | bl b => exact iteT (q H (same_refl H))
  | int i => exact iteT (q H (same_refl H))
  | lst h r => exact iteT (q H (same_refl H))
  | tup h r => exact iteT (q H (same_refl H))
  | dic h r => exact iteT (q H (same_refl H))
end
end K00
set_option Elab.async false
set_option linter.all false
set_option maxRecDepth 100000
set_option maxHeartbeats 4000000
namespace K00
open PySem PySem.Spec L2
open PyProof.Rows (envOfC)
def sortV : PyData → V
  | .none => .str "none"
  | .bool _ => .str "bool"
  | .int _ => .str "int"
  | .str _ => .str "text"
  | .list _ => .str "list"
  | .tuple _ => .non
  | .dict ds => if (ds.map fun p => keyB p.1).all id = true then .str "record" else .non
section
variable {P : Program} {w : World} {K : PySem.W.Frag} {mg : Str → Option Value} {base : Heap} {f g g2 : Addr} {fd gd gd2 : FuncData}
/-! ### sort_of -/
def spSort (P : Program) (w : World) : Sp := fun vs H Q _ => ∃ (x : V) (d : PyData), vs = [x] ∧ Da P w H x d ∧ Sm d ∧ ∀ H', Same H H' → Q (sortV d) H'
theorem scSort : FnScope ["value", "key"] ["value"] (defScope (top 7)) := ⟨rfl, rfl, rfl, by decide +kernel, rfl, by decide +kernel, by decide +kernel⟩
theorem ok_sort (F : FnD K "sort_of" 7 f fd) (B : Bl mg) (G : FnOk P w K mg base CX0 1 g gd ["value"] (spName P w)) (bG : Binds K gd ["value"] []) (kG : PySem.W.keepIn K (.ref g) = true) (gG : mg "is_name" = some (.ref g)) :
    FnOk P w K mg base CX0 2 f fd ["value"] (spSort P w) := by
  refine F.ok scSort (fun vs H Q E h => ?_) (fun cdv A outer s H vs Q E hr h => ?_)
  · obtain ⟨x, d, rfl, _⟩ := h
    rfl
  obtain ⟨x, d, rfl, hd, hs, q⟩ := h
  refine ⟨_, PSs.nox (pss_cons (ps_if (pt_cmpR op_isN (pv 0) pe_non (nomark _)) (pss_one (ps_ret pe_str)) pss_nil)
    (pss_cons (ps_if (pt_val (pe_callB call_isDa (by rfl) B.isi (by decide +kernel) (pa_cons (pv 0) (pa_cons (pe_bltn (v := .ty "bool") (by rfl) B.bool (by decide +kernel) rfl) pa_nil)))) (pss_one (ps_ret pe_str)) pss_nil)
    (pss_cons (ps_if (pt_val (pe_callB call_isDa (by rfl) B.isi (by decide +kernel) (pa_cons (pv 0) (pa_cons (pe_bltn (v := .ty "int") (by rfl) B.int (by decide +kernel) rfl) pa_nil)))) (pss_one (ps_ret pe_str)) pss_nil)
    (pss_cons (ps_if (pt_val (pe_callB call_isDa (by rfl) B.isi (by decide +kernel) (pa_cons (pv 0) (pa_cons (pe_bltn (v := .ty "str") (by rfl) B.str (by decide +kernel) rfl) pa_nil)))) (pss_one (ps_ret pe_str)) pss_nil)
    (pss_cons (ps_if (pt_val (pe_callB call_isDa (by rfl) B.isi (by decide +kernel) (pa_cons (pv 0) (pa_cons (pe_bltn (v := .ty "list") (by rfl) B.list (by decide +kernel) rfl) pa_nil)))) (pss_one (ps_ret pe_str)) pss_nil)
    (pss_cons (ps_if (PW.pt (pw_and (pt_val (pe_callB call_isDa (by rfl) B.isi (by decide +kernel) (pa_cons (pv 0) (pa_cons (pe_bltn (v := .ty "dict") (by rfl) B.dict (by decide +kernel) rfl) pa_nil)))) (pw_and1 (pt_val
        (pe_callB (cr_all rfl) (by rfl) B.all (by decide +kernel) (pa_cons
          (pe_lc (own := [("key", 1)]) (g := gName 1) (tt := tYes) rfl scSort.nd (pi_keysD (pv 0)) (blkOk_by (N := ["value", "key"]) (sc := defScope (top 7)) (by decide +kernel))
            (fun _ _ _ _ _ => pg_name (i := 1) scSort.nd rfl (Or.inl rfl)) (fun _ _ _ _ _ => pts_nil)
            (fun _ _ _ _ _ => pe_call G hr rfl gG kG bG .nil pass0 (pa_cons (pv 1) pa_nil))) pa_nil)))))) (pss_one (ps_ret pe_str)) pss_nil)
    (pss_one (ps_ret pe_non)))))))), ?_⟩
  refine ⟨_, rfl, rfl, _, rfl, ?_⟩
  cases hd with
  | non => exact iteT (q H (same_refl H))
  | bl b => exact iteF ⟨_, rfl, _, "bool", _, _, rfl, .bl b, kt_b _, _, rfl, iteT (q H (same_refl H))⟩
  | int i => exact iteF ⟨_, rfl, _, "bool", _, _, rfl, .int i, kt_b _, _, rfl, iteF ⟨_, rfl, _, "int", _, _, rfl, .int i, kt_i _, _, rfl, iteT (q H (same_refl H))⟩⟩
  | str y => exact iteF ⟨_, rfl, _, "bool", _, _, rfl, .str y, kt_b _, _, rfl, iteF ⟨_, rfl, _, "int", _, _, rfl, .str y, kt_i _, _, rfl, iteF ⟨_, rfl, _, "str", _, _, rfl, .str y, kt_s _, _, rfl, iteT (q H (same_refl H))⟩⟩⟩
  | lst h r =>
    exact iteF ⟨_, rfl, _, "bool", _, _, rfl, .lst h r, kt_b _, _, rfl, iteF ⟨_, rfl, _, "int", _, _, rfl, .lst h r, kt_i _, _, rfl, iteF ⟨_, rfl, _, "str", _, _, rfl, .lst h r, kt_s _, _, rfl,
      iteF ⟨_, rfl, _, "list", _, _, rfl, .lst h r, kt_l _, _, rfl, iteT (q H (same_refl H))⟩⟩⟩⟩
  | tup h r =>
    exact iteF ⟨_, rfl, _, "bool", _, _, rfl, .tup h r, kt_b _, _, rfl, iteF ⟨_, rfl, _, "int", _, _, rfl, .tup h r, kt_i _, _, rfl, iteF ⟨_, rfl, _, "str", _, _, rfl, .tup h r, kt_s _, _, rfl,
      iteF ⟨_, rfl, _, "list", _, _, rfl, .tup h r, kt_l _, _, rfl, iteF ⟨_, rfl, _, "dict", _, _, rfl, .tup h r, kt_k _, _, rfl, iteF (iteF (q H (same_refl H)))⟩⟩⟩⟩⟩
  | @dic a o es ds h r =>
    refine iteF ⟨_, rfl, _, "bool", _, _, rfl, .dic h r, kt_b _, _, rfl, iteF ⟨_, rfl, _, "int", _, _, rfl, .dic h r, kt_i _, _, rfl, iteF ⟨_, rfl, _, "str", _, _, rfl, .dic h r, kt_s _, _, rfl,
      iteF ⟨_, rfl, _, "list", _, _, rfl, .dic h r, kt_l _, _, rfl, iteF ⟨_, rfl, _, "dict", _, _, rfl, .dic h r, kt_k _, _, rfl, iteT ?_⟩⟩⟩⟩⟩
    refine ⟨_, rfl, a, o, es, rfl, h, fun D hD => ?_⟩
    have hsm := hs
    obtain ⟨hs1, hs2, hs3⟩ := hsm
    refine lc_it walk_keysD (fun i H2 => Same H H2 ∧ H2 D = some (.lst (((ds.take i).map fun p => keyB p.1).map V.bl))) ⟨same_new hD _, upd_same⟩ (fun _ H2 _ z => h.kp (.same z.1)) ?_ ?_
    · rintro i v H2 H2' hi ⟨k2, hD2⟩ ⟨rfl, hv⟩
      refine ⟨rfl, ?_⟩
      simp only [tYes, if_true]
      rw [List.getElem?_map] at hv
      cases he : es[i]? with
      | none => rw [he] at hv; cases hv
      | some p =>
        rw [he] at hv
        cases hv
        obtain ⟨dd, hdd, hk1, _⟩ := r.get he
        have hm := List.mem_of_getElem? hdd
        refine ⟨_, rfl, p.1, dd.1, rfl, hk1.kp (.same k2), (smK_iff.mp hs3 dd hm).1, fun H3 k3 => ⟨_, k3 _ _ hD2, ?_, fun b o e => ?_, ?_⟩⟩
        · rw [List.length_map, List.length_map, List.length_take]
          exact small1000 (by omega)
        · have nb : b ≠ D := ne_of_none e hD
          rw [upd_ne nb]
          exact k3 _ _ (k2 _ _ e)
        · rw [upd_same, List.take_add_one, hdd]
          simp
    · rintro H2 ⟨k2, hD2⟩
      have hl := r.length
      rw [hl, List.take_length] at hD2
      refine ⟨D, _, rfl, SqL.of hD2, _, rfl, ?_⟩
      have e : sortV (.dict ds) = if (ds.map fun p => keyB p.1).all id = true then .str "record" else .non := rfl
      refine ite2 (fun c => ?_) (fun c => ?_)
      · rw [if_pos c] at e
        rw [← e]
        exact q H2 k2
      · rw [if_neg c] at e
        rw [← e]
        exact q H2 k2
/-! ### inner_parts -/
def spInner (P : Program) (w : World) : Sp := fun vs H Q _ => ∃ (x : V) (d : PyData), vs = [x] ∧ Da P w H x d ∧ Sm d ∧ ∀ l ys, H l = none → DaL P w H ys (kids d) → Q (.ref l) (upd H l (.lst ys))
theorem scInner : FnScope ["value"] ["value"] (defScope (top 8)) := ⟨rfl, rfl, rfl, by decide +kernel, rfl, by decide +kernel, by decide +kernel⟩
theorem ok_inner (F : FnD K "inner_parts" 8 f fd) (B : Bl mg) : FnOk P w K mg base CX0 1 f fd ["value"] (spInner P w) := by
  refine F.ok scInner (fun vs H Q E h => ?_) (fun cdv A outer s H vs Q E hr h => ?_)
  · obtain ⟨x, d, rfl, _⟩ := h
    rfl
  obtain ⟨x, d, rfl, hd, hs, q⟩ := h
  refine ⟨_, PSs.nox (pss_cons (ps_if (pt_val (pe_callB call_isDa (by rfl) B.isi (by decide +kernel) (pa_cons (pv 0) (pa_cons (pe_bltn (v := .ty "list") (by rfl) B.list (by decide +kernel) rfl) pa_nil)))) (pss_one (ps_ret
        (pe_callTy call_list_of (by rfl) B.list (by decide +kernel) (pa_cons (pv 0) pa_nil)))) pss_nil)
    (pss_cons (ps_if (pt_val (pe_callB call_isDa (by rfl) B.isi (by decide +kernel) (pa_cons (pv 0) (pa_cons (pe_bltn (v := .ty "dict") (by rfl) B.dict (by decide +kernel) rfl) pa_nil)))) (pss_one (ps_ret
        (pe_listVals rfl (pv 0) rfl B.list (by decide +kernel)))) pss_nil)
    (pss_one (ps_ret (pe_lst pa_nil))))), ?_⟩
  cases hd with
  | non => exact ⟨_, rfl, _, "list", _, _, rfl, .non, kt_l _, _, rfl, iteF ⟨_, rfl, _, "dict", _, _, rfl, .non, kt_k _, _, rfl, iteF ⟨(by show 0 ≤ sizeLine; decide), fun l hl => q l [] hl .nil⟩⟩⟩
  | bl b => exact ⟨_, rfl, _, "list", _, _, rfl, .bl b, kt_l _, _, rfl, iteF ⟨_, rfl, _, "dict", _, _, rfl, .bl b, kt_k _, _, rfl, iteF ⟨(by show 0 ≤ sizeLine; decide), fun l hl => q l [] hl .nil⟩⟩⟩
  | int i => exact ⟨_, rfl, _, "list", _, _, rfl, .int i, kt_l _, _, rfl, iteF ⟨_, rfl, _, "dict", _, _, rfl, .int i, kt_k _, _, rfl, iteF ⟨(by show 0 ≤ sizeLine; decide), fun l hl => q l [] hl .nil⟩⟩⟩
  | str y => exact ⟨_, rfl, _, "list", _, _, rfl, .str y, kt_l _, _, rfl, iteF ⟨_, rfl, _, "dict", _, _, rfl, .str y, kt_k _, _, rfl, iteF ⟨(by show 0 ≤ sizeLine; decide), fun l hl => q l [] hl .nil⟩⟩⟩
  | tup h r => exact ⟨_, rfl, _, "list", _, _, rfl, .tup h r, kt_l _, _, rfl, iteF ⟨_, rfl, _, "dict", _, _, rfl, .tup h r, kt_k _, _, rfl, iteF ⟨(by show 0 ≤ sizeLine; decide), fun l hl => q l [] hl .nil⟩⟩⟩
  | @lst a o xs ds h r =>
    exact ⟨_, rfl, _, "list", _, _, rfl, .lst h r, kt_l _, _, rfl, iteT ⟨_, rfl, a, xs, rfl, .inl (.inl (.inr ⟨o, h⟩)), fun l hl => q l xs hl r⟩⟩
  | @dic a o es ds h r =>
    exact ⟨_, rfl, _, "list", _, _, rfl, .dic h r, kt_l _, _, rfl, iteF ⟨_, rfl, _, "dict", _, _, rfl, .dic h r, kt_k _, _, rfl, iteT ⟨_, rfl, a, o, es, rfl, h, fun l hl => q l _ hl r.values⟩⟩⟩
/-! ### parts_of -/
def spParts (P : Program) (w : World) : Sp := fun vs H Q _ => ∃ (x : V) (d : PyData), vs = [x] ∧ Da P w H x d ∧ Sm d ∧ cnt d ≤ 1000000 ∧
  ∀ l H' ys ps, Same H H' → H' l = some (.lst ys) → DaL P w H' ys ps → (∀ p ∈ ps, Sm p) → ps.length = cnt d → ps.all sortB = isOne d → Q (.ref l) H'
theorem scParts : FnScope ["value", "parts", "at"] ["value"] (defScope (top 9)) := ⟨rfl, rfl, rfl, by decide +kernel, rfl, by decide +kernel, by decide +kernel⟩
theorem ok_parts (F : FnD K "parts_of" 9 f fd) (B : Bl mg) (G : FnOk P w K mg base CX0 1 g gd ["value"] (spInner P w)) (bG : Binds K gd ["value"] []) (kG : PySem.W.keepIn K (.ref g) = true) (gG : mg "inner_parts" = some (.ref g)) :
    FnOk P w K mg base CX0 2 f fd ["value"] (spParts P w) := by
  refine F.ok scParts (fun vs H Q E h => ?_) (fun cdv A outer s H vs Q E hr h => ?_)
  · obtain ⟨x, d, rfl, _⟩ := h
    rfl
  obtain ⟨x, d, rfl, hd, hs, hc, q⟩ := h
  refine ⟨_, PSs.nox (pss_cons (ps_set (i := 1) scParts.nd rfl (Or.inl rfl) (pe_lst (pa_cons (pv 0) pa_nil)))
    (pss_cons (ps_set (i := 2) scParts.nd rfl (Or.inl rfl) pe_int)
    (pss_cons (ps_while PassesOwn.never (pt_cmpR op_lt (pv 2) (pe_callB call_len_seq (by rfl) B.len PySem.boot_len (pa_cons (pv 1) pa_nil)) (nomark _))
      (pss_cons (ps_expr (pe_bm PySem.F.plainAttrs_list PySem.F.slot_list_extend PySem.F.type_list_extend mt_extend (pv 1)
        (pa_cons (pe_call G hr rfl gG kG bG .nil pass0 (pa_cons (pe_ix ix_list (pv 1) (pv 2) (fun _ _ => rfl)) pa_nil)) pa_nil)))
      (pss_one (ps_aug (i := 2) scParts.nd rfl (Or.inl rfl) pe_int ip_add))))
    (pss_one (ps_ret (pv 1)))))), ?_⟩
  refine ⟨_, rfl, (by show 1 ≤ sizeLine; decide), fun l hl => ?_⟩
  refine ⟨fun m σ H' => ∃ (n : Nat) (ys : List V) (ps : List PyData), m + n = cnt d ∧ σ = [some x, some (.ref l), some (.int n)] ∧ H' l = some (.lst ys) ∧ Same H H' ∧ DaL P w H' ys ps ∧ (∀ p ∈ ps, Sm p) ∧ Wide d n ps,
    ⟨cnt d, 0, [x], [d], rfl, rfl, upd_same, same_new hl _, .cons (hd.kp (.new hl _)) .nil, fun p hp => by rw [List.mem_singleton.mp hp]; exact hs, .start d⟩, ?_⟩
  rintro m σ H' ⟨n, ys, ps, hmn, rfl, hH, k, hD, hS, W⟩
  have hlen := hD.length
  refine ⟨_, rfl, _, rfl, l, _, rfl, .inl (SqL.of hH), _, _, rfl, rfl, _, rfl, ?_⟩
  refine ite2 (fun c => ?_) (fun c => ?_)
  · have c' : (n : Int) < (ys.length : Int) := of_decide_eq_true c
    have hn : n < ys.length := by omega
    have hnp : n < ps.length := by omega
    have hlt := W.lt hnp
    obtain ⟨y, hy⟩ : ∃ y, ys[n]? = some y := ⟨ys[n], List.getElem?_eq_getElem hn⟩
    obtain ⟨p, hp, hyp⟩ := hD.get hy
    have W2 := W.step hp
    have hl2 := W2.len
    refine ⟨fun σ' H'' => ∃ (ys' : List V) (ps' : List PyData), σ' = [some x, some (.ref l), some (.int ((n + 1 : Nat) : Int))] ∧ H'' l = some (.lst ys') ∧ Same H H'' ∧ DaL P w H'' ys' ps' ∧ (∀ p ∈ ps', Sm p) ∧ Wide d (n + 1) ps',
      fun σ' H'' ⟨ys', ps', z⟩ => ⟨m - 1, by omega, n + 1, ys', ps', by omega, z⟩, ?_⟩
    refine ⟨_, rfl, .inl ⟨rfl, _, SqL.of hH⟩, _, rfl, _, rfl, l, _, _, _, rfl, rfl, SqL.of hH, atI_nat hy, ?_⟩
    refine ⟨y, p, rfl, hyp, hS p (List.mem_of_getElem? hp), fun b zs hb hz => ?_⟩
    have nlb : l ≠ b := ne_of_none hH hb
    have hzl := hz.length
    rw [List.length_append] at hl2
    refine ⟨l, b, ys, zs, rfl, rfl, ?_, upd_same, Nat.le_of_lt (smallM (by omega)), ?_⟩
    · rw [upd_ne nlb]
      exact hH
    · have k2 : Kp H' (upd (upd H' b (.lst zs)) l (.lst (ys ++ zs))) := (Kp.new hb _).trans (.lst (by rw [upd_ne nlb]; exact hH) _)
      refine ⟨_, rfl, _, _, rfl, rfl, ys ++ zs, ps ++ kids p, rfl, upd_same, fun c o e => ?_, (hD.kp k2).append (hz.kp k2), fun p' hp' => ?_, W2⟩
      · by_cases ec : c = l
        · rw [ec, hl] at e
          cases e
        · rw [upd_ne ec]
          exact (k.trans (same_new hb _)) c o e
      · rcases List.mem_append.mp hp' with h1 | h1
        · exact hS p' h1
        · exact sm_kids (hS p (List.mem_of_getElem? hp)) p' h1
  · have c' : ¬ (n : Int) < (ys.length : Int) := fun z => c (decide_eq_true z)
    obtain ⟨e1, e2⟩ := W.done (by omega)
    exact ⟨_, rfl, q l H' ys ps k hH hD hS e1 e2⟩
end
end K00
set_option Elab.async false
set_option linter.all false
set_option maxRecDepth 100000
set_option maxHeartbeats 4000000
namespace K00
open PySem PySem.Spec L2
open PyProof.Rows (envOfC)
theorem sortV_non (d : PyData) : (!decide (sortV d = V.non)) = sortB d := by
  cases d with
  | dict ds =>
    have e : sortB (.dict ds) = (ds.map fun p => keyB p.1).all id := by simp [sortB, List.all_map, Function.comp_def]
    rw [e]
    show (!decide ((if (ds.map fun p => keyB p.1).all id = true then V.str "record" else V.non) = V.non)) = _
    by_cases c : (ds.map fun p => keyB p.1).all id = true
    · rw [if_pos c, c]
      simp
    · rw [if_neg c, (Bool.eq_false_iff.mpr c)]
      simp
  | none => simp [sortV, sortB]
  | bool b => simp [sortV, sortB]
  | int i => simp [sortV, sortB]
  | str y => simp [sortV, sortB]
  | list xs => simp [sortV, sortB]
  | tuple xs => simp [sortV, sortB]
theorem keyB_str {k : PyData} (h : keyB k = true) : k = .str (kS k) := by
  cases k with
  | str s => rfl
  | _ => exact nomatch h
theorem isOne_kidsOf {d : PyData} (h : isOne d = true) : ∀ x ∈ kids d, isOne x = true := by
  rw [isOne_kids] at h
  obtain ⟨_, h2⟩ := Bool.and_eq_true_iff.mp h
  exact List.all_eq_true.mp h2
theorem isOne_keys {ds : List (PyData × PyData)} (h : isOne (.dict ds) = true) : ∀ p ∈ ds, keyB p.1 = true := by
  rw [isOne_kids] at h
  obtain ⟨h1, _⟩ := Bool.and_eq_true_iff.mp h
  exact List.all_eq_true.mp h1
section
variable {P : Program} {w : World} {H : Hp}
theorem keys_str : ∀ {kvs : List (Key × V)} {ds : List (PyData × PyData)}, DaE P w H (kvs.map fun p => (kV p.1, p.2)) ds → (∀ p ∈ ds, keyB p.1 = true) → kvs.map (·.1) = (ds.map fun p => kS p.1).map Sum.inr
  | [], _, .nil, _ => rfl
  | (k, v) :: r, _, h, hk => by
    cases h with
    | @cons x y es d e ds k1 h1 r1 =>
      have ih := keys_str r1 fun p hp => hk p (List.mem_cons_of_mem _ hp)
      have z := keyB_str (hk (d, e) List.mem_cons_self)
      have z' : d = .str (kS d) := z
      rw [List.map_cons, List.map_cons, List.map_cons, ih]
      congr 1
      show k = Sum.inr (kS d)
      cases k with
      | inl i =>
        cases k1
        cases z'
      | inr s =>
        cases k1
        rfl
/-- a locked dict of a document: texts are its keys -/
theorem doc_dict {a : Addr} {o : Obj} {es : List (V × V)} {ds : List (PyData × PyData)} (h : Dd P w H a o es) (r : DaE P w H es ds) (hk : ∀ p ∈ ds, keyB p.1 = true) :
    ∃ kvs : List (Key × V), H a = some (.frz o (.dK kvs)) ∧ es = kvs.map (fun p => (kV p.1, p.2)) ∧ kvs.map (·.1) = (ds.map fun p => kS p.1).map Sum.inr := by
  rcases h with ⟨kvs, h1, rfl⟩ | ⟨h1, rfl⟩
  · exact ⟨kvs, h1, rfl, keys_str r hk⟩
  · cases r with
    | cons k1 h2 r2 =>
      cases k1
      have := hk _ List.mem_cons_self
      exact nomatch this
theorem look_val : ∀ {kvs : List (Key × V)} {ds : List (PyData × PyData)} {k : Str}, DaE P w H (kvs.map fun p => (kV p.1, p.2)) ds → kvs.map (·.1) = (ds.map fun p => kS p.1).map Sum.inr → k ∈ (ds.map fun p => kS p.1) →
    ∃ v, valV kvs (Sum.inr k) = some v ∧ Da P w H v (lookD ds k)
  | [], _, _, .nil, _, hk => nomatch hk
  | (c, v) :: r, _, k, h, e, hk => by
    cases h with
    | @cons x y es d f ds k1 h1 r1 =>
      rw [List.map_cons, List.map_cons, List.map_cons] at e
      injection e with e1 e2
      have e1' : c = Sum.inr (kS d) := e1
      by_cases hz : kS d = k
      · refine ⟨v, valV_pos (by rw [e1', hz]), ?_⟩
        have : lookD ((d, f) :: ds) k = f := by simp [lookD, hz]
        rw [this]
        exact h1
      · rw [List.map_cons] at hk
        rcases List.mem_cons.mp hk with hk | hk
        · exact absurd hk.symm hz
        · obtain ⟨u, hu, hd⟩ := look_val r1 e2 hk
          refine ⟨u, ?_, ?_⟩
          · rw [valV_neg (by rw [e1']; exact fun z => hz (Sum.inr.inj z))]
            exact hu
          · have : lookD ((d, f) :: ds) k = lookD ds k := by simp [lookD, hz]
            rw [this]
            exact hd
end
section
variable {P : Program} {w : World} {K : PySem.W.Frag} {mg : Str → Option Value} {base : Heap} {f g g2 : Addr} {fd gd gd2 : FuncData}
/-! ### is_document -/
def spIsDoc (P : Program) (w : World) : Sp := fun vs H Q _ => ∃ (x : V) (d : PyData), vs = [x] ∧ Da P w H x d ∧ Sm d ∧ cnt d ≤ 1000000 ∧ ∀ H', Same H H' → Q (.bl (isOne d)) H'
theorem scIsDoc : FnScope ["value", "part"] ["value"] (defScope (top 10)) := ⟨rfl, rfl, rfl, by decide +kernel, rfl, by decide +kernel, by decide +kernel⟩
theorem ok_isdoc (F : FnD K "is_document" 10 f fd) (B : Bl mg) (GP : FnOk P w K mg base CX0 2 g gd ["value"] (spParts P w)) (bP : Binds K gd ["value"] []) (kP : PySem.W.keepIn K (.ref g) = true) (gP : mg "parts_of" = some (.ref g))
    (GS : FnOk P w K mg base CX0 2 g2 gd2 ["value"] (spSort P w)) (bS : Binds K gd2 ["value"] []) (kS : PySem.W.keepIn K (.ref g2) = true) (gS : mg "sort_of" = some (.ref g2)) : FnOk P w K mg base CX0 3 f fd ["value"] (spIsDoc P w) := by
  refine F.ok scIsDoc (fun vs H Q E h => ?_) (fun cdv A outer s H vs Q E hr h => ?_)
  · obtain ⟨x, d, rfl, _⟩ := h
    rfl
  obtain ⟨x, d, rfl, hd, hs, hc, q⟩ := h
  refine ⟨_, PSs.nox (pss_one (ps_ret (pe_callB (cr_all rfl) (by rfl) B.all (by decide +kernel) (pa_cons
    (pe_lc (own := [("part", 1)]) (g := gName 1) (tt := tYes) rfl scIsDoc.nd (pi_list (pe_call GP hr rfl gP kP bP .nil pass0 (pa_cons (pv 0) pa_nil))) (blkOk_by (N := ["value", "part"]) (sc := defScope (top 10)) (by decide +kernel))
      (fun _ _ _ _ _ => pg_name (i := 1) scIsDoc.nd rfl (Or.inl rfl)) (fun _ _ _ _ _ => pts_nil)
      (fun _ _ _ _ _ => pe_cmpR op_notN (pe_call GS hr rfl gS kS bS .nil pass0 (pa_cons (pv 1) pa_nil)) pe_non (nomark _))) pa_nil)))), ?_⟩
  refine ⟨_, rfl, x, d, rfl, hd, hs, hc, fun l H' ys ps k hl hy hp e1 e2 => ?_⟩
  have hlen := hy.length
  refine ⟨l, rfl, ⟨_, SqL.of hl⟩, fun D hD => ?_⟩
  refine lc_it (walk_list (K := K) (a := l) (xs := ys)) (fun i H2 => Same H' H2 ∧ H2 D = some (.lst (((ps.take i).map sortB).map V.bl))) ⟨same_new hD _, upd_same⟩ (fun _ H2 _ z => SqL.of (z.1 _ _ hl)) ?_ ?_
  · rintro i v H2 H2' hi ⟨k2, hD2⟩ ⟨rfl, hv⟩
    obtain ⟨p, hpi, hvp⟩ := hy.get hv
    refine ⟨rfl, ?_⟩
    simp only [tYes, if_true]
    refine ⟨_, rfl, v, p, rfl, hvp.kp (.same k2), hp p (List.mem_of_getElem? hpi), fun H3 k3 => ⟨rfl, _, k3 _ _ hD2, ?_, fun b o e => ?_, ?_⟩⟩
    · rw [List.length_map, List.length_map, List.length_take]
      exact smallM (by omega)
    · have nb : b ≠ D := ne_of_none e hD
      rw [upd_ne nb]
      exact k3 _ _ (k2 _ _ e)
    · rw [upd_same, List.take_add_one, hpi, sortV_non]
      simp
  · rintro H2 ⟨k2, hD2⟩
    rw [hlen, List.take_length] at hD2
    refine ⟨D, _, rfl, SqL.of hD2, ?_⟩
    have e : (ps.map sortB).all id = isOne d := by rw [← e2, List.all_map]; rfl
    rw [e]
    exact q H2 (k.trans k2)
/-! ### size -/
def spSize (P : Program) (w : World) (C : Addr) : Sp := fun vs H Q E => ∃ (x : V) (d : PyData), vs = [x] ∧ Da P w H x d ∧ Sm d ∧ cnt d ≤ 1000000 ∧
  (isOne d = true → ∀ H', Same H H' → Q (.int (cnt d : Nat)) H') ∧ (isOne d = false → ∀ dd H', Same H H' → H' dd = some (.xd [(("value" : Str), x)]) → E (.ref C) (some dd) H')
theorem scSize : FnScope ["document"] ["document"] (defScope (top 14)) := ⟨rfl, rfl, rfl, by decide +kernel, rfl, by decide +kernel, by decide +kernel⟩
theorem ok_size {C fI : Addr} (F : FnD K "size" 14 f fd) (B : Bl mg) (GD : FnOk P w K mg base CX0 3 g gd ["value"] (spIsDoc P w)) (bD : Binds K gd ["value"] []) (kD : PySem.W.keepIn K (.ref g) = true) (gD : mg "is_document" = some (.ref g))
    (GP : FnOk P w K mg base CX0 2 g2 gd2 ["value"] (spParts P w)) (bP : Binds K gd2 ["value"] []) (kP : PySem.W.keepIn K (.ref g2) = true) (gP : mg "parts_of" = some (.ref g2))
    (T : ErrT K C fI) (T0 : InitT K fI) (gC : mg "NoDocument" = some (.ref C)) : FnOk P w K mg base (L2.CX P w) 4 f fd ["document"] (spSize P w C) := by
  refine F.ok scSize (fun vs H Q E h => ?_) (fun cdv A outer s H vs Q E hr h => ?_)
  · obtain ⟨x, d, rfl, _⟩ := h
    rfl
  obtain ⟨x, d, rfl, hd, hs, hc, q1, q2⟩ := h
  have hr2 : Room 2 _ := hr.mono (by decide)
  refine ⟨_, pss_cons (ps_if (pt_not (pt_val (pe_call GD hr rfl gD kD bD .nil pass0 (pa_cons (pv 0) pa_nil)))) (pss_one (ps_raise rfl (takes_of rfl rfl rfl rfl) (pmk_err T T0 gC hr (pa_cons (pv 0) pa_nil)))) pss_nil)
    (pss_one (ps_ret (pe_callB call_len_seq (by rfl) B.len PySem.boot_len (pa_cons (pe_call GP hr2 rfl gP kP bP .nil pass0 (pa_cons (pv 0) pa_nil)) pa_nil)))), ?_⟩
  refine ⟨_, rfl, x, d, rfl, hd, hs, hc, fun H' k => ⟨_, rfl, ?_⟩⟩
  cases e : isOne d with
  | true =>
    refine iteF ⟨_, rfl, x, d, rfl, hd.kp (.same k), hs, hc, fun l H2 ys ps k2 hl hy _ e1 _ => ⟨l, _, rfl, .inl (SqL.of hl), ?_⟩⟩
    rw [hy.length, e1]
    exact q1 e H2 (k.trans k2)
  | false =>
    refine iteT ⟨_, rfl, _, rfl, fun dd hdd => ?_⟩
    exact q2 e dd _ (k.trans (same_new hdd _)) upd_same
end
end K00
set_option Elab.async false
set_option linter.all false
set_option maxRecDepth 100000
set_option maxHeartbeats 4000000
namespace K00
open PySem PySem.Spec L2
open PyProof.Rows (envOfC sortedS)
def sortS : PyData → Str
  | .none => "none"
  | .bool _ => "bool"
  | .int _ => "int"
  | .str _ => "text"
  | .list _ => "list"
  | .tuple _ => ""
  | .dict _ => "record"
theorem sortV_doc {d : PyData} (h : isOne d = true) : sortV d = .str (sortS d) := by
  cases d with
  | tuple xs => exact nomatch h
  | dict ds =>
    have hk := isOne_keys h
    have e : (ds.map fun p => keyB p.1).all id = true := by
      rw [List.all_map]
      exact List.all_eq_true.mpr hk
    show (if (ds.map fun p => keyB p.1).all id = true then V.str "record" else V.non) = _
    rw [if_pos e]
    rfl
  | _ => rfl
theorem ink_sort {d e : PyData} (h1 : isOne d = true) (h2 : isOne e = true) (h : inkD d = inkD e) : sortS d = sortS e := by
  have nw : ∀ b : Bool, (Str.ofString "None") ≠ (if b then Str.ofString "True" else Str.ofString "False") := by decide
  cases d <;> cases e <;> first
    | rfl
    | exact (Bool.false_ne_true (show false = true from h1)).elim
    | exact (Bool.false_ne_true (show false = true from h2)).elim
    | (exfalso
       simp only [inkD] at h
       injection h with h
       injection h with ha hb
       injection ha with ha
       exact absurd ha (by decide))
    | (exfalso
       simp only [inkD] at h
       injection h with h
       injection h with ha hb
       injection hb with hb hc
       injection hb with hb
       exact nw _ hb)
    | (exfalso
       simp only [inkD] at h
       injection h with h
       injection h with ha hb
       injection hb with hb hc
       injection hb with hb
       exact nw _ hb.symm)
/-- alike as far as it is told without the inner parts -/
def Alk (d e : PyData) : Prop :=
  (∃ xs ys, d = .list xs ∧ e = .list ys ∧ xs.length = ys.length) ∨
  (∃ ds es, d = .dict ds ∧ e = .dict es ∧ ∃ ys : List Str, ys.Perm (ds.map fun p => kS p.1) ∧ ys.Perm (es.map fun p => kS p.1) ∧ sortedS ys = true) ∨
  (isL d = false ∧ isK d = false ∧ d = e)
def AlikeR (d e : PyData) (b : Bool) : Prop := (b = false → inkD d ≠ inkD e) ∧ (b = true → Alk d e)
theorem dp_strs {K : PySem.W.Frag} {H : Hp} : ∀ ss : List Str, DpAll K H (ss.map V.str) (ss.map PyData.str)
  | [] => .nil
  | b :: r => .cons (.str b) (dp_strs r)
theorem depth_strs : ∀ ss : List Str, PyData.depthAll (ss.map PyData.str) = 0
  | [] => by simp [PyData.depthAll]
  | b :: r => by simp [PyData.depthAll, PyData.depth, depth_strs r]
theorem lay_strs : ∀ ss : List Str, (∀ s ∈ ss, PyData.strOk s = true) → PyData.canLayAll0 (ss.map PyData.str) = true
  | [], _ => by simp [PyData.canLayAll0]
  | b :: r, h => by
    have h1 := h b (by simp)
    have ih := lay_strs r fun s hs => h s (by simp [hs])
    simp [PyData.canLayAll0, PyData.canLay0, ih, h1]
theorem shaped_strs (ss : List Str) (h : ∀ s ∈ ss, PyData.strOk s = true) : SeqAt.shaped (.list (ss.map PyData.str)) = true := by
  have a : PyData.canLay0 (.list (ss.map PyData.str)) = true := by
    simp only [PyData.canLay0]
    exact lay_strs ss h
  have b : PyData.depth (.list (ss.map PyData.str)) ≤ 64 := by
    simp only [PyData.depth, depth_strs]
    omega
  unfold SeqAt.shaped
  rw [a, decide_eq_true b]
  rfl
theorem eqv_strs : ∀ xs ys : List Str, PyData.eqvAll (xs.map PyData.str) (ys.map PyData.str) = decide (xs = ys)
  | [], [] => rfl
  | [], _ :: _ => by simp [PyData.eqvAll]
  | _ :: _, [] => by simp [PyData.eqvAll]
  | x :: r, y :: t => by
    rw [List.map_cons, List.map_cons, PyData.eqvAll, eqv_strs r t, PyData.eqv]
    by_cases h : x = y
    · subst h
      simp
    · simp [h]
end K00
set_option Elab.async false
set_option linter.all false
set_option maxRecDepth 100000
set_option maxHeartbeats 8000000
namespace K00
open PySem PySem.Spec L2
open PyProof.Rows (envOfC sortedS)
theorem decV_str {a b : Str} : (!decide (V.str a = V.str b)) = !decide (a = b) := by
  by_cases h : a = b
  · subst h; simp
  · have : V.str a ≠ V.str b := fun z => h (V.str.inj z)
    simp [h, this]
theorem keys_ok {ds : List (PyData × PyData)} (hk : ∀ p ∈ ds, keyB p.1 = true) (hs : SmK ds) : ∀ s ∈ (ds.map fun p => kS p.1), PyData.strOk s = true := by
  intro s h
  obtain ⟨p, hp, rfl⟩ := List.mem_map.mp h
  have h1 := (smK_iff.mp hs p hp).1
  have e := keyB_str (hk p hp)
  rw [e] at h1
  exact h1.2
section
variable {P : Program} {w : World} {K : PySem.W.Frag} {mg : Str → Option Value} {base : Heap} {f g g2 : Addr} {fd gd gd2 : FuncData}
/-! ### alike -/
def spAlike (P : Program) (w : World) : Sp := fun vs H Q _ => ∃ (x y : V) (d e : PyData), vs = [x, y] ∧ Da P w H x d ∧ Da P w H y e ∧ Sm d ∧ Sm e ∧ isOne d = true ∧ isOne e = true ∧ ∀ b H', Same H H' → AlikeR d e b → Q (.bl b) H'
theorem scAlike : FnScope ["one", "other", "sort"] ["one", "other"] (defScope (top 11)) := ⟨rfl, rfl, rfl, by decide +kernel, rfl, by decide +kernel, by decide +kernel⟩
theorem ok_alike (F : FnD K "alike" 11 f fd) (B : Bl mg) (G : FnOk P w K mg base CX0 2 g gd ["value"] (spSort P w)) (bG : Binds K gd ["value"] []) (kG : PySem.W.keepIn K (.ref g) = true) (gG : mg "sort_of" = some (.ref g)) :
    FnOk P w K mg base CX0 3 f fd ["one", "other"] (spAlike P w) := by
  refine F.ok scAlike (fun vs H Q E h => ?_) (fun cdv A outer s H vs Q E hr h => ?_)
  · obtain ⟨x, y, d, e, rfl, _⟩ := h
    rfl
  obtain ⟨x, y, d, e, rfl, hd, he, sd, se, od, oe, q⟩ := h
  have hu : (A.deeper (envOfC "alike" (defScope (top 11)) s.heap.objs.size f cdv)).units + 64 < cLine := by
    have z := hr.un
    omega
  refine ⟨_, PSs.nox (pss_cons (ps_set (i := 2) scAlike.nd rfl (Or.inl rfl) (pe_call G hr rfl gG kG bG .nil pass0 (pa_cons (pv 0) pa_nil)))
    (pss_cons (ps_if (pt_cmpR op_ne (pv 2) (pe_call G hr rfl gG kG bG .nil pass0 (pa_cons (pv 1) pa_nil)) (nomark _)) (pss_one (ps_ret pe_bl)) pss_nil)
    (pss_cons (ps_if (pt_cmpR op_eq (pv 2) pe_str (nomark _)) (pss_one (ps_ret (pe_cmpR op_eq (pe_callB call_len_seq (by rfl) B.len PySem.boot_len (pa_cons (pv 0) pa_nil)) (pe_callB call_len_seq (by rfl) B.len PySem.boot_len (pa_cons (pv 1) pa_nil)) (nomark _)))) pss_nil)
    (pss_cons (ps_if (pt_cmpR op_eq (pv 2) pe_str (nomark _)) (pss_one (ps_ret (pe_cmpR (op_eqD hu) (pe_callB (call_sortedD rfl) (by rfl) B.sorted (by decide +kernel) (pa_cons (pv 0) pa_nil)) (pe_callB (call_sortedD rfl) (by rfl) B.sorted (by decide +kernel) (pa_cons (pv 1) pa_nil)) (nomark _)))) pss_nil)
    (pss_one (ps_ret (pe_cmpR (op_eqD hu) (pv 0) (pv 1) (nomark _)))))))), ?_⟩
  refine ⟨_, rfl, x, d, rfl, hd, sd, fun H1 k1 => ⟨_, rfl, _, rfl, y, e, rfl, he.kp (.same k1), se, fun H2 k2 => ?_⟩⟩
  rw [sortV_doc od, sortV_doc oe]
  refine ⟨rfl, _, rfl, ?_⟩
  rw [decV_str]
  have k12 : Same H H2 := fun b o z => k2 _ _ (k1 _ _ z)
  have hd2 := hd.kp (.same k12)
  have he2 := he.kp (.same k12)
  by_cases hse : sortS d = sortS e
  · refine ite_f (by simp [hse]) ⟨_, rfl, rfl, _, rfl, ?_⟩
    have flat : ∀ (hdp : Dp K H2 x d) (hep : Dp K H2 y e), SeqAt.shaped d = true → SeqAt.shaped e = true → isL d = false → isK d = false → (PyData.eqv d e = true → d = e) → (PyData.eqv d e = false → inkD d ≠ inkD e) →
        ∃ dd ee, Dp K H2 x dd ∧ Dp K H2 y ee ∧ SeqAt.shaped dd = true ∧ SeqAt.shaped ee = true ∧ Q (.bl (PyData.eqv dd ee)) H2 :=
      fun hdp hep s1 s2 i1 i2 t1 t2 => ⟨d, e, hdp, hep, s1, s2, q _ H2 k12 ⟨t2, fun z => .inr (.inr ⟨i1, i2, t1 z⟩)⟩⟩
    have nst : ∀ {a b : Str}, a ≠ b → decide (V.str a = V.str b) = false := fun h => decide_eq_false fun z => h (V.str.inj z)
    have nl : sortS d = "list" → decide (V.str (sortS d) = V.str "list") = true := fun h => decide_eq_true (by rw [h])
    cases hd2 with
    | non =>
      cases he2 with
      | non => exact ite_f (nst (by simp only [sortS]; decide)) ⟨_, rfl, rfl, _, rfl, ite_f (nst (by simp only [sortS]; decide)) ⟨_, rfl, _, rfl, flat .non .non rfl rfl rfl rfl (fun _ => rfl) (fun z => by cases z)⟩⟩
      | _ => exact absurd hse (by simp only [sortS]; decide)
    | bl b =>
      cases he2 with
      | bl c =>
        refine ite_f (nst (by simp only [sortS]; decide)) ⟨_, rfl, rfl, _, rfl, ite_f (nst (by simp only [sortS]; decide)) ⟨_, rfl, _, rfl, flat (.bl b) (.bl c) rfl rfl rfl rfl (fun z => ?_) (fun z => ?_)⟩⟩
        · rw [show b = c from by simpa [PyData.eqv] using z]
        · have : b ≠ c := by simpa [PyData.eqv] using z
          intro h
          apply this
          simp only [inkD] at h
          injection h with h
          injection h with _ h
          injection h with h _
          injection h with h
          revert h
          cases b <;> cases c <;> decide
      | _ => exact absurd hse (by simp only [sortS]; decide)
    | int i =>
      cases he2 with
      | int j =>
        refine ite_f (nst (by simp only [sortS]; decide)) ⟨_, rfl, rfl, _, rfl, ite_f (nst (by simp only [sortS]; decide)) ⟨_, rfl, _, rfl, flat (.int i) (.int j) rfl rfl rfl rfl (fun z => ?_) (fun z => ?_)⟩⟩
        · rw [show i = j from by simpa [PyData.eqv] using z]
        · have : i ≠ j := by simpa [PyData.eqv] using z
          intro h
          apply this
          simp only [inkD] at h
          injection h with h
          injection h with _ h
          injection h with h _
          injection h with h
      | _ => exact absurd hse (by simp only [sortS]; decide)
    | str a =>
      cases he2 with
      | str b =>
        have sh : ∀ s : Str, Sm (.str s) → SeqAt.shaped (.str s) = true := fun s hs => by
          unfold SeqAt.shaped
          simp [PyData.canLay0, PyData.depth, hs.2]
        refine ite_f (nst (by simp only [sortS]; decide)) ⟨_, rfl, rfl, _, rfl, ite_f (nst (by simp only [sortS]; decide)) ⟨_, rfl, _, rfl, flat (.str a) (.str b) (sh a sd) (sh b se) rfl rfl (fun z => ?_) (fun z => ?_)⟩⟩
        · rw [show a = b from by simpa [PyData.eqv] using z]
        · have : a ≠ b := by simpa [PyData.eqv] using z
          intro h
          apply this
          simp only [inkD] at h
          injection h with h
          injection h with _ h
          injection h with h _
          injection h with h
      | _ => exact absurd hse (by simp only [sortS]; decide)
    | tup h r => exact (Bool.false_ne_true (show false = true from od)).elim
    | @lst a o xs ds h r =>
      cases he2 with
      | @lst b o' ys es h' r' =>
        refine iteT ⟨_, rfl, a, xs, rfl, .inl (.inl (.inr ⟨o, h⟩)), _, rfl, b, ys, rfl, .inl (.inl (.inr ⟨o', h'⟩)), rfl, q _ H2 k12 ?_⟩
        have l1 := r.length
        have l2 := r'.length
        refine ⟨fun z z2 => ?_, fun z => .inl ⟨ds, es, rfl, rfl, ?_⟩⟩
        · have e1 := ink_len z2
          have : (V.int (xs.length : Nat)) = V.int (ys.length : Nat) := by rw [l1, l2, e1]
          exact absurd (decide_eq_true this) (by rw [z]; exact Bool.false_ne_true)
        · have e1 := V.int.inj (of_decide_eq_true z)
          omega
      | _ => exact absurd hse (by simp only [sortS]; decide)
    | @dic a o es ds h r =>
      cases he2 with
      | @dic b o' es' ds' h' r' =>
        have hk := isOne_keys od
        have hk' := isOne_keys oe
        obtain ⟨kvs, hf, rfl, hks⟩ := doc_dict h r hk
        obtain ⟨kvs', hf', rfl, hks'⟩ := doc_dict h' r' hk'
        obtain ⟨s1, s2, s3⟩ := sd
        obtain ⟨s1', s2', s3'⟩ := se
        refine ite_f (nst (by simp only [sortS]; decide)) ⟨_, rfl, rfl, _, rfl, iteT ?_⟩
        refine ⟨_, rfl, a, kvs, _, rfl, .inr ⟨o, hf⟩, hks, by rw [List.length_map]; omega, fun ys p hp1 hs1 hpn => ?_⟩
        refine ⟨_, rfl, b, kvs', _, rfl, .inr ⟨o', (same_new hpn _) _ _ hf'⟩, hks', by rw [List.length_map]; omega, fun zs p' hp2 hs2 hpn' => ?_⟩
        have ok1 : ∀ s ∈ ys, PyData.strOk s = true := fun s hs => keys_ok hk s3 s (hp1.mem_iff.mp hs)
        have ok2 : ∀ s ∈ zs, PyData.strOk s = true := fun s hs => keys_ok hk' s3' s (hp2.mem_iff.mp hs)
        refine ⟨_, _, .lst (SqL.of ((same_new hpn' _) _ _ upd_same)) (dp_strs ys), .lst (SqL.of upd_same) (dp_strs zs), shaped_strs ys ok1, shaped_strs zs ok2, ?_⟩
        have e1 : PyData.eqv (.list (ys.map .str)) (.list (zs.map .str)) = decide (ys = zs) := by rw [PyData.eqv, eqv_strs]
        rw [e1]
        refine q _ _ (k12.trans ((same_new hpn _).trans (same_new hpn' _))) ⟨fun z z2 => ?_, fun z => .inr (.inl ⟨ds, ds', rfl, rfl, ys, hp1, ?_, hs1⟩)⟩
        · exact absurd ((ink_records s2 s2' hp1 hs1 hp2 hs2).mp z2).1 (of_decide_eq_false z)
        · rw [of_decide_eq_true z]
          exact hp2
      | _ => exact absurd hse (by simp only [sortS]; decide)
  · refine ite_t (by simp [hse]) ?_
    exact q false H2 k12 ⟨fun _ h => hse (ink_sort od oe h), fun z => by cases z⟩
end
end K00
set_option Elab.async false
set_option linter.all false
set_option maxRecDepth 100000
set_option maxHeartbeats 8000000
namespace K00
open PySem PySem.Spec L2
open PyProof.Rows (envOfC sortedS)
def PaV (P : Program) (w : World) (H : Hp) (v : V) (p : PyData × PyData) : Prop := ∃ t a b, v = .ref t ∧ H t = some (.tup [a, b]) ∧ Da P w H a p.1 ∧ Da P w H b p.2
def GoodP (p : PyData × PyData) : Prop := Sm p.1 ∧ Sm p.2 ∧ isOne p.1 = true ∧ isOne p.2 = true
section
variable {P : Program} {w : World} {H H' : Hp}
theorem PaV.kp {v : V} {p : PyData × PyData} (h : PaV P w H v p) (k : Kp H H') : PaV P w H' v p := by
  obtain ⟨t, a, b, h1, h2, h3, h4⟩ := h
  exact ⟨t, a, b, h1, k.1 _ _ h2, h3.kp k, h4.kp k⟩
theorem pav_kp {vs : List V} {ps : List (PyData × PyData)} (h : Paired (PaV P w H) vs ps) (k : Kp H H') : Paired (PaV P w H') vs ps := Paired.mapP h fun _ _ z => z.kp k
theorem zip_pav : ∀ {xs ys : List V} {ds es : List PyData} {ts : List Addr}, DaL P w H xs ds → DaL P w H ys es → Paired (fun (t : Addr) (q : V × V) => H t = some (.tup [q.1, q.2])) ts (xs.zip ys) → Paired (PaV P w H) (ts.map V.ref) (ds.zip es)
  | _, _, _, _, ts, .nil, _, h => by
    simp only [List.zip_nil_left] at h ⊢
    cases h
    exact .nil
  | _, _, _, _, ts, .cons _ _, .nil, h => by
    simp only [List.zip_nil_right] at h ⊢
    cases h
    exact .nil
  | _, _, _, _, ts, .cons h1 r1, .cons h2 r2, h => by
    simp only [List.zip_cons_cons] at h ⊢
    cases h with
    | cons z t => exact .cons ⟨_, _, _, rfl, z, h1, h2⟩ (zip_pav r1 r2 t)
end
theorem paired_append {α β : Type} {F : α → β → Prop} : ∀ {xs xs' : List α} {ys ys' : List β}, Paired F xs ys → Paired F xs' ys' → Paired F (xs ++ xs') (ys ++ ys')
  | _, _, _, _, .nil, h => h
  | _, _, _, _, .cons a t, h => .cons a (paired_append t h)
theorem paired_snoc_inv {α β : Type} {F : α → β → Prop} {xs : List α} {ys : List β} (h : Paired F xs ys) (ne : xs ≠ []) : ∃ x y, xs[xs.length - 1]? = some x ∧ ys = ys.dropLast ++ [y] ∧ F x y ∧ Paired F xs.dropLast ys.dropLast := by
  induction h with
  | nil => exact absurd rfl ne
  | @cons a b r t z tl ih =>
    cases tl with
    | nil => exact ⟨a, b, rfl, rfl, z, .nil⟩
    | @cons a' b' r' t' z' tl' =>
      obtain ⟨x, y, e1, e2, e3, e4⟩ := ih (by simp)
      refine ⟨x, y, ?_, ?_, e3, ?_⟩
      · simpa using e1
      · show b :: b' :: t' = (b :: (b' :: t').dropLast) ++ [y]
        rw [List.cons_append, ← e2]
      · exact .cons z e4
section
variable {P : Program} {w : World} {K : PySem.W.Frag} {mg : Str → Option Value} {base : Heap} {f g g2 g3 : Addr} {fd gd gd2 gd3 : FuncData}
/-! ### paired_parts -/
def spPaired (P : Program) (w : World) : Sp := fun vs H Q _ => ∃ (x y : V) (d e : PyData), vs = [x, y] ∧ Da P w H x d ∧ Da P w H y e ∧ Sm d ∧ Sm e ∧ isOne d = true ∧ isOne e = true ∧ Alk d e ∧
  ∀ H' l vs ps, Same H H' → H l = none → H' l = some (.lst vs) → Paired (PaV P w H') vs ps → (∀ p ∈ ps, GoodP p) → (inkD d = inkD e ↔ ∀ p ∈ ps, inkD p.1 = inkD p.2) → (ps.map fun p => cnt p.1).sum + 1 = cnt d → Q (.ref l) H'
theorem scPaired : FnScope ["one", "other", "field"] ["one", "other"] (defScope (top 12)) := ⟨rfl, rfl, rfl, by decide +kernel, rfl, by decide +kernel, by decide +kernel⟩
theorem ok_paired (F : FnD K "paired_parts" 12 f fd) (B : Bl mg) : FnOk P w K mg base CX0 1 f fd ["one", "other"] (spPaired P w) := by
  refine F.ok scPaired (fun vs H Q E h => ?_) (fun cdv A outer s H vs Q E hr h => ?_)
  · obtain ⟨x, y, d, e, rfl, _⟩ := h
    rfl
  obtain ⟨x, y, d, e, rfl, hd, he, sd, se, od, oe, al, q⟩ := h
  have hu := hu_of hr
  refine ⟨_, PSs.nox (pss_cons (ps_if (pt_val (pe_callB call_isDa (by rfl) B.isi (by decide +kernel) (pa_cons (pv 0) (pa_cons (pe_bltn (v := .ty "list") (by rfl) B.list (by decide +kernel) rfl) pa_nil)))) (pss_one (ps_ret
        (pe_listzip rfl rfl B.list (by decide +kernel) rfl B.zip (pa_cons (pv 0) (pa_cons (pv 1) pa_nil))))) pss_nil)
    (pss_cons (ps_if (pt_val (pe_callB call_isDa (by rfl) B.isi (by decide +kernel) (pa_cons (pv 0) (pa_cons (pe_bltn (v := .ty "dict") (by rfl) B.dict (by decide +kernel) rfl) pa_nil)))) (pss_one (ps_ret
        (pe_lc (own := [("field", 2)]) (g := gName 2) (tt := tYes) rfl scPaired.nd (pi_keysD (pv 0)) (blkOk_by (N := ["one", "other", "field"]) (sc := defScope (top 12)) (by decide +kernel))
            (fun _ _ _ _ _ => pg_name (i := 2) scPaired.nd rfl (Or.inl rfl)) (fun _ _ _ _ _ => pts_nil)
            (fun _ _ _ _ _ => pe_tup (pa_cons (pe_dget hu (pv 0) (pv 2) (fun _ _ => rfl)) (pa_cons (pe_dget hu (pv 1) (pv 2) (fun _ _ => rfl)) pa_nil)))))) pss_nil)
    (pss_one (ps_ret (pe_lst pa_nil))))), ?_⟩
  rcases al with ⟨ds, es, rfl, rfl, hlen⟩ | ⟨ds, es, rfl, rfl, ys0, hp1, hp2, hs0⟩ | ⟨n1, n2, rfl⟩
  · have hd0 := hd
    have he0 := he
    cases hd with
    | @lst a o xs ds h r =>
      cases he with
      | @lst b o' ys es h' r' =>
        have l1 := r.length
        have l2 := r'.length
        refine ⟨_, rfl, _, "list", _, _, rfl, hd0, kt_l _, _, rfl, iteT ⟨_, rfl, _, rfl, a, b, xs, ys, rfl, .inl (.inr ⟨o, h⟩), .inl (.inr ⟨o', h'⟩), by omega, fun H' p ts k hp ht hpn hl hpr => ?_⟩⟩
        refine q H' p _ (ds.zip es) k hp hl (zip_pav (r.kp (.same k)) (r'.kp (.same k)) hpr) (fun p hp => ?_) (ink_lists hlen) ?_
        · obtain ⟨a, b⟩ := p
          have hm := List.of_mem_zip hp
          exact ⟨smL_iff.mp sd.2 a hm.1, smL_iff.mp se.2 b hm.2, isOne_kidsOf od a hm.1, isOne_kidsOf oe b hm.2⟩
        · have e1 : (ds.zip es).map (fun p => cnt p.1) = ds.map cnt := by
            show (ds.zip es).map (cnt ∘ Prod.fst) = _
            rw [← List.map_map, List.map_fst_zip (by omega)]
          rw [e1, cnt_kids (.list ds)]
          show (ds.map cnt).sum + 1 = 1 + (ds.map cnt).sum
          omega
  · have hd0 := hd
    have he0 := he
    cases hd with
    | @dic a o es1 ds h r =>
      cases he with
      | @dic b o' es2 es h' r' =>
        have hk := isOne_keys od
        have hk' := isOne_keys oe
        obtain ⟨kvs, hf, rfl, hks⟩ := doc_dict h r hk
        obtain ⟨kvs', hf', rfl, hks'⟩ := doc_dict h' r' hk'
        obtain ⟨s1, s2, s3⟩ := sd
        obtain ⟨s1', s2', s3'⟩ := se
        have hl := r.length
        refine ⟨_, rfl, _, "list", _, _, rfl, hd0, kt_l _, _, rfl, iteF ⟨_, rfl, _, "dict", _, _, rfl, hd0, kt_k _, _, rfl, iteT ⟨_, rfl, a, o, _, rfl, h, fun D hD => ?_⟩⟩⟩
        refine lc_it walk_keysD (fun i H2 => Same H H2 ∧ ∃ vs, H2 D = some (.lst vs) ∧ vs.length = i ∧ Paired (PaV P w H2) vs ((ds.take i).map fun p => (p.2, lookD es (kS p.1)))) ⟨same_new hD _, [], upd_same, rfl, .nil⟩ (fun _ H2 _ z => h.kp (.same z.1)) ?_ ?_
        · rintro i v H2 H2' hi ⟨k2, vs, hD2, hvl, hpr⟩ ⟨rfl, hv⟩
          refine ⟨rfl, ?_⟩
          simp only [tYes, if_true]
          rw [List.getElem?_map] at hv
          cases he : (kvs.map fun p => (kV p.1, p.2))[i]? with
          | none => rw [he] at hv; cases hv
          | some p =>
            rw [he] at hv
            cases hv
            obtain ⟨dd, hdd, hk1, hv1⟩ := r.get he
            have hm := List.mem_of_getElem? hdd
            have ek := keyB_str (hk dd hm)
            have ep : p.1 = V.str (kS dd.1) := by
              have hk1' : Da P w H p.1 dd.1 := hk1
              rw [ek] at hk1'
              generalize p.1 = z at hk1'
              cases hk1'
              rfl
            have hkm : kS dd.1 ∈ ds.map fun p => kS p.1 := List.mem_map.mpr ⟨dd, hm, rfl⟩
            obtain ⟨u1, hu1, hd1⟩ := look_val r hks hkm
            rw [lookD_of s2 hm] at hd1
            have hkm2 : kS dd.1 ∈ es.map fun p => kS p.1 := hp2.mem_iff.mp (hp1.mem_iff.mpr hkm)
            obtain ⟨u2, hu2, hd2⟩ := look_val r' hks' hkm2
            refine ⟨_, rfl, _, rfl, a, u1, rfl, .inl ⟨kvs, Sum.inr (kS dd.1), .inr ⟨o, k2 _ _ hf⟩, ep, hu1.symm⟩, ?_⟩
            refine ⟨_, rfl, _, rfl, b, u2, rfl, .inl ⟨kvs', Sum.inr (kS dd.1), .inr ⟨o', k2 _ _ hf'⟩, ep, hu2.symm⟩, ?_⟩
            refine ⟨(by show 2 ≤ sizeLine; decide), fun t ht => ?_⟩
            have k3 : Same H2' (upd H2' t (.tup [u1, u2])) := same_new ht _
            have ntD : D ≠ t := ne_of_none hD2 ht
            refine ⟨vs, by rw [upd_ne ntD]; exact hD2, small1000 (by rw [List.length_map] at hl; simp only [List.length_map] at hi; omega), fun b' o2 e => ?_, _, upd_same, by simp [hvl], ?_⟩
            · have nb : b' ≠ D := ne_of_none e hD
              rw [upd_ne nb]
              exact k3 _ _ (k2 _ _ e)
            · have k4 : Kp H2' (upd (upd H2' t (.tup [u1, u2])) D (.lst (vs ++ [.ref t]))) := (Kp.same k3).trans (.lst (by rw [upd_ne ntD]; exact hD2) _)
              have kH : Kp H (upd (upd H2' t (.tup [u1, u2])) D (.lst (vs ++ [.ref t]))) := (Kp.same k2).trans k4
              rw [List.take_add_one, hdd]
              simp only [Option.toList_some, List.map_append, List.map_cons, List.map_nil]
              refine paired_append (pav_kp hpr k4) (.cons ⟨t, u1, u2, rfl, ?_, hd1.kp kH, hd2.kp kH⟩ .nil)
              rw [upd_ne (Ne.symm ntD)]
              exact upd_same
        · rintro H2 ⟨k2, vs, hD2, hvl, hpr⟩
          rw [hl, List.take_length] at hpr
          refine q H2 D vs _ k2 hD hD2 hpr (fun p hp => ?_) ?_ ?_
          · obtain ⟨dd, hm, rfl⟩ := List.mem_map.mp hp
            have hkm : kS dd.1 ∈ ds.map fun p => kS p.1 := List.mem_map.mpr ⟨dd, hm, rfl⟩
            obtain ⟨ee, hem, _, hee⟩ := lookD_mem (hp2.mem_iff.mp (hp1.mem_iff.mpr hkm))
            refine ⟨(smK_iff.mp s3 dd hm).2, ?_, isOne_kidsOf od _ (List.mem_map.mpr ⟨dd, hm, rfl⟩), ?_⟩
            · show Sm (lookD es (kS dd.1))
              rw [hee]
              exact (smK_iff.mp s3' ee hem).2
            · show isOne (lookD es (kS dd.1)) = true
              rw [hee]
              exact isOne_kidsOf oe _ (List.mem_map.mpr ⟨ee, hem, rfl⟩)
          · rw [ink_records s2 s2' hp1 hs0 hp2 hs0]
            constructor
            · rintro ⟨_, z⟩ p hp
              obtain ⟨dd, hm, rfl⟩ := List.mem_map.mp hp
              exact z dd hm
            · intro z
              exact ⟨rfl, fun p hp => z _ (List.mem_map.mpr ⟨p, hp, rfl⟩)⟩
          · rw [List.map_map, cnt_kids (.dict ds)]
            show (ds.map fun p => cnt p.2).sum + 1 = 1 + ((ds.map (·.2)).map cnt).sum
            rw [List.map_map]
            show (ds.map fun p => cnt p.2).sum + 1 = 1 + (ds.map fun p => cnt p.2).sum
            omega
  · refine ⟨_, rfl, _, "list", _, _, rfl, hd, kt_l _, _, rfl, ite_f n1 ⟨_, rfl, _, "dict", _, _, rfl, hd, kt_k _, _, rfl, ite_f n2 ⟨(by show 0 ≤ sizeLine; decide), fun l hl => ?_⟩⟩⟩
    refine q _ l [] [] (same_new hl _) hl upd_same .nil (fun _ h => nomatch h) ⟨fun _ _ h => (nomatch h), fun _ => rfl⟩ ?_
    have : kids d = [] := by cases d <;> first | rfl | exact (Bool.false_ne_true n1.symm).elim | exact (Bool.false_ne_true n2.symm).elim
    rw [cnt_kids, this]
    rfl
end
end K00
set_option Elab.async false
set_option linter.all false
set_option maxRecDepth 100000
set_option maxHeartbeats 8000000
namespace K00
open PySem PySem.Spec L2
open PyProof.Rows (envOfC sortedS)
def sumC (ps : List (PyData × PyData)) : Nat := (ps.map fun p => cnt p.1).sum
theorem sumC_app (a b : List (PyData × PyData)) : sumC (a ++ b) = sumC a + sumC b := by unfold sumC; rw [List.map_append, List.sum_append]
theorem len_sumC : ∀ ps : List (PyData × PyData), ps.length ≤ sumC ps
  | [] => Nat.le_refl _
  | p :: r => by
    have h1 := len_sumC r
    have h2 := cnt_pos p.1
    unfold sumC at *
    rw [List.map_cons, List.sum_cons, List.length_cons]
    omega
section
variable {P : Program} {w : World} {K : PySem.W.Frag} {mg : Str → Option Value} {base : Heap} {f g g2 g3 : Addr} {fd gd gd2 gd3 : FuncData}
def spSame (P : Program) (w : World) (C : Addr) : Sp := fun vs H Q E => ∃ (x y : V) (d e : PyData), vs = [x, y] ∧ Da P w H x d ∧ Da P w H y e ∧ Sm d ∧ Sm e ∧ cnt d ≤ 500000 ∧ cnt e ≤ 500000 ∧
  (isOne d = false → ∀ dd H', Same H H' → H' dd = some (.xd [(("value" : Str), x)]) → E (.ref C) (some dd) H') ∧
  (isOne d = true → isOne e = false → ∀ dd H', Same H H' → H' dd = some (.xd [(("value" : Str), y)]) → E (.ref C) (some dd) H') ∧
  (isOne d = true → isOne e = true → ∀ b H', Same H H' → (b = true ↔ inkD d = inkD e) → Q (.bl b) H')
theorem scSame : FnScope ["one", "other", "pairs", "left", "right"] ["one", "other"] (defScope (top 13)) := ⟨rfl, rfl, rfl, by decide +kernel, rfl, by decide +kernel, by decide +kernel⟩
theorem ok_same {C fI : Addr} (F : FnD K "same" 13 f fd) (B : Bl mg) (GD : FnOk P w K mg base CX0 3 g gd ["value"] (spIsDoc P w)) (bD : Binds K gd ["value"] []) (kD : PySem.W.keepIn K (.ref g) = true) (gD : mg "is_document" = some (.ref g))
    (GA : FnOk P w K mg base CX0 3 g2 gd2 ["one", "other"] (spAlike P w)) (bA : Binds K gd2 ["one", "other"] []) (kA : PySem.W.keepIn K (.ref g2) = true) (gA : mg "alike" = some (.ref g2))
    (GP : FnOk P w K mg base CX0 1 g3 gd3 ["one", "other"] (spPaired P w)) (bP : Binds K gd3 ["one", "other"] []) (kP : PySem.W.keepIn K (.ref g3) = true) (gP : mg "paired_parts" = some (.ref g3))
    (T : ErrT K C fI) (T0 : InitT K fI) (gC : mg "NoDocument" = some (.ref C)) : FnOk P w K mg base (L2.CX P w) 4 f fd ["one", "other"] (spSame P w C) := by
  refine F.ok scSame (fun vs H Q E h => ?_) (fun cdv A outer s H vs Q E hr h => ?_)
  · obtain ⟨x, y, d, e, rfl, _⟩ := h
    rfl
  obtain ⟨x, y, d, e, rfl, hd, he, sd, se, cd, ce, q1, q2, q3⟩ := h
  have hr1 : Room 1 _ := hr.mono (by decide)
  refine ⟨_, pss_cons (ps_if (pt_not (pt_val (pe_call GD hr rfl gD kD bD .nil pass0 (pa_cons (pv 0) pa_nil)))) (pss_one (ps_raise rfl (takes_of rfl rfl rfl rfl) (pmk_err T T0 gC hr (pa_cons (pv 0) pa_nil)))) pss_nil)
    (pss_cons (ps_if (pt_not (pt_val (pe_call GD hr rfl gD kD bD .nil pass0 (pa_cons (pv 1) pa_nil)))) (pss_one (ps_raise rfl (takes_of rfl rfl rfl rfl) (pmk_err T T0 gC hr (pa_cons (pv 1) pa_nil)))) pss_nil)
    (PSs.nox (pss_cons (ps_set (i := 2) scSame.nd rfl (Or.inl rfl) (pe_lst (pa_cons (pe_tup (pa_cons (pv 0) (pa_cons (pv 1) pa_nil))) pa_nil)))
    (pss_cons (ps_while PassesOwn.never (pt_truth (pv 2) (by intro _; rfl))
      (pss_cons (ps_asg (pe_bm0 PySem.F.plainAttrs_list PySem.F.slot_list_pop PySem.F.type_list_pop mt_pop (pv 2)) (pg_tup (by rfl) (pgs_cons (pg_name (i := 3) scSame.nd rfl (Or.inl rfl)) (pgs_cons (pg_name (i := 4) scSame.nd rfl (Or.inl rfl)) pgs_nil))))
      (pss_cons (ps_if (pt_not (pt_val (pe_call GA hr rfl gA kA bA .nil pass0 (pa_cons (pv 3) (pa_cons (pv 4) pa_nil))))) (pss_one (ps_ret pe_bl)) pss_nil)
      (pss_one (ps_expr (pe_bm PySem.F.plainAttrs_list PySem.F.slot_list_extend PySem.F.type_list_extend mt_extend (pv 2)
        (pa_cons (pe_call GP hr1 rfl gP kP bP .nil pass0 (pa_cons (pv 3) (pa_cons (pv 4) pa_nil))) pa_nil)))))))
    (pss_one (ps_ret pe_bl)))))), ?_⟩
  refine ⟨_, rfl, x, d, rfl, hd, sd, by omega, fun H1 k1 => ⟨_, rfl, ?_⟩⟩
  cases od : isOne d with
  | false => exact iteT ⟨_, rfl, _, rfl, fun dd hdd => q1 od dd _ (k1.trans (same_new hdd _)) upd_same⟩
  | true =>
  refine iteF ⟨_, rfl, y, e, rfl, he.kp (.same k1), se, by omega, fun H2 k2 => ⟨_, rfl, ?_⟩⟩
  have k12 : Same H H2 := k1.trans k2
  cases oe : isOne e with
  | false => exact iteT ⟨_, rfl, _, rfl, fun dd hdd => q2 od oe dd _ (k12.trans (same_new hdd _)) upd_same⟩
  | true =>
  refine iteF ⟨_, rfl, _, rfl, (by show 2 ≤ sizeLine; decide), fun t ht => ⟨(by show 1 ≤ sizeLine; decide), fun l hl => ?_⟩⟩
  have k3 : Same H2 (upd H2 t (.tup [x, y])) := same_new ht _
  have k4 : Same (upd H2 t (.tup [x, y])) (upd (upd H2 t (.tup [x, y])) l (.lst [.ref t])) := same_new hl _
  have k0 : Same H (upd (upd H2 t (.tup [x, y])) l (.lst [.ref t])) := k12.trans (k3.trans k4)
  have hlH : H l = none := by
    cases z : H l with
    | none => rfl
    | some o => rw [(k12.trans k3) _ _ z] at hl; cases hl
  refine ⟨fun m σ H' => ∃ (lv rv : Option V) (vs : List V) (ps : List (PyData × PyData)), σ = [some x, some y, some (.ref l), lv, rv] ∧ Same H H' ∧ H' l = some (.lst vs) ∧ Paired (PaV P w H') vs ps ∧ (∀ p ∈ ps, GoodP p) ∧ (inkD d = inkD e ↔ ∀ p ∈ ps, inkD p.1 = inkD p.2) ∧ m = sumC ps ∧ m ≤ cnt d,
    ⟨sumC [(d, e)], none, none, [.ref t], [(d, e)], rfl, k0, upd_same, .cons ⟨t, x, y, rfl, k4 _ _ upd_same, hd.kp (.same k0), he.kp (.same k0)⟩ .nil, fun p hp => by rw [List.mem_singleton.mp hp]; exact ⟨sd, se, od, oe⟩, by simp, rfl, by simp [sumC]⟩, ?_⟩
  rintro m σ H' ⟨lv, rv, vs, ps, rfl, k, hH, hpr, hgd, hiff, rfl, hm⟩
  have hlen : vs.length = ps.length := Paired.length hpr
  refine ⟨_, rfl, _, .inl ⟨vs, SqL.of hH, rfl⟩, ?_⟩
  cases hv : vs with
  | nil =>
    rw [hv] at hpr
    cases hpr
    exact iteF (q3 od oe true H' k ⟨fun _ => hiff.mpr (fun _ h => nomatch h), fun _ => rfl⟩)
  | cons v0 vr =>
    rw [← hv]
    have ne : vs ≠ [] := by rw [hv]; simp
    obtain ⟨v, p, e1, e2, ⟨t', a, b, rfl, ht', ha, hb⟩, e4⟩ := paired_snoc_inv hpr ne
    have hpm : p ∈ ps := by rw [e2]; simp
    obtain ⟨gs1, gs2, go1, go2⟩ := hgd p hpm
    have hsum : sumC ps = sumC ps.dropLast + cnt p.1 := by
      have : sumC ps = sumC (ps.dropLast ++ [p]) := by rw [← e2]
      rw [this, sumC_app]
      simp [sumC]
    have hcp := cnt_pos p.1
    have kd : Kp H' (upd H' l (.lst vs.dropLast)) := .lst hH _
    have kSd : Same H (upd H' l (.lst vs.dropLast)) := fun b' o z => by
      rw [upd_ne (ne_of_none z hlH)]
      exact k _ _ z
    refine ite_t (by rw [hv]; rfl) ⟨fun σ' H'' => ∃ (lv rv : Option V) (vs : List V) (ps' : List (PyData × PyData)), σ' = [some x, some y, some (.ref l), lv, rv] ∧ Same H H'' ∧ H'' l = some (.lst vs) ∧ Paired (PaV P w H'') vs ps' ∧ (∀ p ∈ ps', GoodP p) ∧ (inkD d = inkD e ↔ ∀ p ∈ ps', inkD p.1 = inkD p.2) ∧ sumC ps' < sumC ps,
      fun σ' H'' ⟨lv, rv, vs', ps', z1, z2, z3, z4, z5, z6, z7⟩ => ⟨sumC ps', z7, lv, rv, vs', ps', z1, z2, z3, z4, z5, z6, rfl, by omega⟩, ?_⟩
    refine ⟨_, rfl, .inl ⟨rfl, _, SqL.of hH⟩, l, vs, _, rfl, rfl, hH, e1, ?_⟩
    refine ⟨t', [a, b], rfl, SqT.of (kd.1 _ _ ht'), rfl, a, [b], rfl, b, [], rfl, rfl, ?_⟩
    refine ⟨_, rfl, _, rfl, a, b, p.1, p.2, rfl, ha.kp kd, hb.kp kd, gs1, gs2, go1, go2, fun bb H3 k3' hal => ⟨_, rfl, ?_⟩⟩
    cases bb with
    | false =>
      refine iteT (q3 od oe false H3 (kSd.trans k3') ⟨fun z => (nomatch z), fun z => ?_⟩)
      exact absurd (hiff.mp z p hpm) (hal.1 rfl)
    | true =>
      have kd3 : Kp H' H3 := kd.trans (.same k3')
      refine iteF ⟨_, rfl, .inl ⟨rfl, _, SqL.of (k3' _ _ upd_same)⟩, _, rfl, _, rfl, a, b, p.1, p.2, rfl, ha.kp kd3, hb.kp kd3, gs1, gs2, go1, go2, hal.2 rfl, fun H4 l' zs qs k4' hl' hH4 hpr4 hgd4 hiff4 hsum4 => ?_⟩
      have hl4 : H4 l = some (.lst vs.dropLast) := k4' _ _ (k3' _ _ upd_same)
      have kd4 : Kp H' H4 := kd3.trans (.same k4')
      have kl : Kp H4 (upd H4 l (.lst (vs.dropLast ++ zs))) := .lst hl4 _
      have h1 := len_sumC ps.dropLast
      have h2 := len_sumC qs
      have hq : sumC qs + 1 = cnt p.1 := hsum4
      have l4 : vs.dropLast.length = ps.dropLast.length := Paired.length e4
      have l5 : zs.length = qs.length := Paired.length hpr4
      refine ⟨l, l', vs.dropLast, zs, rfl, rfl, hl4, hH4, Nat.le_of_lt (smallM (by omega)), ?_⟩
      refine ⟨_, _, _, ps.dropLast ++ qs, rfl, fun b' o z => ?_, upd_same, paired_append (pav_kp e4 (kd4.trans kl)) (pav_kp hpr4 kl), fun p' hp' => ?_, ?_, ?_⟩
      · rw [upd_ne (ne_of_none z hlH)]
        exact k4' _ _ (k3' _ _ (kSd _ _ z))
      · rcases List.mem_append.mp hp' with h | h
        · exact hgd p' (by rw [e2]; exact List.mem_append_left _ h)
        · exact hgd4 p' h
      · rw [hiff]
        constructor
        · intro z p' hp'
          rcases List.mem_append.mp hp' with h | h
          · exact z p' (by rw [e2]; exact List.mem_append_left _ h)
          · exact hiff4.mp (z p hpm) p' h
        · intro z p' hp'
          rw [e2] at hp'
          rcases List.mem_append.mp hp' with h | h
          · exact z p' (List.mem_append_left _ h)
          · rw [List.mem_singleton.mp h]
            exact hiff4.mpr fun p'' h'' => z p'' (List.mem_append_right _ h'')
      · rw [sumC_app]
        omega
end
end K00
set_option Elab.async false
set_option linter.all false
set_option maxRecDepth 100000
set_option maxHeartbeats 4000000
/-! K00W: the pot: made, drawn from. -/
namespace K00
open PySem PySem.Spec L2
open PyProof.Rows (envOfC)
/-- a pot at p from which at most c numbers were stirred -/
def PotAt (H : Hp) (p : Addr) (c : Nat) : Prop := ∃ (a b k : Int), H p = some (.lst [.int a, .int b, .int k]) ∧ 0 ≤ b ∧ b < 2305843009213693921 ∧ 0 ≤ k ∧ k ≤ (c : Int)
theorem PotAt.same {H H' : Hp} {p : Addr} {c : Nat} (h : PotAt H p c) (k : Same H H') : PotAt H' p c := by
  obtain ⟨a, b, n, h1, h2⟩ := h
  exact ⟨a, b, n, k _ _ h1, h2⟩
theorem PotAt.mono {H : Hp} {p : Addr} {c d : Nat} (h : PotAt H p c) (k : c ≤ d) : PotAt H p d := by
  obtain ⟨a, b, n, h1, h2, h3, h4, h5⟩ := h
  exact ⟨a, b, n, h1, h2, h3, h4, by omega⟩
theorem PotAt.lst {H : Hp} {p : Addr} {c : Nat} (h : PotAt H p c) : ∃ xs, H p = some (.lst xs) := by
  obtain ⟨a, b, n, h1, _⟩ := h
  exact ⟨_, h1⟩
theorem prime_at (k : Int) : ∃ z : Int, atI ([.int 2147483647, .int 2147483629, .int 2147483587, .int 2147483579, .int 2147483563] : List V) (k % 5) = some (.int z) ∧ 2147483563 ≤ z ∧ z ≤ 2147483647 := by
  have h1 : 0 ≤ k % 5 := Int.emod_nonneg _ (by decide)
  have h2 : k % 5 < 5 := Int.emod_lt_of_pos _ (by decide)
  generalize k % 5 = r at h1 h2
  have h : r = 0 ∨ r = 1 ∨ r = 2 ∨ r = 3 ∨ r = 4 := by omega
  rcases h with rfl | rfl | rfl | rfl | rfl
  · exact ⟨_, rfl, by decide, by decide⟩
  · exact ⟨_, rfl, by decide, by decide⟩
  · exact ⟨_, rfl, by decide, by decide⟩
  · exact ⟨_, rfl, by decide, by decide⟩
  · exact ⟨_, rfl, by decide, by decide⟩
theorem stir_ok {b k : Int} (hb : 0 ≤ b) (hb2 : b < 2305843009213693921) (hk : 0 ≤ k) (hk2 : k ≤ 7000) : (b + 80021 * k * k + 59).natAbs < 2 ^ 64 := by
  have h1 : k * k ≤ 7000 * 7000 := Int.mul_le_mul hk2 hk2 hk (by omega)
  have h0 : 0 ≤ k * k := Int.mul_nonneg hk hk
  have e : 80021 * k * k = 80021 * (k * k) := Int.mul_assoc _ _ _
  rw [e]
  omega
section
variable {P : Program} {w : World} {K : PySem.W.Frag} {mg : Str → Option Value} {base : Heap} {f g g2 : Addr} {fd gd gd2 : FuncData}
/-! ### _law_take -/
def spTake : Sp := fun vs H Q _ => ∃ (p : Addr) (u : Int) (c : Nat), vs = [.ref p, .int u] ∧ 1 ≤ u ∧ u ≤ 1000 ∧ PotAt H p c ∧ c ≤ 6000 ∧
  ∀ (n : Int) (H' : Hp), 0 ≤ n → n < u → Ch p H H' → PotAt H' p (c + 1) → Q (.int n) H'
theorem scTake : FnScope ["_law_pot", "_law_upto", "_law_digit", "_law_prime", "_law_stirred"] ["_law_pot", "_law_upto"] (defScope (top 17)) := ⟨rfl, rfl, rfl, by decide +kernel, rfl, by decide +kernel, by decide +kernel⟩
theorem ok_take (F : FnD K "_law_take" 17 f fd) (B : Bl mg) : FnOk P w K mg base CX0 1 f fd ["_law_pot", "_law_upto"] spTake := by
  refine F.ok scTake (fun vs H Q E h => ?_) (fun cdv A outer s H vs Q E hr h => ?_)
  · obtain ⟨p, u, c, rfl, _⟩ := h
    rfl
  obtain ⟨p, u, c, rfl, u1, u2, ⟨a, b, k, hp, b1, b2, k1, k2⟩, hc, q⟩ := h
  refine ⟨_, PSs.nox (pss_cons (ps_if (pt_cmpR op_gt (pe_ix ix_list (pv 0) pe_int (fun _ _ => rfl)) pe_int (nomark _))
      (pss_cons (ps_set (i := 2) scTake.nd rfl (Or.inl rfl) (pe_op op_mod (pe_callTy call_int1 (by rfl) B.int (by decide +kernel) (pa_cons (pe_ix ix_list (pv 0) pe_int (fun _ _ => rfl)) pa_nil)) (pv 1)))
      (pss_cons (ps_asg (pe_op op_fdiv (pe_ix ix_list (pv 0) pe_int (fun _ _ => rfl)) (pv 1)) (pg_sub (pv 0) pe_int set_list))
      (pss_one (ps_ret (pv 2))))) pss_nil)
    (pss_cons (ps_asg (pe_op op_add (pe_ix ix_list (pv 0) pe_int (fun _ _ => rfl)) pe_int) (pg_sub (pv 0) pe_int set_list))
    (pss_cons (ps_set (i := 3) scTake.nd rfl (Or.inl rfl) (pe_ix ix_list (pe_lst (pa_cons pe_int (pa_cons pe_int (pa_cons pe_int (pa_cons pe_int (pa_cons pe_int pa_nil))))))
        (pe_op op_mod (pe_callTy call_int1 (by rfl) B.int (by decide +kernel) (pa_cons (pe_ix ix_list (pv 0) pe_int (fun _ _ => rfl)) pa_nil)) pe_int) (fun _ _ => rfl)))
    (pss_cons (ps_set (i := 4) scTake.nd rfl (Or.inl rfl) (pe_op op_mod (pe_callTy call_int1 (by rfl) B.int (by decide +kernel) (pa_cons
        (pe_op op_pow (pe_op op_add (pe_op op_add (pe_ix ix_list (pv 0) pe_int (fun _ _ => rfl)) (pe_op op_mul (pe_op op_mul pe_int (pe_ix ix_list (pv 0) pe_int (fun _ _ => rfl))) (pe_ix ix_list (pv 0) pe_int (fun _ _ => rfl)))) pe_int) pe_int) pa_nil)) (pv 3)))
    (pss_one (ps_ret (pe_op op_mod (pe_callTy call_int1 (by rfl) B.int (by decide +kernel) (pa_cons
        (pe_op op_fdiv (pe_op op_mul (pv 4) (pe_op op_add (pe_op op_mod (pe_callTy call_int1 (by rfl) B.int (by decide +kernel) (pa_cons (pv 4) pa_nil)) pe_int)
          (pe_op op_mul pe_int (pe_ix ix_list (pv 0) pe_int (fun _ _ => rfl))))) pe_int) pa_nil)) (pv 1)))))))), ?_⟩
  refine ⟨_, rfl, p, _, 0, .int a, rfl, rfl, SqL.of hp, rfl, _, _, rfl, rfl, _, rfl, ?_⟩
  refine ite2 (fun _ => ?_) (fun _ => ?_)
  · refine ⟨_, rfl, p, _, 0, .int a, rfl, rfl, SqL.of hp, rfl, .inl ⟨_, rfl, _, rfl, _, _, rfl, rfl, (by omega), ?_⟩⟩
    refine ⟨_, rfl, p, _, 0, .int a, rfl, rfl, SqL.of hp, rfl, _, rfl, _, _, rfl, rfl, ⟨by omega, by omega⟩, ?_⟩
    refine ⟨_, rfl, p, _, _, 0, rfl, rfl, hp, rfl, ?_⟩
    refine ⟨_, rfl, ?_⟩
    exact q _ _ (Int.emod_nonneg _ (by omega)) (Int.emod_lt_of_pos _ (by omega)) ch_upd ⟨_, b, k, upd_same, b1, b2, k1, by omega⟩
  · refine ⟨_, rfl, p, _, 2, .int k, rfl, rfl, SqL.of hp, rfl, _, _, rfl, rfl, ?_⟩
    refine ⟨_, rfl, p, _, _, 2, rfl, rfl, hp, rfl, ?_⟩
    have e1 : upd H p (.lst [.int a, .int b, .int (k + 1)]) p = some (.lst [.int a, .int b, .int (k + 1)]) := upd_same
    obtain ⟨z, hz, z1, z2⟩ := prime_at (k + 1)
    refine ⟨(by show 5 ≤ sizeLine; decide), fun l hl => ?_⟩
    have e2 : upd (upd H p (.lst [.int a, .int b, .int (k + 1)])) l (.lst [.int 2147483647, .int 2147483629, .int 2147483587, .int 2147483579, .int 2147483563]) p = some (.lst [.int a, .int b, .int (k + 1)]) := by
      rw [upd_ne (ne_of_none e1 hl)]
      exact e1
    refine ⟨_, rfl, p, _, 2, .int (k + 1), rfl, rfl, SqL.of e2, rfl, .inl ⟨_, rfl, _, _, rfl, rfl, (by show (0 : Int) < 5; decide), l, _, _, .int z, rfl, rfl, SqL.of upd_same, hz, ?_⟩⟩
    refine ⟨_, rfl, p, _, 1, .int b, rfl, rfl, SqL.of e2, rfl, _, rfl, p, _, 2, .int (k + 1), rfl, rfl, SqL.of e2, rfl, _, _, rfl, rfl, .inl ⟨by decide, by decide⟩, ?_⟩
    refine ⟨_, rfl, p, _, 2, .int (k + 1), rfl, rfl, SqL.of e2, rfl, _, _, rfl, rfl, .inl ⟨by omega, by omega⟩, _, _, rfl, rfl, _, _, rfl, rfl, _, _, rfl, rfl, ⟨by decide, by decide, stir_ok b1 b2 (by omega) (by omega)⟩, ?_⟩
    refine .inl ⟨_, rfl, _, rfl, _, _, rfl, rfl, (by omega), ?_⟩
    have s1 := Int.emod_nonneg ((b + 80021 * (k + 1) * (k + 1) + 59) ^ (3 : Int).toNat) (b := z) (by omega)
    have s2 := Int.emod_lt_of_pos ((b + 80021 * (k + 1) * (k + 1) + 59) ^ (3 : Int).toNat) (b := z) (by omega)
    refine ⟨_, rfl, _, rfl, .inl ⟨_, rfl, _, _, rfl, rfl, (by show (0 : Int) < 10009; decide), ?_⟩⟩
    refine ⟨_, rfl, p, _, 2, .int (k + 1), rfl, rfl, SqL.of e2, rfl, _, _, rfl, rfl, .inl ⟨by decide, by decide⟩, _, _, rfl, rfl, _, _, rfl, rfl, .inl ⟨by omega, by omega⟩, ?_⟩
    refine ⟨_, _, rfl, rfl, ⟨by decide, by decide⟩, .inl ⟨_, rfl, _, rfl, _, _, rfl, rfl, (by omega), ?_⟩⟩
    refine q _ _ (Int.emod_nonneg _ (by omega)) (Int.emod_lt_of_pos _ (by omega)) (ch_upd.trans (Ch.same (same_new hl _))) ⟨a, b, k + 1, e2, b1, b2, by omega, by omega⟩
end
/-- a ** b of ints that stay below 2 ^ 27 bits -/
theorem op_powB {X : Cx} : OpR X (binaryOp .Pow) (rI (fun i j => 0 ≤ j ∧ (Builtin.Int.intBits i : Int) * j ≤ 2 ^ 27) fun i j => .int (i ^ j.toNat)) := opI fun _ _ _ _ _ _ _ hc q => PyProof.Rows.pow_int hc.1 hc.2 q
theorem b01 (b : Bool) : -(2 ^ 64) < (if b = true then (1 : Int) else 0) ∧ (if b = true then (1 : Int) else 0) < 2 ^ 64 := by cases b <;> decide
section
variable {P : Program} {w : World} {K : PySem.W.Frag} {mg : Str → Option Value} {base : Heap} {f g g2 : Addr} {fd gd gd2 : FuncData}
/-! ### _law_of -/
def spOf : Sp := fun vs H Q _ => ∃ (p a : Addr) (xs : List V) (c : Nat), vs = [.ref p, .ref a] ∧ H a = some (.lst xs) ∧ a ≠ p ∧ 1 ≤ xs.length ∧ xs.length ≤ 1000 ∧ PotAt H p c ∧ c ≤ 6000 ∧
  ∀ (x : V) (H' : Hp), x ∈ xs → Ch p H H' → PotAt H' p (c + 1) → Q x H'
theorem scOf : FnScope ["_law_pot", "_law_some"] ["_law_pot", "_law_some"] (defScope (top 18)) := ⟨rfl, rfl, rfl, by decide +kernel, rfl, by decide +kernel, by decide +kernel⟩
theorem ok_of (F : FnD K "_law_of" 18 f fd) (B : Bl mg) (G : FnOk P w K mg base CX0 1 g gd ["_law_pot", "_law_upto"] spTake) (bG : Binds K gd ["_law_pot", "_law_upto"] []) (kG : PySem.W.keepIn K (.ref g) = true) (gG : mg "_law_take" = some (.ref g)) :
    FnOk P w K mg base CX0 2 f fd ["_law_pot", "_law_some"] spOf := by
  refine F.ok scOf (fun vs H Q E h => ?_) (fun cdv A outer s H vs Q E hr h => ?_)
  · obtain ⟨p, a, xs, c, rfl, _⟩ := h
    rfl
  obtain ⟨p, a, xs, c, rfl, ha, nap, l1, l2, hp, hc, q⟩ := h
  refine ⟨_, PSs.nox (pss_one (ps_ret (pe_ix ix_list (pv 1) (pe_call G hr rfl gG kG bG .nil pass0 (pa_cons (pv 0) (pa_cons (pe_callB call_len_seq (by rfl) B.len PySem.boot_len (pa_cons (pv 1) pa_nil)) pa_nil))) (fun _ _ => rfl)))), ?_⟩
  refine ⟨_, rfl, _, rfl, _, rfl, a, xs, rfl, .inl (SqL.of ha), p, _, c, rfl, by omega, by omega, hp, hc, fun n H' n0 n1 k hp' => ?_⟩
  have hn : n.toNat < xs.length := by omega
  have en : n = ((n.toNat : Nat) : Int) := by omega
  have at_ : atI xs ((n.toNat : Nat) : Int) = some xs[n.toNat] := atI_nat (List.getElem?_eq_getElem hn)
  rw [← en] at at_
  exact ⟨a, xs, n, xs[n.toNat], rfl, rfl, SqL.of (k _ _ nap ha), at_, q _ _ (List.getElem_mem hn) k hp'⟩
/-! ### _law_pot_of -/
def spPot (K : PySem.W.Frag) : Sp := fun vs H Q _ => ∃ (a : Addr) (ns : List Int) (k : Int), vs = [.ref a, .int k] ∧ SqL K H a (ns.map V.int) ∧ 0 ≤ k ∧ k ≤ 2 ∧
  ∀ (p : Addr) (H' : Hp), Same H H' → H p = none → PotAt H' p 0 → Q (.ref p) H'
theorem scPot : FnScope ["_law_script", "_law_k", "_law_cell", "_law_own"] ["_law_script", "_law_k"] (defScope (top 16)) := ⟨rfl, rfl, rfl, by decide +kernel, rfl, by decide +kernel, by decide +kernel⟩
theorem ok_pot (F : FnD K "_law_pot_of" 16 f fd) (B : Bl mg) : FnOk P w K mg base CX0 1 f fd ["_law_script", "_law_k"] (spPot K) := by
  refine F.ok scPot (fun vs H Q E h => ?_) (fun cdv A outer s H vs Q E hr h => ?_)
  · obtain ⟨a, ns, k, rfl, _⟩ := h
    rfl
  obtain ⟨a, ns, k, rfl, hS, k1, k2, q⟩ := h
  refine ⟨_, PSs.nox (pss_cons (ps_set (i := 2) scPot.nd rfl (Or.inl rfl) (pe_ifExp (pt_cmpR op_lt (pv 1) (pe_callB call_len_seq (by rfl) B.len PySem.boot_len (pa_cons (pv 0) pa_nil)) (nomark _))
        (pe_ix ix_list (pv 0) (pv 1) (fun _ _ => rfl)) (pe_op op_add (pe_op op_mul pe_int (pv 1)) pe_int)))
    (pss_cons (ps_set (i := 3) scPot.nd rfl (Or.inl rfl) (pe_op op_mul
        (pe_op op_mod (pe_callTy call_int1 (by rfl) B.int (by decide +kernel) (pa_cons (pe_callB call_abs (by rfl) B.abs (by decide +kernel) (pa_cons (pv 2) pa_nil)) pa_nil)) (pe_op op_powB (pe_op op_pow pe_int pe_int) pe_int))
        (pe_callTy call_int1 (by rfl) B.int (by decide +kernel) (pa_cons (pe_cmpR op_ge (pe_callB call_abs (by rfl) B.abs (by decide +kernel) (pa_cons (pv 2) pa_nil)) (pe_op op_pow pe_int pe_int) (nomark _)) pa_nil))))
    (pss_one (ps_ret (pe_lst (pa_cons (pv 3) (pa_cons (pe_op op_mod (pe_callTy call_int1 (by rfl) B.int (by decide +kernel) (pa_cons
        (pe_op op_add (pe_op op_add (pe_op op_mul (pe_op op_mod (pe_callTy call_int1 (by rfl) B.int (by decide +kernel) (pa_cons (pv 2) pa_nil)) pe_int) pe_int)
          (pe_op op_mul (pe_op op_mul pe_int (pv 1)) (pv 1))) pe_int) pa_nil)) pe_int) (pa_cons pe_int pa_nil)))))))), ?_⟩
  refine ⟨_, rfl, _, rfl, a, _, rfl, .inl hS, _, _, rfl, rfl, _, rfl, ?_⟩
  refine ite2 (fun c => ?b1) (fun c => ?b2)
  case b1 =>
    have c' : k < (((ns.map V.int).length : Nat) : Int) := of_decide_eq_true c
    rw [List.length_map] at c'
    have hk : k.toNat < ns.length := by omega
    have ek : k = ((k.toNat : Nat) : Int) := by omega
    have at_ : atI (ns.map V.int) ((k.toNat : Nat) : Int) = some (.int ns[k.toNat]) := atI_nat (by rw [List.getElem?_map, List.getElem?_eq_getElem hk] <;> rfl)
    rw [← ek] at at_
    refine ⟨_, rfl, _, rfl, a, _, _, _, rfl, rfl, hS, at_, ?_⟩
    generalize ns[k.toNat] = cell
    refine ⟨_, rfl, _, rfl, .inl ⟨_, rfl, _, _, rfl, rfl, ⟨by decide, by decide, by decide⟩, _, _, rfl, rfl, ⟨by decide, by decide +kernel⟩, _, _, rfl, rfl, (by show (0 : Int) < _; decide +kernel), ?_⟩⟩
    refine ⟨_, rfl, _, rfl, _, _, rfl, rfl, ⟨by decide, by decide, by decide⟩, _, _, rfl, rfl, .inr ⟨_, rfl, _, _, rfl, rfl, .inr (b01 _), ?_⟩⟩
    refine ⟨_, rfl, _, rfl, .inl ⟨_, rfl, _, _, rfl, rfl, (by show (0 : Int) < 2305843009213693951; decide), _, _, rfl, rfl, .inr ⟨by decide, by decide⟩, ?_⟩⟩
    refine ⟨_, rfl, _, _, rfl, rfl, .inl ⟨by decide, by decide⟩, _, rfl, _, _, rfl, rfl, .inl ⟨by omega, by omega⟩, _, _, rfl, rfl, _, _, rfl, rfl, .inl ⟨_, rfl, _, _, rfl, rfl, (by show (0 : Int) < 2305843009213693921; decide), ?_⟩⟩
    refine ⟨(by show 3 ≤ sizeLine; decide), fun p hp => q p _ (same_new hp _) hp ⟨_, _, 0, upd_same, Int.emod_nonneg _ (by decide), Int.emod_lt_of_pos _ (by decide), by decide, by decide⟩⟩
  case b2 =>
    refine ⟨_, rfl, _, _, rfl, rfl, .inl ⟨by decide, by decide⟩, _, _, rfl, rfl, ?_⟩
    generalize (41 * k + 23) = cell
    refine ⟨_, rfl, _, rfl, .inl ⟨_, rfl, _, _, rfl, rfl, ⟨by decide, by decide, by decide⟩, _, _, rfl, rfl, ⟨by decide, by decide +kernel⟩, _, _, rfl, rfl, (by show (0 : Int) < _; decide +kernel), ?_⟩⟩
    refine ⟨_, rfl, _, rfl, _, _, rfl, rfl, ⟨by decide, by decide, by decide⟩, _, _, rfl, rfl, .inr ⟨_, rfl, _, _, rfl, rfl, .inr (b01 _), ?_⟩⟩
    refine ⟨_, rfl, _, rfl, .inl ⟨_, rfl, _, _, rfl, rfl, (by show (0 : Int) < 2305843009213693951; decide), _, _, rfl, rfl, .inr ⟨by decide, by decide⟩, ?_⟩⟩
    refine ⟨_, rfl, _, _, rfl, rfl, .inl ⟨by decide, by decide⟩, _, rfl, _, _, rfl, rfl, .inl ⟨by omega, by omega⟩, _, _, rfl, rfl, _, _, rfl, rfl, .inl ⟨_, rfl, _, _, rfl, rfl, (by show (0 : Int) < 2305843009213693921; decide), ?_⟩⟩
    refine ⟨(by show 3 ≤ sizeLine; decide), fun p hp => q p _ (same_new hp _) hp ⟨_, _, 0, upd_same, Int.emod_nonneg _ (by decide), Int.emod_lt_of_pos _ (by decide), by decide, by decide⟩⟩
end
end K00
set_option Elab.async false
set_option linter.all false
set_option maxRecDepth 100000
set_option maxHeartbeats 4000000
/-! K00X: bounds of what is drawn. -/
namespace K00
open PySem PySem.Spec L2
open PyProof.Rows (envOfC sortedS)
mutual
def SmN (k : Nat) : PyData → Prop
  | .none => True
  | .bool _ => True
  | .int _ => True
  | .str s => s.length ≤ 1000 ∧ PyData.strOk s = true
  | .tuple xs => xs.length ≤ k ∧ SmNL k xs
  | .list xs => xs.length ≤ k ∧ SmNL k xs
  | .dict ds => ds.length ≤ k ∧ (ds.map fun p => kS p.1).Nodup ∧ SmNK k ds
def SmNL (k : Nat) : List PyData → Prop
  | [] => True
  | x :: r => SmN k x ∧ SmNL k r
def SmNK (k : Nat) : List (PyData × PyData) → Prop
  | [] => True
  | (a, v) :: r => SmN k a ∧ SmN k v ∧ SmNK k r
end
theorem smNL_iff {k : Nat} : ∀ {xs : List PyData}, SmNL k xs ↔ ∀ x ∈ xs, SmN k x
  | [] => by simp [SmNL]
  | x :: r => by simp [SmNL, smNL_iff (xs := r)]
theorem smNK_iff {k : Nat} : ∀ {xs : List (PyData × PyData)}, SmNK k xs ↔ ∀ p ∈ xs, SmN k p.1 ∧ SmN k p.2
  | [] => by simp [SmNK]
  | (a, v) :: r => by
    simp only [SmNK, smNK_iff (xs := r), List.mem_cons]
    constructor
    · rintro ⟨h1, h2, h3⟩ p (rfl | hp)
      · exact ⟨h1, h2⟩
      · exact h3 p hp
    · intro h
      exact ⟨(h _ (.inl rfl)).1, (h _ (.inl rfl)).2, fun p hp => h p (.inr hp)⟩
mutual
theorem SmN.mono {k m : Nat} (h : k ≤ m) : ∀ {d : PyData}, SmN k d → SmN m d
  | .none, _ => trivial
  | .bool _, _ => trivial
  | .int _, _ => trivial
  | .str _, z => z
  | .tuple xs, z => ⟨Nat.le_trans z.1 h, SmNL.mono h z.2⟩
  | .list xs, z => ⟨Nat.le_trans z.1 h, SmNL.mono h z.2⟩
  | .dict ds, z => ⟨Nat.le_trans z.1 h, z.2.1, SmNK.mono h z.2.2⟩
theorem SmNL.mono {k m : Nat} (h : k ≤ m) : ∀ {xs : List PyData}, SmNL k xs → SmNL m xs
  | [], _ => trivial
  | _ :: _, z => ⟨SmN.mono h z.1, SmNL.mono h z.2⟩
theorem SmNK.mono {k m : Nat} (h : k ≤ m) : ∀ {xs : List (PyData × PyData)}, SmNK k xs → SmNK m xs
  | [], _ => trivial
  | (_, _) :: _, z => ⟨SmN.mono h z.1, SmN.mono h z.2.1, SmNK.mono h z.2.2⟩
end
mutual
theorem SmN.sm {k : Nat} (h : k ≤ 60) : ∀ {d : PyData}, SmN k d → Sm d
  | .none, _ => trivial
  | .bool _, _ => trivial
  | .int _, _ => trivial
  | .str _, z => z
  | .tuple xs, z => ⟨by have := z.1; omega, SmNL.sm h z.2⟩
  | .list xs, z => ⟨by have := z.1; omega, SmNL.sm h z.2⟩
  | .dict ds, z => ⟨Nat.le_trans z.1 h, z.2.1, SmNK.sm h z.2.2⟩
theorem SmNL.sm {k : Nat} (h : k ≤ 60) : ∀ {xs : List PyData}, SmNL k xs → SmL xs
  | [], _ => trivial
  | _ :: _, z => ⟨SmN.sm h z.1, SmNL.sm h z.2⟩
theorem SmNK.sm {k : Nat} (h : k ≤ 60) : ∀ {xs : List (PyData × PyData)}, SmNK k xs → SmK xs
  | [], _ => trivial
  | (_, _) :: _, z => ⟨SmN.sm h z.1, SmN.sm h z.2.1, SmNK.sm h z.2.2⟩
end
/-- drawn: small, so deep, so many parts, shown by so many signs -/
structure Dr (n c L : Nat) (d : PyData) : Prop where
  sm : SmN 4 d
  dep : d.depth ≤ n
  cn : cnt d ≤ c
  sh : d.showable = true
  len : d.shown.length ≤ L
theorem Dr.mono {n c L n' c' L' : Nat} {d : PyData} (h : Dr n c L d) (a : n ≤ n') (b : c ≤ c') (e : L ≤ L') : Dr n' c' L' d := ⟨h.sm, Nat.le_trans h.dep a, Nat.le_trans h.cn b, h.sh, Nat.le_trans h.len e⟩
theorem depthAll_le {n : Nat} : ∀ {xs : List PyData}, (∀ x ∈ xs, x.depth ≤ n) → PyData.depthAll xs ≤ n
  | [], _ => by simp [PyData.depthAll]
  | x :: r, h => by
    have h1 := h x (by simp)
    have h2 := depthAll_le (n := n) (xs := r) fun y hy => h y (by simp [hy])
    simp only [PyData.depthAll]
    omega
theorem depthKv_le {n : Nat} : ∀ {ds : List (PyData × PyData)}, (∀ p ∈ ds, p.1.depth ≤ n ∧ p.2.depth ≤ n) → PyData.depthKv ds ≤ n
  | [], _ => by simp [PyData.depthKv]
  | (a, b) :: r, h => by
    have h1 := h (a, b) (by simp)
    have h2 := depthKv_le (n := n) (ds := r) fun y hy => h y (by simp [hy])
    simp only [PyData.depthKv]
    simp only at h1
    omega
theorem sum_le {c : Nat} : ∀ {xs : List Nat}, (∀ x ∈ xs, x ≤ c) → xs.sum ≤ xs.length * c
  | [], _ => by simp
  | x :: r, h => by
    have h1 := h x (by simp)
    have h2 := sum_le (c := c) (xs := r) fun y hy => h y (by simp [hy])
    rw [List.sum_cons, List.length_cons, Nat.add_mul]
    omega
theorem textFrom_le {L : Nat} : ∀ (ts : List Str) (k : Nat) (acc : Str), (∀ t ∈ ts, t.length ≤ L) → (textFrom k acc ts).length ≤ acc.length + ts.length * (L + 2)
  | [], _, acc, _ => by simp [textFrom]
  | t :: r, k, acc, h => by
    have h1 := h t (by simp)
    have h2 := textFrom_le (L := L) r (k + 1) (acc ++ (if k > 0 then ", " else "" : String) ++ t) fun y hy => h y (by simp [hy])
    have e : (acc ++ (if k > 0 then ", " else "" : String) ++ t).length = acc.length + (if k > 0 then 2 else 0) + t.length := by
      rw [strLen_append, strLen_append]
      split <;> rfl
    rw [textFrom, List.length_cons, Nat.add_mul]
    rw [e] at h2
    have : (if k > 0 then 2 else 0) ≤ 2 := by split <;> omega
    omega
theorem join_le {L : Nat} : ∀ (ts : List Str), (∀ t ∈ ts, t.length ≤ L) → (Str.join ", " ts).length ≤ ts.length * (L + 2)
  | [], _ => by show 0 ≤ _; omega
  | [x], h => by
    have h1 := h x (by simp)
    show x.length ≤ _
    simp
    omega
  | x :: y :: r, h => by
    have h1 := h x (by simp)
    have h2 := join_le (L := L) (y :: r) fun z hz => h z (by simp [hz])
    have e : (Str.join ", " (x :: y :: r)).length = x.length + 2 + (Str.join ", " (y :: r)).length := by
      show (x ++ ", " ++ Str.join ", " (y :: r)).length = _
      rw [strLen_append, strLen_append] <;> rfl
    rw [e, List.length_cons, Nat.add_mul]
    omega
theorem shownAll_eq : ∀ xs, PyData.shownAll xs = xs.map PyData.shown
  | [] => rfl
  | x :: r => by rw [PyData.shownAll, shownAll_eq r, List.map_cons]
theorem shownKv_eq : ∀ ds, PyData.shownKv ds = ds.map fun p => p.1.shown ++ ((": " : String) : Str) ++ p.2.shown
  | [] => rfl
  | (a, b) :: r => by rw [PyData.shownKv, shownKv_eq r, List.map_cons]
theorem showableAll_of : ∀ {xs : List PyData}, (∀ x ∈ xs, x.showable = true) → PyData.showableAll xs = true
  | [], _ => rfl
  | x :: r, h => by
    rw [PyData.showableAll, h x (by simp), showableAll_of fun y hy => h y (by simp [hy])]
    rfl
theorem showableKv_of : ∀ {ds : List (PyData × PyData)}, (∀ p ∈ ds, p.1.showable = true ∧ p.2.showable = true) → PyData.showableKv ds = true
  | [], _ => rfl
  | (a, b) :: r, h => by
    have h1 := h (a, b) (by simp)
    rw [PyData.showableKv, h1.1, h1.2, showableKv_of fun y hy => h y (by simp [hy])]
    rfl
theorem dr_list {n c L m : Nat} {xs : List PyData} (hm : xs.length ≤ m) (h4 : m ≤ 4) (h : ∀ x ∈ xs, Dr n c L x) : Dr (n + 1) (1 + m * c) (2 + m * (L + 2)) (.list xs) := by
  refine ⟨⟨by omega, smNL_iff.mpr fun x hx => (h x hx).sm⟩, ?_, ?_, ?_, ?_⟩
  · have := depthAll_le fun x hx => (h x hx).dep
    simp only [PyData.depth]
    omega
  · rw [cnt_kids]
    have h1 : ((kids (.list xs)).map cnt).sum ≤ ((kids (.list xs)).map cnt).length * c := sum_le fun y hy => by
      obtain ⟨x, hx, rfl⟩ := List.mem_map.mp hy
      exact (h x hx).cn
    rw [List.length_map] at h1
    have h2 : xs.length * c ≤ m * c := Nat.mul_le_mul_right _ hm
    have h3 : (kids (.list xs)).length = xs.length := rfl
    rw [h3] at h1
    omega
  · show PyData.showableAll xs = true
    exact showableAll_of fun x hx => (h x hx).sh
  · show (listText (PyData.shownAll xs)).length ≤ _
    unfold listText
    rw [strLen_append, shownAll_eq]
    have h1 := textFrom_le (L := L) (xs.map PyData.shown) 0 "[" fun t ht => by
      obtain ⟨x, hx, rfl⟩ := List.mem_map.mp ht
      exact (h x hx).len
    rw [List.length_map] at h1
    have e1 : (("[" : String) : Str).length = 1 := rfl
    have e2 : (("]" : String) : Str).length = 1 := rfl
    have h2 : xs.length * (L + 2) ≤ m * (L + 2) := Nat.mul_le_mul_right _ hm
    rw [e1] at h1
    rw [e2]
    omega
/-- a key of a drawn record -/
def KeyN (k : PyData) : Prop := ∃ s, k = .str s ∧ s.length ≤ 1000 ∧ PyData.strOk s = true ∧ (reprText s).length ≤ 10
theorem dr_dict {n c L m : Nat} {ds : List (PyData × PyData)} (hm : ds.length ≤ m) (h4 : m ≤ 4) (nd : (ds.map fun p => kS p.1).Nodup) (h : ∀ p ∈ ds, KeyN p.1 ∧ Dr n c L p.2) : Dr (n + 1) (1 + m * c) (2 + m * (L + 14)) (.dict ds) := by
  refine ⟨⟨by omega, nd, smNK_iff.mpr fun p hp => ?_⟩, ?_, ?_, ?_, ?_⟩
  · obtain ⟨⟨s, e, h1, h2, _⟩, hd⟩ := h p hp
    rw [e]
    exact ⟨⟨h1, h2⟩, hd.sm⟩
  · have := depthKv_le (n := n) fun p hp => (by
      obtain ⟨⟨s, e, _⟩, hd⟩ := h p hp
      rw [e]
      exact ⟨Nat.zero_le _, hd.dep⟩ : p.1.depth ≤ n ∧ p.2.depth ≤ n)
    simp only [PyData.depth]
    omega
  · rw [cnt_kids]
    have h1 : ((kids (.dict ds)).map cnt).sum ≤ ((kids (.dict ds)).map cnt).length * c := sum_le fun y hy => by
      obtain ⟨x, hx, rfl⟩ := List.mem_map.mp hy
      obtain ⟨p, hp, rfl⟩ := List.mem_map.mp hx
      exact (h p hp).2.cn
    rw [List.length_map] at h1
    have h2 : ds.length * c ≤ m * c := Nat.mul_le_mul_right _ hm
    have h3 : (kids (.dict ds)).length = ds.length := List.length_map ..
    rw [h3] at h1
    omega
  · show PyData.showableKv ds = true
    exact showableKv_of fun p hp => by
      obtain ⟨⟨s, e, _⟩, hd⟩ := h p hp
      rw [e]
      exact ⟨rfl, hd.sh⟩
  · show (dictText (PyData.shownKv ds)).length ≤ _
    unfold dictText
    rw [strLen_append, strLen_append, shownKv_eq]
    have h1 := join_le (L := L + 12) (ds.map fun p => p.1.shown ++ ((": " : String) : Str) ++ p.2.shown) fun t ht => by
      obtain ⟨p, hp, rfl⟩ := List.mem_map.mp ht
      obtain ⟨⟨s, e, _, _, h3⟩, hd⟩ := h p hp
      rw [strLen_append, strLen_append, e]
      have e2 : ((": " : String) : Str).length = 2 := rfl
      have e3 : (PyData.shown (.str s)).length ≤ 10 := h3
      have := hd.len
      rw [e2]
      omega
    rw [List.length_map] at h1
    have e1 : (("{" : String) : Str).length = 1 := rfl
    have e2 : (("}" : String) : Str).length = 1 := rfl
    have h2 : ds.length * (L + 12 + 2) ≤ m * (L + 14) := Nat.mul_le_mul_right _ hm
    rw [e1, e2]
    omega
end K00
set_option Elab.async false
set_option linter.all false
set_option maxRecDepth 100000
set_option maxHeartbeats 8000000
namespace K00
open PySem PySem.Spec L2
open PyProof.Rows (envOfC sortedS)
section
variable {X : Cx} {e : Expr} {t : TE}
def tFzK (t : TE) : TE := fun σ H Q => t σ H fun v H' => ∃ d kvs, v = .ref d ∧ H' d = some (.dK kvs) ∧ ((kvs.map (·.1)).Nodup → ∀ o, Q v (upd H' d (.frz o (.dK kvs))))
theorem pe_fzK (h : PE X e t) : PE X e (tFzK t) := by
  refine ⟨fun pins s σ H Q I hq => ?_⟩
  refine thn (h.run pins s σ H _ I hq) fun v s1 ⟨x, H1, I1, rx, d, kvs, ex, hd, q⟩ => ?_
  obtain ⟨od, J⟩ := I1.lock hd trivial
  have hx : ObjOk X.prog X.w H1 s1.heap d (.dK kvs) := I1.hok d _ hd
  obtain ⟨_, _, vs, kv, o, es, ep, h1, h2, h3, h4, h5, h6⟩ := hx
  have e : kvs.map (·.1) = vs.map (·.1) := kv.keys
  exact ⟨x, _, J, rx, q (by rw [e]; exact h6) od⟩
end
section
variable {P : Program} {w : World} {H H' : Hp}
/-- an entry of a record that is made -/
def RE (P : Program) (w : World) (KP : Str → Prop) (Pd : PyData → Prop) (H : Hp) (kv : Key × V) : Prop := ∃ s d, kv.1 = Sum.inr s ∧ KP s ∧ Da P w H kv.2 d ∧ Pd d
theorem RE.kp {KP : Str → Prop} {Pd : PyData → Prop} {kv : Key × V} (h : RE P w KP Pd H kv) (k : Kp H H') : RE P w KP Pd H' kv := by
  obtain ⟨s, d, h1, h2, h3, h4⟩ := h
  exact ⟨s, d, h1, h2, h3.kp k, h4⟩
theorem put_all {R : Key × V → Prop} {kvs : List (Key × V)} {k : Key} {v : V} (h : ∀ kv ∈ kvs, R kv) (hk : R (k, v)) : ∀ kv ∈ putK kvs k v, R kv := by
  intro kv hkv
  unfold putK at hkv
  split at hkv
  · obtain ⟨a, ha, e⟩ := List.mem_map.mp hkv
    split at e
    · rename_i c
      rw [← e, c]
      exact hk
    · rw [← e]
      exact h a ha
  · rcases List.mem_append.mp hkv with z | z
    · exact h kv z
    · rw [List.mem_singleton.mp z]
      exact hk
theorem merge_all {R : Key × V → Prop} : ∀ {more kvs : List (Key × V)}, (∀ kv ∈ kvs, R kv) → (∀ kv ∈ more, R kv) → ∀ kv ∈ mergeK kvs more, R kv
  | [], _, h, _ => h
  | (k, v) :: r, kvs, h, hm => merge_all (more := r) (put_all h (hm _ List.mem_cons_self)) fun kv hkv => hm kv (List.mem_cons_of_mem _ hkv)
theorem build {KP : Str → Prop} {Pd : PyData → Prop} : ∀ {kvs : List (Key × V)}, (∀ kv ∈ kvs, RE P w KP Pd H kv) →
    ∃ ds, DaE P w H (kvs.map fun p => (kV p.1, p.2)) ds ∧ (∀ p ∈ ds, ∃ s, p.1 = .str s ∧ KP s ∧ Pd p.2) ∧ kvs.map (·.1) = (ds.map fun p => kS p.1).map Sum.inr
  | [], _ => ⟨[], .nil, (fun _ h => nomatch h), rfl⟩
  | (k, v) :: r, h => by
    obtain ⟨ds, h1, h2, h3⟩ := build (kvs := r) fun kv hkv => h kv (List.mem_cons_of_mem _ hkv)
    obtain ⟨s, d, e1, e2, e3, e4⟩ := h (k, v) List.mem_cons_self
    have e1' : k = Sum.inr s := e1
    subst e1'
    refine ⟨(.str s, d) :: ds, .cons (.str s) e3 h1, fun p hp => ?_, ?_⟩
    · rcases List.mem_cons.mp hp with z | z
      · rw [z]
        exact ⟨s, rfl, e2, e4⟩
      · exact h2 p z
    · rw [List.map_cons, List.map_cons, List.map_cons, h3]
      rfl
theorem nodup_keys {kvs : List (Key × V)} {ds : List (PyData × PyData)} (e : kvs.map (·.1) = (ds.map fun p => kS p.1).map Sum.inr) (n : (kvs.map (·.1)).Nodup) : (ds.map fun p => kS p.1).Nodup := by
  rw [e] at n
  exact (List.pairwise_map.mp n).imp fun h z => h (congrArg Sum.inr z)
/-- a dict that was just made and locked, of such entries -/
theorem made_dict {KP : Str → Prop} {Pd : PyData → Prop} {p : Addr} {o : Obj} {kvs more : List (Key × V)} (hn : H p = none) (h : ∀ kv ∈ more, RE P w KP Pd H kv) (ek : kvs = mergeK [] more) (n : (kvs.map (·.1)).Nodup) :
    ∃ ds, Da P w (upd (upd H p (.dK kvs)) p (.frz o (.dK kvs))) (.ref p) (.dict ds) ∧ ds.length ≤ more.length ∧ (ds.map fun q => kS q.1).Nodup ∧ ∀ q ∈ ds, ∃ s, q.1 = .str s ∧ KP s ∧ Pd q.2 := by
  have hall : ∀ kv ∈ kvs, RE P w KP Pd H kv := by
    rw [ek]
    exact merge_all (fun _ h => nomatch h) h
  obtain ⟨ds, h1, h2, h3⟩ := build hall
  have k : Kp H (upd (upd H p (.dK kvs)) p (.frz o (.dK kvs))) := by
    rw [upd_upd]
    exact .new hn _
  refine ⟨ds, .dic (.inl ⟨kvs, upd_same, rfl⟩) (h1.kp k), ?_, nodup_keys h3 n, h2⟩
  have l1 := h1.length
  rw [List.length_map] at l1
  have l2 := length_mergeK more []
  rw [← ek] at l2
  simp only [List.length_nil] at l2
  omega
end
theorem cut_to (xs : List V) {n : Int} (h : 0 ≤ n) : cutV xs none (some n) = xs.take n.toNat := by
  have en : n = ((n.toNat : Nat) : Int) := by omega
  rw [en]
  unfold cutV
  rw [HT.sIx_nat, HT.sIx_none, List.drop_zero, Int.toNat_natCast, Nat.sub_zero]
  rcases Nat.le_total n.toNat xs.length with z | z
  · rw [Nat.min_eq_left z]
  · rw [Nat.min_eq_right z, List.take_length, List.take_of_length_le z]
theorem cut_from (xs : List V) {n : Int} (h : 0 ≤ n) : cutV xs (some n) none = xs.drop n.toNat := by
  have en : n = ((n.toNat : Nat) : Int) := by omega
  rw [en]
  unfold cutV
  rw [HT.sIx_nat, HT.sIx_none, Int.toNat_natCast]
  rcases Nat.le_total n.toNat xs.length with z | z
  · rw [Nat.min_eq_left z, List.take_of_length_le]
    rw [List.length_drop]
    omega
  · rw [Nat.min_eq_right z, List.drop_eq_nil_of_le z, List.drop_length]
    simp
theorem new_ne {H H' : Hp} {p a : Addr} {o : HO} (k : Same H H') (hp : H p = some o) (ha : H' a = none) : a ≠ p := fun e => by
  have := k _ _ hp
  rw [← e, ha] at this
  cases this
/-! ### flats -/
def vD : V → PyData
  | .bl b => .bool b
  | .int i => .int i
  | .str s => .str s
  | _ => .none
def flatV' : V → Bool
  | .non => true
  | .bl _ => true
  | .int _ => true
  | .str _ => true
  | _ => false
theorem da_flat {P : Program} {w : World} {H : Hp} {x : V} (h : flatV' x = true) : Da P w H x (vD x) := by
  cases x with
  | non => exact .non
  | bl b => exact .bl b
  | int i => exact .int i
  | str s => exact .str s
  | _ => exact (Bool.false_ne_true (show false = true from h)).elim
def flats0 : List V := [.non, .bl true, .bl false, .int 0, .int 1, .int (-1), .int 2, .int 3, .str "a", .str "b", .str "one", .str "two", .str "none", .str "x", .str "zz", .str "", .str "Q 1"]
def flats : List V := flats0 ++ [.str "q\"\\"]
def flatB (L : Nat) (d : PyData) : Bool := (match d with
  | .str s => Nat.ble s.length 1000 && PyData.strOk s
  | .none => true
  | .bool _ => true
  | .int _ => true
  | _ => false) && (d.showable && Nat.ble d.shown.length L)
theorem flat_dr {L : Nat} {d : PyData} (h : flatB L d = true) : isOne d = true ∧ Dr 0 1 L d := by
  unfold flatB at h
  obtain ⟨h1, h2⟩ := He.ba h
  obtain ⟨h2, h3⟩ := He.ba h2
  have h3' := Nat.le_of_ble_eq_true h3
  cases d with
  | none => exact ⟨rfl, trivial, Nat.le_refl _, Nat.le_refl _, h2, h3'⟩
  | bool b => exact ⟨rfl, trivial, Nat.le_refl _, Nat.le_refl _, h2, h3'⟩
  | int i => exact ⟨rfl, trivial, Nat.le_refl _, Nat.le_refl _, h2, h3'⟩
  | str s =>
    obtain ⟨a1, a2⟩ := He.ba h1
    exact ⟨rfl, ⟨Nat.le_of_ble_eq_true a1, a2⟩, Nat.le_refl _, Nat.le_refl _, h2, h3'⟩
  | list xs => exact (Bool.false_ne_true (show false = true from h1)).elim
  | tuple xs => exact (Bool.false_ne_true (show false = true from h1)).elim
  | dict xs => exact (Bool.false_ne_true (show false = true from h1)).elim
theorem flats_ok : flats.all (fun x => flatV' x && flatB 10 (vD x)) = true := by decide +kernel
section
variable {P : Program} {w : World} {K : PySem.W.Frag} {mg : Str → Option Value} {base : Heap} {f g g2 g3 : Addr} {fd gd gd2 gd3 : FuncData}
def spFlat (P : Program) (w : World) : Sp := fun vs H Q _ => ∃ (p : Addr) (c : Nat), vs = [.ref p] ∧ PotAt H p c ∧ c + 1 ≤ 6000 ∧ ∀ x d H', isOne d = true → Dr 0 1 10 d → Da P w H' x d → Ch p H H' → PotAt H' p (c + 1) → Q x H'
theorem scFlat : FnScope ["_law_pot", "_law_some"] ["_law_pot"] (defScope (top 20)) := ⟨rfl, rfl, rfl, by decide +kernel, rfl, by decide +kernel, by decide +kernel⟩
theorem ok_flat (F : FnD K "_law_flat" 20 f fd) (GO : FnOk P w K mg base CX0 2 g gd ["_law_pot", "_law_some"] spOf) (bO : Binds K gd ["_law_pot", "_law_some"] []) (kO : PySem.W.keepIn K (.ref g) = true) (gO : mg "_law_of" = some (.ref g)) :
    FnOk P w K mg base CX0 3 f fd ["_law_pot"] (spFlat P w) := by
  refine F.ok scFlat (fun vs H Q E h => ?_) (fun cdv A outer s H vs Q E hr h => ?_)
  · obtain ⟨p, c, rfl, _⟩ := h
    rfl
  obtain ⟨p, c, rfl, hp, hc, q⟩ := h
  refine ⟨_, PSs.nox (pss_cons (ps_set (i := 1) scFlat.nd rfl (Or.inl rfl) (pe_lst (pa_cons pe_non (pa_cons pe_bl (pa_cons pe_bl (pa_cons pe_int (pa_cons pe_int (pa_cons (pe_un un_neg pe_int) (pa_cons pe_int (pa_cons pe_int
        (pa_cons pe_str (pa_cons pe_str (pa_cons pe_str (pa_cons pe_str (pa_cons pe_str (pa_cons pe_str (pa_cons pe_str (pa_cons pe_str (pa_cons pe_str pa_nil)))))))))))))))))))
    (pss_one (ps_ret (pe_call GO hr rfl gO kO bO .nil pass0 (pa_cons (pv 0) (pa_cons (pe_op op_cat (pv 1) (pe_lst (pa_cons pe_str pa_nil))) pa_nil)))))), ?_⟩
  obtain ⟨ys0, hp0⟩ := hp.lst
  refine ⟨_, rfl, (by show 17 ≤ sizeLine; decide), fun l hl => ?_⟩
  refine ⟨_, rfl, _, rfl, (by show 1 ≤ sizeLine; decide), fun l2 hl2 => ⟨l, l2, flats0, [.str "q\"\\"], rfl, rfl, ?_, upd_same, (by show 18 ≤ sizeLine; decide), fun l3 hl3 => ?_⟩⟩
  · rw [upd_ne (ne_of_none upd_same hl2)]
    exact upd_same
  have k := (same_new hl _).trans ((same_new hl2 _).trans (same_new hl3 (.lst flats)))
  have n3 : l3 ≠ p := new_ne ((same_new hl _).trans (same_new hl2 _)) hp0 hl3
  refine ⟨p, l3, flats, c, rfl, upd_same, n3, by decide, by decide, hp.same k, by omega, fun x H' hx k' hp' => ?_⟩
  obtain ⟨h1, h2⟩ := He.ba (List.all_eq_true.mp flats_ok x hx)
  obtain ⟨h3, h4⟩ := flat_dr h2
  exact q x (vD x) H' h3 h4 (da_flat h1) ((Ch.same k).trans k') hp'
/-! ### _law_unlike, of texts -/
def spUnlike : Sp := fun vs H Q _ => ∃ (p a : Addr) (ss : List Str) (m : Int) (c : Nat), vs = [.ref p, .ref a, .int m] ∧ H a = some (.lst (ss.map V.str)) ∧ a ≠ p ∧ ss.length ≤ 10 ∧ 0 ≤ m ∧ m ≤ 10 ∧ PotAt H p c ∧ c + m.toNat ≤ 6000 ∧
  ∀ (l : Addr) (ys : List Str) (H' : Hp), H' l = some (.lst (ys.map V.str)) → H l = none → l ≠ p → ys.length ≤ m.toNat → (∀ s ∈ ys, s ∈ ss) → Ch p H H' → PotAt H' p (c + m.toNat) → Q (.ref l) H'
theorem scUnlike : FnScope ["_law_pot", "_law_some", "_law_many", "_law_left", "_law_found", "_law_turn", "_law_at"] ["_law_pot", "_law_some", "_law_many"] (defScope (top 19)) := ⟨rfl, rfl, rfl, by decide +kernel, rfl, by decide +kernel, by decide +kernel⟩
theorem ok_unlike (F : FnD K "_law_unlike" 19 f fd) (B : Bl mg) (GT : FnOk P w K mg base CX0 1 g gd ["_law_pot", "_law_upto"] spTake) (bT : Binds K gd ["_law_pot", "_law_upto"] []) (kT : PySem.W.keepIn K (.ref g) = true) (gT : mg "_law_take" = some (.ref g)) :
    FnOk P w K mg base CX0 2 f fd ["_law_pot", "_law_some", "_law_many"] spUnlike := by
  refine F.ok scUnlike (fun vs H Q E h => ?_) (fun cdv A outer s H vs Q E hr h => ?_)
  · obtain ⟨p, a, ss, m, c, rfl, _⟩ := h
    rfl
  obtain ⟨p, a, ss, m, c, rfl, ha, nap, l10, m0, m10, hp, hc, q⟩ := h
  refine ⟨_, PSs.nox (pss_cons (ps_par (i := 3) (j := 4) rfl scUnlike.nd rfl rfl (by decide) rfl rfl (pa_cons (pe_callTy call_list_of (by rfl) B.list (by decide +kernel) (pa_cons (pv 1) pa_nil)) (pa_cons (pe_lst pa_nil) pa_nil)) (by rfl))
    (pss_cons (ps_for PassesOwn.never rfl (pi_range1 (by rfl) B.range (pa_cons (pe_callB (call_min2 rfl) (by rfl) B.min (by decide +kernel) (pa_cons (pv 2) (pa_cons (pe_callB call_len_seq (by rfl) B.len PySem.boot_len (pa_cons (pv 3) pa_nil)) pa_nil))) pa_nil))
        (pg_name (i := 5) scUnlike.nd rfl (Or.inl rfl))
      (pss_cons (ps_set (i := 6) scUnlike.nd rfl (Or.inl rfl) (pe_call GT hr rfl gT kT bT .nil pass0 (pa_cons (pv 0) (pa_cons (pe_callB call_len_seq (by rfl) B.len PySem.boot_len (pa_cons (pv 3) pa_nil)) pa_nil))))
      (pss_cons (ps_expr (pe_bm PySem.F.plainAttrs_list PySem.F.slot_list_append PySem.F.type_list_append mt_append (pv 4) (pa_cons (pe_ix ix_list (pv 3) (pv 6) (fun _ _ => rfl)) pa_nil)))
      (pss_one (ps_set (i := 3) scUnlike.nd rfl (Or.inl rfl) (pe_op op_cat (pe_slice sl_list (pv 3) po_none (po_some (pv 6))) (pe_slice sl_list (pv 3) (po_some (pe_op op_add (pv 6) pe_int)) po_none)))))))
    (pss_one (ps_ret (pv 4))))), ?_⟩
  obtain ⟨ys0, hp0⟩ := hp.lst
  refine ⟨_, rfl, a, _, rfl, .inl (SqL.of ha), fun l1 hl1 => ⟨(by show 0 ≤ sizeLine; decide), fun l2 hl2 => ⟨_, _, rfl, ?_⟩⟩⟩
  have e1 : upd (upd H l1 (.lst (ss.map V.str))) l2 (.lst []) l1 = some (.lst (ss.map V.str)) := by
    rw [upd_ne (ne_of_none upd_same hl2)]
    exact upd_same
  have k0 : Same H (upd (upd H l1 (.lst (ss.map V.str))) l2 (.lst [])) := (same_new hl1 _).trans (same_new hl2 _)
  have hl2H : H l2 = none := by
    cases z : H l2 with
    | none => rfl
    | some o => rw [(same_new hl1 _) _ _ z] at hl2; cases hl2
  have n2p : l2 ≠ p := fun e => by rw [e, hp0] at hl2H; cases hl2H
  refine ⟨_, rfl, _, rfl, l1, _, rfl, .inl (SqL.of e1), _, _, rfl, ?_⟩
  rw [List.length_map]
  have jb : ∃ j : Nat, (if ((ss.length : Nat) : Int) < m then ((ss.length : Nat) : Int) else m) = (j : Int) ∧ j ≤ ss.length ∧ j ≤ m.toNat := by
    split
    · exact ⟨ss.length, rfl, Nat.le_refl _, by omega⟩
    · exact ⟨m.toNat, by omega, by omega, Nat.le_refl _⟩
  obtain ⟨j, ej, j1, j2⟩ := jb
  rw [ej]
  refine ⟨_, rfl, by omega, by omega, ?_⟩
  refine for_range (lo := 0) (n := j) (fun i σ H1 => ∃ (x3 : Addr) (tv av : Option V) (ls fs : List Str), σ = [some (.ref p), some (.ref a), some (.int m), some (.ref x3), some (.ref l2), tv, av] ∧ H1 x3 = some (.lst (ls.map V.str)) ∧ x3 ≠ p ∧ x3 ≠ l2 ∧ H1 l2 = some (.lst (fs.map V.str)) ∧
      ls.length + i = ss.length ∧ fs.length = i ∧ (∀ s ∈ ls, s ∈ ss) ∧ (∀ s ∈ fs, s ∈ ss) ∧ Ch p H H1 ∧ PotAt H1 p (c + i))
    ⟨l1, none, none, ss, [], rfl, e1, (fun e => by rw [e, hp0] at hl1; cases hl1), ne_of_none upd_same hl2, upd_same, rfl, rfl, (fun _ h => h), (fun _ h => nomatch h), .same k0, hp.same k0⟩ ?turn ?after
  case turn =>
    rintro i σ H1 hi ⟨x3, tv, av, ls, fs, rfl, h3, n3p, n32, h2, el, ef, s1, s2, k1, hp1⟩
    have hl0 : 1 ≤ ls.length := by omega
    refine ⟨_, rfl, _, rfl, x3, _, rfl, .inl (SqL.of h3), p, _, c + i, rfl, by rw [List.length_map]; omega, by rw [List.length_map]; omega, hp1, by omega, fun n H2 n0 n1 k2 hp2 => ?_⟩
    rw [List.length_map] at n1
    have hn : n.toNat < ls.length := by omega
    have en : n = ((n.toNat : Nat) : Int) := by omega
    have h32 := k2 _ _ n3p h3
    have h22 := k2 _ _ n2p h2
    have at_ : atI (ls.map V.str) ((n.toNat : Nat) : Int) = some (.str ls[n.toNat]) := atI_nat (by rw [List.getElem?_map, List.getElem?_eq_getElem hn] <;> rfl)
    rw [← en] at at_
    refine ⟨_, rfl, .inl ⟨rfl, _, SqL.of h22⟩, _, rfl, _, rfl, x3, _, _, _, rfl, rfl, SqL.of h32, at_, l2, _, _, rfl, rfl, h22, by rw [List.length_map]; exact small1000 (by omega), ?_⟩
    have h33 : upd H2 l2 (.lst (fs.map V.str ++ [V.str ls[n.toNat]])) x3 = some (.lst (ls.map V.str)) := by rw [upd_ne n32]; exact h32
    refine ⟨_, rfl, _, rfl, _, rfl, x3, _, rfl, SqL.of h33, fun a1 ha1 => ?_⟩
    have h34 : upd (upd H2 l2 (.lst (fs.map V.str ++ [V.str ls[n.toNat]]))) a1 (.lst (cutV (ls.map V.str) none (some n))) x3 = some (.lst (ls.map V.str)) := by rw [upd_ne (ne_of_none h33 ha1)]; exact h33
    refine ⟨_, rfl, _, rfl, _, _, rfl, rfl, _, rfl, x3, _, rfl, SqL.of h34, fun a2 ha2 => ?_⟩
    have e5 : cutV (ls.map V.str) none (some n) = (ls.take n.toNat).map V.str := by rw [cut_to _ n0, List.map_take]
    have e6 : cutV (ls.map V.str) (some (n + 1)) none = (ls.drop (n.toNat + 1)).map V.str := by
      rw [cut_from _ (by omega), List.map_drop]
      congr 1
      omega
    rw [e5] at ha2
    rw [e5, e6]
    have hl2b : upd (upd H2 l2 (.lst (fs.map V.str ++ [V.str ls[n.toNat]]))) a1 (.lst ((ls.take n.toNat).map V.str)) l2 = some (.lst (fs.map V.str ++ [V.str ls[n.toNat]])) := by
      rw [upd_ne (ne_of_none upd_same ha1)]
      exact upd_same
    refine ⟨a1, a2, _, _, rfl, rfl, by rw [upd_ne (ne_of_none upd_same ha2)]; exact upd_same, upd_same, Nat.le_of_lt (small1000 (by rw [List.length_map, List.length_map, List.length_take, List.length_drop]; omega)), fun a3 ha3 => ?_⟩
    have kk := (same_new ha1 (.lst ((ls.take n.toNat).map V.str))).trans ((same_new ha2 (.lst ((ls.drop (n.toNat + 1)).map V.str))).trans (same_new ha3 (.lst ((ls.take n.toNat).map V.str ++ (ls.drop (n.toNat + 1)).map V.str))))
    have hp3 : PotAt (upd H2 l2 (.lst (fs.map V.str ++ [V.str ls[n.toNat]]))) p (c + i + 1) := by
      obtain ⟨x1, x2, x3, z1, z2⟩ := hp2
      exact ⟨x1, x2, x3, by rw [upd_ne (Ne.symm n2p)]; exact z1, z2⟩
    have n3 : a3 ≠ p := by
      obtain ⟨ys, hy⟩ := hp3.lst
      exact new_ne ((same_new ha1 _).trans (same_new ha2 _)) hy ha3
    have n32' : a3 ≠ l2 := new_ne (same_new ha2 _) hl2b ha3
    refine ⟨a3, _, _, ls.take n.toNat ++ ls.drop (n.toNat + 1), fs ++ [ls[n.toNat]], rfl, ?_, n3, n32', ?_, ?_, by rw [List.length_append, ef]; rfl, fun t ht => ?_, fun t ht => ?_, fun b o nb e => ?_, (hp3.same kk).mono (by omega)⟩
    · rw [upd_same, List.map_append]
    · rw [List.map_append]
      exact kk _ _ upd_same
    · rw [List.length_append, List.length_take, List.length_drop]
      omega
    · rcases List.mem_append.mp ht with z | z
      · exact s1 t (List.mem_of_mem_take z)
      · exact s1 t (List.mem_of_mem_drop z)
    · rcases List.mem_append.mp ht with z | z
      · exact s2 t z
      · rw [List.mem_singleton.mp z]
        exact s1 _ (List.getElem_mem hn)
    · have nb2 : b ≠ l2 := ne_of_none e hl2H
      refine kk _ _ ?_
      rw [upd_ne nb2]
      exact k2 _ _ nb (k1 _ _ nb e)
  case after =>
    rintro σ H1 ⟨x3, tv, av, ls, fs, rfl, h3, n3p, n32, h2, el, ef, s1, s2, k1, hp1⟩
    exact ⟨_, rfl, q l2 fs H1 h2 hl2H n2p (by omega) s2 k1 (hp1.mono (by omega))⟩
end
end K00
set_option Elab.async false
set_option linter.all false
set_option maxRecDepth 100000
set_option maxHeartbeats 8000000
/-! K00Z: _law_any. -/
namespace K00
open PySem PySem.Spec L2
open PyProof.Rows (envOfC sortedS)
/-- how many draws, parts, signs a document so deep has -/
def potA : Nat → Nat
  | 0 => 2
  | n + 1 => 4 + 2 * potA n
def cA : Nat → Nat
  | 0 => 1
  | n + 1 => 1 + 2 * cA n
def lA : Nat → Nat
  | 0 => 10
  | n + 1 => 2 + 2 * (lA n + 14)
theorem cA_pos : ∀ n, 1 ≤ cA n
  | 0 => Nat.le_refl _
  | n + 1 => by unfold cA; omega
theorem lA_pos : ∀ n, 10 ≤ lA n
  | 0 => Nat.le_refl _
  | n + 1 => by have := lA_pos n; unfold lA; omega
theorem potA_pos : ∀ n, 2 ≤ potA n
  | 0 => Nat.le_refl _
  | n + 1 => by unfold potA; omega
/-- names of fields that are drawn -/
def KPn (s : Str) : Prop := nameB s = true ∧ s.length ≤ 1000 ∧ PyData.strOk s = true ∧ (reprText s).length ≤ 10
def kpB (s : Str) : Bool := nameB s && (Nat.ble s.length 1000 && (PyData.strOk s && Nat.ble (reprText s).length 10))
theorem kp_of {s : Str} (h : kpB s = true) : KPn s := by
  unfold kpB at h
  obtain ⟨h1, h⟩ := He.ba h
  obtain ⟨h2, h⟩ := He.ba h
  obtain ⟨h3, h4⟩ := He.ba h
  exact ⟨h1, Nat.le_of_ble_eq_true h2, h3, Nat.le_of_ble_eq_true h4⟩
theorem keyN_of {ds : List (PyData × PyData)} {p : PyData × PyData} {s : Str} (e : p.1 = .str s) (h : KPn s) : KeyN p.1 := ⟨s, e, h.2.1, h.2.2.1, h.2.2.2⟩
theorem isOne_list {xs : List PyData} (h : ∀ x ∈ xs, isOne x = true) : isOne (.list xs) = true := by
  rw [isOne_kids]
  show (true && xs.all isOne) = true
  rw [Bool.true_and]
  exact List.all_eq_true.mpr h
theorem isOne_dict {ds : List (PyData × PyData)} (h : ∀ p ∈ ds, (∃ s, p.1 = .str s ∧ nameB s = true) ∧ isOne p.2 = true) : isOne (.dict ds) = true := by
  rw [isOne_kids]
  refine Bool.and_eq_true_iff.mpr ⟨List.all_eq_true.mpr fun p hp => ?_, List.all_eq_true.mpr fun x hx => ?_⟩
  · obtain ⟨⟨s, e, hs⟩, _⟩ := h p hp
    rw [e]
    exact hs
  · obtain ⟨p, hp, rfl⟩ := List.mem_map.mp hx
    exact (h p hp).2
theorem four_ok : (["x", "y", "k", "q"] : List Str).all kpB = true := by decide +kernel
section
variable {P : Program} {w : World} {K : PySem.W.Frag} {mg : Str → Option Value} {base : Heap} {f g g2 g3 g4 : Addr} {fd gd gd2 gd3 gd4 : FuncData}
def spAny (P : Program) (w : World) (n : Nat) : Sp := fun vs H Q _ => ∃ (p : Addr) (c : Nat), vs = [.ref p, .int (n : Nat)] ∧ PotAt H p c ∧ c + potA n ≤ 6000 ∧
  ∀ x d H', isOne d = true → Dr n (cA n) (lA n) d → Da P w H' x d → Ch p H H' → PotAt H' p (c + potA n) → Q x H'
theorem scAny : FnScope ["_law_pot", "_law_deep", "_law_pick", "_law_turn", "_law_fields", "_law_field"] ["_law_pot", "_law_deep"] (defScope (top 21)) := ⟨rfl, rfl, rfl, by decide +kernel, rfl, by decide +kernel, by decide +kernel⟩
theorem ok_any0 (F : FnD K "_law_any" 21 f fd) (B : Bl mg) (GF : FnOk P w K mg base CX0 3 g gd ["_law_pot"] (spFlat P w)) (bF : Binds K gd ["_law_pot"] []) (kF : PySem.W.keepIn K (.ref g) = true) (gF : mg "_law_flat" = some (.ref g)) :
    FnOk P w K mg base CX0 4 f fd ["_law_pot", "_law_deep"] (spAny P w 0) := by
  refine F.ok scAny (fun vs H Q E h => ?_) (fun cdv A outer s H vs Q E hr h => ?_)
  · obtain ⟨p, c, rfl, _⟩ := h
    rfl
  obtain ⟨p, c, rfl, hp, hc, q⟩ := h
  refine ⟨_, PSs.nox (pss_cons (ps_set (i := 2) scAny.nd rfl (Or.inl rfl) (pe_ifExp (pt_cmpR op_gt (pv 1) pe_int (nomark _)) pe_no pe_int))
    (pss_cons (ps_if (pt_cmpR op_lt (pv 2) pe_int (nomark _)) (pss_one (ps_ret (pe_call GF hr rfl gF kF bF .nil pass0 (pa_cons (pv 0) pa_nil)))) pss_nil)
    (pss_cons (ps_if (pt_cmpR op_eq (pv 2) pe_int (nomark _)) (pss_one (ps_ret pe_no)) pss_nil)
    (pss_cons (ps_set (i := 4) scAny.nd rfl (Or.inl rfl) pe_no) (pss_one (ps_ret pe_no)))))), ?_⟩
  refine ⟨_, rfl, _, _, rfl, rfl, _, rfl, iteF ⟨_, rfl, _, _, rfl, rfl, _, rfl, iteT ⟨_, rfl, p, c, rfl, hp, ?_, fun x d H' h1 h2 h3 k hp' => ?_⟩⟩⟩
  · have := potA_pos 0
    omega
  · exact q x d H' h1 h2 h3 k (hp'.mono (by have := potA_pos 0; omega))
theorem ok_anyS {n : Nat} (F : FnD K "_law_any" 21 f fd) (B : Bl mg) (GF : FnOk P w K mg base CX0 3 g gd ["_law_pot"] (spFlat P w)) (bF : Binds K gd ["_law_pot"] []) (kF : PySem.W.keepIn K (.ref g) = true) (gF : mg "_law_flat" = some (.ref g))
    (GT : FnOk P w K mg base CX0 1 g2 gd2 ["_law_pot", "_law_upto"] spTake) (bT : Binds K gd2 ["_law_pot", "_law_upto"] []) (kT : PySem.W.keepIn K (.ref g2) = true) (gT : mg "_law_take" = some (.ref g2))
    (GU : FnOk P w K mg base CX0 2 g3 gd3 ["_law_pot", "_law_some", "_law_many"] spUnlike) (bU : Binds K gd3 ["_law_pot", "_law_some", "_law_many"] []) (kU : PySem.W.keepIn K (.ref g3) = true) (gU : mg "_law_unlike" = some (.ref g3))
    (GR : FnOk P w K mg base CX0 (n + 4) f fd ["_law_pot", "_law_deep"] (spAny P w n)) (bR : Binds K fd ["_law_pot", "_law_deep"] []) (gR : mg "_law_any" = some (.ref f)) :
    FnOk P w K mg base CX0 (n + 5) f fd ["_law_pot", "_law_deep"] (spAny P w (n + 1)) := by
  refine F.ok scAny (fun vs H Q E h => ?_) (fun cdv A outer s H vs Q E hr h => ?_)
  · obtain ⟨p, c, rfl, _⟩ := h
    rfl
  obtain ⟨p, c, rfl, hp, hc, q⟩ := h
  have hr1 : Room 1 _ := hr.mono (by omega)
  have hr2 : Room 2 _ := hr.mono (by omega)
  have hr3 : Room 3 _ := hr.mono (by omega)
  refine ⟨_, PSs.nox (pss_cons (ps_set (i := 2) scAny.nd rfl (Or.inl rfl) (pe_ifExp (pt_cmpR op_gt (pv 1) pe_int (nomark _)) (pe_call GT hr1 rfl gT kT bT .nil pass0 (pa_cons (pv 0) (pa_cons pe_int pa_nil))) pe_int))
    (pss_cons (ps_if (pt_cmpR op_lt (pv 2) pe_int (nomark _)) (pss_one (ps_ret (pe_call GF hr3 rfl gF kF bF .nil pass0 (pa_cons (pv 0) pa_nil)))) pss_nil)
    (pss_cons (ps_if (pt_cmpR op_eq (pv 2) pe_int (nomark _)) (pss_one (ps_ret
        (pe_fz (pe_lc (own := [("_law_turn", 3)]) (g := gName 3) (tt := tYes) rfl scAny.nd (pi_range1 (by rfl) B.range (pa_cons (pe_call GT hr1 rfl gT kT bT .nil pass0 (pa_cons (pv 0) (pa_cons pe_int pa_nil))) pa_nil))
          (blkOk_by (N := ["_law_pot", "_law_deep", "_law_pick", "_law_turn", "_law_fields", "_law_field"]) (sc := defScope (top 21)) (by decide +kernel))
          (fun _ _ _ _ _ => pg_name (i := 3) scAny.nd rfl (Or.inl rfl)) (fun _ _ _ _ _ => pts_nil)
          (fun _ _ _ _ _ => pe_call GR hr rfl gR F.kp bR .nil pass0 (pa_cons (pv 0) (pa_cons (pe_op op_sub (pv 1) pe_int) pa_nil))))))) pss_nil)
    (pss_cons (ps_set (i := 4) scAny.nd rfl (Or.inl rfl) (pe_call GU hr2 rfl gU kU bU .nil pass0 (pa_cons (pv 0) (pa_cons (pe_lst (pa_cons pe_str (pa_cons pe_str (pa_cons pe_str (pa_cons pe_str pa_nil)))))
        (pa_cons (pe_call GT hr1 rfl gT kT bT .nil pass0 (pa_cons (pv 0) (pa_cons pe_int pa_nil))) pa_nil)))))
    (pss_one (ps_ret (pe_fzK (pe_callTy (call_dictP rfl) (by rfl) B.dict (by decide +kernel) (pa_cons
        (pe_lc (own := [("_law_field", 5)]) (g := gName 5) (tt := tYes) rfl scAny.nd (pi_list (pv 4)) (blkOk_by (N := ["_law_pot", "_law_deep", "_law_pick", "_law_turn", "_law_fields", "_law_field"]) (sc := defScope (top 21)) (by decide +kernel))
          (fun _ _ _ _ _ => pg_name (i := 5) scAny.nd rfl (Or.inl rfl)) (fun _ _ _ _ _ => pts_nil)
          (fun _ _ _ _ _ => pe_tup (pa_cons (pv 5) (pa_cons (pe_call GR hr rfl gR F.kp bR .nil pass0 (pa_cons (pv 0) (pa_cons (pe_op op_sub (pv 1) pe_int) pa_nil))) pa_nil)))) pa_nil))))))))), ?_⟩
  obtain ⟨ys0, hp0⟩ := hp.lst
  have pp := potA_pos n
  have pS : potA (n + 1) = 4 + 2 * potA n := rfl
  refine ⟨_, rfl, _, _, rfl, rfl, _, rfl, ite_t (decide_eq_true (by omega)) ?_⟩
  refine ⟨_, rfl, p, 4, c, rfl, by decide, by decide, hp, by omega, fun pick H1 pk0 pk1 k1 hp1 => ?_⟩
  obtain ⟨ys1, hq1⟩ := hp1.lst
  refine ⟨_, rfl, _, _, rfl, rfl, _, rfl, ?_⟩
  refine ite2 (fun _ => ?_) (fun _ => ⟨_, rfl, rfl, _, rfl, ?_⟩)
  · refine ⟨_, rfl, p, c + 1, rfl, hp1, by omega, fun x d H' h1 h2 h3 k hp' => ?_⟩
    refine q x d H' h1 (h2.mono (by omega) (by have := cA_pos (n + 1); omega) (by have := lA_pos (n + 1); omega)) h3 (k1.trans k) (hp'.mono (by omega))
  refine ite2 (fun _ => ?_) (fun _ => ?_)
  · refine ⟨_, rfl, p, 3, c + 1, rfl, by decide, by decide, hp1, by omega, fun m H2 m0 m1 k2 hp2 => ⟨m, rfl, by omega, by omega, fun D hD => ?_⟩⟩
    obtain ⟨ys2, hq2⟩ := hp2.lst
    have nD : D ≠ p := fun e => by rw [e, hq2] at hD; cases hD
    have hDH : H D = none := by
      cases z : H D with
      | none => rfl
      | some o => rw [k2 _ _ nD (k1 _ _ nD z)] at hD; cases hD
    have em : m = ((m.toNat : Nat) : Int) := by omega
    rw [em]
    refine lc_range (lo := 0) (n := m.toNat) (fun i H3 => ∃ vs ds, H3 D = some (.lst vs) ∧ vs.length = i ∧ DaL P w H3 vs ds ∧ (∀ d ∈ ds, isOne d = true ∧ Dr n (cA n) (lA n) d) ∧ Ch p H H3 ∧ PotAt H3 p (c + 2 + i * potA n))
      ⟨[], [], upd_same, rfl, .nil, (fun _ h => nomatch h), (k1.trans k2).trans (.same (same_new hD _)), (hp2.same (same_new hD _)).mono (by omega)⟩ ?_ ?_
    · rintro i H3 hi ⟨vs, ds, hD3, hvl, hda, hdr, k3, hp3⟩
      refine ⟨rfl, ?_⟩
      simp only [tYes, if_true]
      have hb : i * potA n ≤ 1 * potA n := Nat.mul_le_mul_right _ (by omega)
      refine ⟨_, rfl, _, rfl, _, _, rfl, rfl, p, c + 2 + i * potA n, ?_, hp3, by omega, fun x d H4 h1 h2 h3 k4 hp4 => ?_⟩
      · show ([V.ref p, V.int (((n + 1 : Nat) : Int) - 1)] : List V) = [V.ref p, V.int (n : Int)]
        rw [show ((n + 1 : Nat) : Int) - 1 = (n : Int) by omega]
      obtain ⟨ys3, hq3⟩ := hp3.lst
      have kp4 : Kp H3 H4 := .ch k4 hq3
      have hD4 := k4 _ _ nD hD3
      have kl : Kp H4 (upd H4 D (.lst (vs ++ [x]))) := .lst hD4 _
      refine ⟨vs, hD4, small1000 (by omega), vs ++ [x], ds ++ [d], upd_same, by simp [hvl], (hda.kp (kp4.trans kl)).snoc (h3.kp kl), fun e he => ?_, fun b o nb e => ?_, ?_⟩
      · rcases List.mem_append.mp he with z | z
        · exact hdr e z
        · rw [List.mem_singleton.mp z]
          exact ⟨h1, h2⟩
      · rw [upd_ne (ne_of_none e hDH)]
        exact k4 _ _ nb (k3 _ _ nb e)
      · obtain ⟨x1, x2, x3, z1, z2, z3, z4, z5⟩ := hp4
        refine ⟨x1, x2, x3, by rw [upd_ne (Ne.symm nD)]; exact z1, z2, z3, z4, ?_⟩
        have e1 : (i + 1) * potA n = i * potA n + potA n := by rw [Nat.add_mul, Nat.one_mul]
        rw [e1]
        omega
    · rintro H3 ⟨vs, ds, hD3, hvl, hda, hdr, k3, hp3⟩
      refine ⟨D, _, rfl, hD3, trivial, fun o => ?_⟩
      have hl := hda.length
      have dl : ds.length ≤ 2 := by omega
      have kl : Kp H3 (upd H3 D (.frz o (.lst vs))) := .lst hD3 _
      have hb : m.toNat * potA n ≤ 2 * potA n := Nat.mul_le_mul_right _ (by omega)
      refine q _ (.list ds) _ (isOne_list fun d hd => (hdr d hd).1) ((dr_list dl (by omega) fun d hd => (hdr d hd).2).mono (Nat.le_refl _) (Nat.le_refl _) (by show _ ≤ 2 + 2 * (lA n + 14); omega)) (.lst upd_same (hda.kp kl)) (fun b o nb e => ?_) ?_
      · rw [upd_ne (ne_of_none e hDH)]
        exact k3 _ _ nb e
      · obtain ⟨x1, x2, x3, z1, z2, z3, z4, z5⟩ := hp3
        exact ⟨x1, x2, x3, by rw [upd_ne (Ne.symm nD)]; exact z1, z2, z3, z4, by omega⟩
  · refine ⟨_, rfl, (by show 4 ≤ sizeLine; decide), fun a ha => ?_⟩
    have nap : a ≠ p := fun e => by rw [e, hq1] at ha; cases ha
    refine ⟨_, rfl, p, 3, c + 1, rfl, by decide, by decide, hp1.same (same_new ha _), by omega, fun m H2 m0 m1 k2 hp2 => ?_⟩
    have ha2 : H2 a = some (.lst ((["x", "y", "k", "q"] : List Str).map V.str)) := k2 _ _ nap upd_same
    have kH2 : Ch p H H2 := (k1.trans (.same (same_new ha _))).trans k2
    refine ⟨p, a, ["x", "y", "k", "q"], m, c + 2, rfl, ha2, nap, by decide, m0, by omega, hp2, by omega, fun l ys H3 hl3 hl2 nlp hyl hys k3 hp3 => ?_⟩
    obtain ⟨ys3, hq3⟩ := hp3.lst
    refine ⟨_, rfl, l, rfl, ⟨_, SqL.of hl3⟩, fun D hD => ?_⟩
    have nD : D ≠ p := fun e => by rw [e, hq3] at hD; cases hD
    have nDl : D ≠ l := fun e => by rw [e, hl3] at hD; cases hD
    have hDH : H D = none := by
      cases z : H D with
      | none => rfl
      | some o => rw [k3 _ _ nD (kH2 _ _ nD z)] at hD; cases hD
    refine lc_it (walk_list (K := K) (a := l) (xs := ys.map V.str)) (fun i H4 => ∃ ts kvs, H4 D = some (.lst (ts.map V.ref)) ∧ ts.length = i ∧ Paired (fun (t : Addr) (kv : Key × V) => H4 t = some (.tup [kV kv.1, kv.2])) ts kvs ∧
        (∀ kv ∈ kvs, RE P w KPn (fun d => isOne d = true ∧ Dr n (cA n) (lA n) d) H4 kv) ∧ H4 l = some (.lst (ys.map V.str)) ∧ Ch p H H4 ∧ PotAt H4 p (c + 2 + m.toNat + i * potA n))
      ⟨[], [], upd_same, rfl, .nil, (fun _ h => nomatch h), by rw [upd_ne (Ne.symm nDl)]; exact hl3, (kH2.trans k3).trans (.same (same_new hD _)), (hp3.same (same_new hD _)).mono (by omega)⟩ (fun _ H4 _ z => by obtain ⟨_, _, _, _, _, _, z, _⟩ := z; exact SqL.of z) ?_ ?_
    · rintro i v H4 H4' hi ⟨ts, kvs, hD4, htl, hpr, hre, hl4, k4, hp4⟩ ⟨rfl, hv⟩
      rw [List.length_map] at hi
      rw [List.getElem?_map, List.getElem?_eq_getElem hi] at hv
      cases hv
      refine ⟨rfl, ?_⟩
      simp only [tYes, if_true]
      have hb : i * potA n ≤ 1 * potA n := Nat.mul_le_mul_right _ (by omega)
      refine ⟨_, rfl, _, rfl, _, rfl, _, _, rfl, rfl, p, c + 2 + m.toNat + i * potA n, ?_, hp4, by omega, fun x d H5 h1 h2 h3 k5 hp5 => ⟨(by show 2 ≤ sizeLine; decide), fun t ht => ?_⟩⟩
      · show ([V.ref p, V.int (((n + 1 : Nat) : Int) - 1)] : List V) = [V.ref p, V.int (n : Int)]
        rw [show ((n + 1 : Nat) : Int) - 1 = (n : Int) by omega]
      obtain ⟨ys4, hq4⟩ := hp4.lst
      have kp5 : Kp _ H5 := .ch k5 hq4
      have hD5 := k5 _ _ nD hD4
      have ntD : D ≠ t := ne_of_none hD5 ht
      have k6 := same_new ht (.tup [V.str ys[i], x])
      have hD6 := k6 _ _ hD5
      have kl : Kp (upd H5 t (.tup [V.str ys[i], x])) (upd (upd H5 t (.tup [V.str ys[i], x])) D (.lst (ts.map V.ref ++ [V.ref t]))) := .lst hD6 _
      have kall := kp5.trans ((Kp.same k6).trans kl)
      refine ⟨_, hD6, small1000 (by rw [List.length_map]; omega), ts ++ [t], kvs ++ [(Sum.inr ys[i], x)], by rw [upd_same, List.map_append]; rfl, by simp [htl], ?_, fun kv hkv => ?_, ?_, fun b o nb e => ?_, ?_⟩
      · refine paired_append (Paired.mapP hpr fun t kv z => kall.1 _ _ z) (.cons ?_ .nil)
        rw [upd_ne (Ne.symm ntD)]
        exact upd_same
      · rcases List.mem_append.mp hkv with z | z
        · exact (hre kv z).kp kall
        · rw [List.mem_singleton.mp z]
          exact ⟨ys[i], d, rfl, kp_of (List.all_eq_true.mp four_ok _ (hys _ (List.getElem_mem hi))), h3.kp ((Kp.same k6).trans kl), h1, h2⟩
      · rw [upd_ne (Ne.symm nDl)]
        exact k6 _ _ (k5 _ _ nlp hl4)
      · rw [upd_ne (ne_of_none e hDH)]
        exact k6 _ _ (k5 _ _ nb (k4 _ _ nb e))
      · obtain ⟨x1, x2, x3, z1, z2, z3, z4, z5⟩ := hp5
        refine ⟨x1, x2, x3, by rw [upd_ne (Ne.symm nD)]; exact k6 _ _ z1, z2, z3, z4, ?_⟩
        have e1 : (i + 1) * potA n = i * potA n + potA n := by rw [Nat.add_mul, Nat.one_mul]
        rw [e1]
        omega
    · rintro H4 ⟨ts, kvs, hD4, htl, hpr, hre, hl4, k4, hp4⟩
      rw [List.length_map] at htl hp4
      refine ⟨D, ts, kvs, rfl, SqL.of hD4, Paired.mapP hpr fun t kv z => SqT.of z, fun pd hpd => ⟨pd, _, rfl, upd_same, fun nd o => ?_⟩⟩
      obtain ⟨ds, hda, hdl, hnd, hds⟩ := made_dict (o := o) hpd hre rfl nd
      have hkl : kvs.length = ts.length := (Paired.length hpr).symm
      have dl : ds.length ≤ 2 := by omega
      obtain ⟨ys4, hq4⟩ := hp4.lst
      have npd : pd ≠ p := fun e => by rw [e, hq4] at hpd; cases hpd
      have hb : ys.length * potA n ≤ m.toNat * potA n := Nat.mul_le_mul_right _ hyl
      have hb2 : m.toNat * potA n ≤ 2 * potA n := Nat.mul_le_mul_right _ (by omega)
      refine q _ (.dict ds) _ (isOne_dict fun p hp => ?_) (dr_dict dl (by omega) hnd fun p hp => ?_) hda (fun b o' nb e => ?_) ?_
      · obtain ⟨s, e, hk, h1, _⟩ := hds p hp
        exact ⟨⟨s, e, hk.1⟩, h1⟩
      · obtain ⟨s, e, hk, _, h2⟩ := hds p hp
        exact ⟨keyN_of (ds := ds) e hk, h2⟩
      · rw [upd_upd]
        exact (same_new hpd _) _ _ (k4 _ _ nb e)
      · rw [upd_upd]
        exact (hp4.same (same_new hpd _)).mono (by omega)
end
end K00
set_option Elab.async false
set_option linter.all false
set_option maxRecDepth 100000
set_option maxHeartbeats 8000000
/-! K01A: {None: 1} written; _law_odd. -/
namespace K00
open PySem PySem.Spec L2
open PyProof.Rows (envOfC sortedS)
def tDispN (P : Program) (w : World) : TE := fun _ H Q => ∀ p, H p = none → ∀ o, Q (.ref p) (upd H p (.frz o (ndO P w p)))
theorem none_empty {P : Program} {w : World} {h : Heap} {a : Addr} (d : h.DictOf (mixKind P w) a []) : h.DictOf (noneKind P w) a [] := by
  obtain ⟨o, es, ep, h1, h2, h3, h4, h5, h6⟩ := d
  refine ⟨o, es, ep, h1, h2, h3, fun e he => ?_, ?_, List.nodup_nil⟩
  · obtain ⟨l⟩ := es
    cases h5
    exact absurd he (by simp)
  · obtain ⟨l⟩ := es
    cases h5
    exact .nil
theorem pe_dispN {X : Cx} {pos p1 p2 : Pos} {j1 j2} : PE X (.Dict [some (.Constant .none j1 p1)] [.Constant (.int 1) j2 p2] pos) (tDispN X.prog X.w) := by
  refine ⟨fun pins s σ H Q I q => ?_⟩
  have hn := I.hok.fresh (Nat.le_refl s.heap.objs.size)
  have I1 := I.laid (a := s.heap.objs.size) (o := .dK []) (h' := s.heap.push { cls := .type "dict", data := .dict #[] }) (t' := s.toks) (fun _ _ q => Heap.get?_push_of_some _ q) (Nat.le_refl _) (dk_empty s.heap I.big)
  have h : PPs X pos [some (.Constant .none j1 p1)] [.Constant (.int 1) j2 p2] [(tC .non, tC (.int 1))] := pps_cons pe_non pe_int pps_nil
  refine PySem.wpAny_Dict_walk (knd := noneKind X.prog X.w) rfl rfl (fun z => by cases z) (by show 1 ≤ 15; decide) (thn (h.run pins _ σ _ (fun ps H2 => ps = [(.non, .int 1)] ∧ H2 = upd H s.heap.objs.size (.dK [])) I1 ⟨rfl, rfl⟩) fun ws s2 ⟨ps, H2, I2, rel, ep, eH⟩ => ?_)
  subst ep eH
  cases rel with
  | @cons a b as bs r t =>
    cases t
    obtain ⟨b1, b2⟩ := b
    obtain ⟨r1, r2⟩ := r
    cases (show b1 = Value.none from r1)
    obtain ⟨tk, e2⟩ := (show ∃ t, b2 = Value.int 1 t from r2)
    subst e2
    obtain ⟨z, hd, vs0, r0, dd⟩ := dk_of I2.hok upd_same
    cases r0
    refine ⟨[((none : Option Key), Value.int 1 tk)], ⟨rfl, rfl, True.intro⟩, none_empty dd, fun h' dd' hs => ?_⟩
    have he : ∃ q, h'.get? s.heap.objs.size = some q := let ⟨q, _, _, hq, _⟩ := dd'; ⟨q, hq⟩
    have J := d_write I2 (t' := s2.toks + 1) (ob := ndO X.prog X.w s.heap.objs.size) (by rw [upd_same]; exact True.intro) hs he (ndO_ok hd dd')
    rw [upd_upd] at J
    obtain ⟨od, J2⟩ := J.lock upd_same trivial
    rw [upd_upd] at J2
    exact ⟨.ref s.heap.objs.size, _, J2, rfl, q _ hn od⟩
end K00
set_option Elab.async false
set_option linter.all false
set_option maxRecDepth 100000
set_option maxHeartbeats 8000000
/-! K01B: _law_odd. -/
namespace K00
open PySem PySem.Spec L2
open PyProof.Rows (envOfC sortedS)
section
variable {X : Cx}
def tD (P : Program) (w : World) (d : PyData) : TE := fun σ H Q => ∀ x H', Same H H' → Da P w H' x d → Q x H'
def tDs (P : Program) (w : World) (ds : List PyData) : TA := fun σ H Q => ∀ xs H', Same H H' → DaL P w H' xs ds → Q xs H'
theorem pd_int {i j pos} : PE X (.Constant (.int i) j pos) (tD X.prog X.w (.int i)) := pe_mono pe_int fun σ H Q q => q _ H (same_refl H) (.int i)
theorem pds_nil : PA X [] (tDs X.prog X.w []) := pa_mono pa_nil fun σ H Q q => q [] H (same_refl H) .nil
theorem pds_cons {e : Expr} {es : List Expr} {d : PyData} {ds : List PyData} (h : PE X e (tD X.prog X.w d)) (r : PA X es (tDs X.prog X.w ds)) (he : starEach (e :: es) X.env = (false, eval e X.env) :: starEach es X.env := by rfl) : PA X (e :: es) (tDs X.prog X.w (d :: ds)) :=
  pa_mono (pa_cons h r he) fun σ H Q q => fun x H1 k hd => fun xs H2 k2 hds => q (x :: xs) H2 (k.trans k2) (.cons (hd.kp (.same k2)) hds)
theorem pd_tup {es : List Expr} {ds : List PyData} {x1 pos} (r : PA X es (tDs X.prog X.w ds)) (hz : ds.length ≤ 10 := by decide) : PE X (.Tuple es x1 pos) (tD X.prog X.w (.tuple ds)) :=
  pe_mono (pe_tup r) fun σ H Q q => fun xs H1 k hds => ⟨by rw [hds.length]; exact Nat.le_of_lt (small1000 (by omega)), fun p hp => q _ _ (k.trans (same_new hp _)) (.tup upd_same (hds.kp (.new hp _)))⟩
theorem pd_dic {ke ve : Expr} {key : Key} {v : V} {dk dv : PyData} {pos} (hk : PE X ke (tC (kV key))) (hv : PE X ve (tC v)) (h1 : ∀ H, Da X.prog X.w H (kV key) dk) (h2 : ∀ H, Da X.prog X.w H v dv) : PE X (.Dict [some ke] [ve] pos) (tD X.prog X.w (.dict [(dk, dv)])) :=
  pe_mono (pe_fz (pe_disp (pps_cons hk hv pps_nil) (by rfl) (by rfl) (fun z => by cases z) (by show 1 ≤ 15; decide))) fun σ H Q q => fun p hp =>
    ⟨upd_same, [(key, v)], rfl, (by show 1 ≤ 15; decide), p, _, rfl, upd_same, trivial, fun o => by
      rw [upd_upd, upd_upd]
      exact q (.ref p) _ (same_new hp _) (.dic (.inl ⟨[(key, v)], upd_same, rfl⟩) (.cons (h1 _) (h2 _) .nil))⟩
theorem pd_dicN {pos p1 p2 : Pos} {j1 j2} : PE X (.Dict [some (.Constant .none j1 p1)] [.Constant (.int 1) j2 p2] pos) (tD X.prog X.w (.dict [(.none, .int 1)])) :=
  pe_mono pe_dispN fun σ H Q q => fun p hp o => q (.ref p) _ (same_new hp _) (.dic (.inr ⟨upd_same, rfl⟩) (.cons .non (.int 1) .nil))
end
def oddsD : List PyData := [.tuple [], .tuple [.int 1], .dict [(.int 1, .int 2)], .dict [(.str "", .int 1)], .dict [(.str "A", .int 1)], .dict [(.str "abcdefghi", .int 1)], .dict [(.str "a b", .int 1)], .dict [(.none, .int 1)], .dict [(.str "ab1", .int 0)]]
def potO : Nat → Nat
  | 0 => 10
  | n + 1 => 6 + 3 * potO n
def cO : Nat → Nat
  | 0 => 3
  | n + 1 => 1 + 3 * cO n
def lO : Nat → Nat
  | 0 => 50
  | n + 1 => 2 + 3 * (lO n + 14)
theorem cO_pos : ∀ n, 3 ≤ cO n
  | 0 => Nat.le_refl _
  | n + 1 => by have := cO_pos n; unfold cO; omega
theorem lO_pos : ∀ n, 50 ≤ lO n
  | 0 => Nat.le_refl _
  | n + 1 => by have := lO_pos n; unfold lO; omega
theorem potO_pos : ∀ n, 10 ≤ potO n
  | 0 => Nat.le_refl _
  | n + 1 => by have := potO_pos n; unfold potO; omega
theorem odds_dr : ∀ d ∈ oddsD, Dr 1 3 50 d := by
  have a : oddsD.all (fun d => d.showable && (Nat.ble d.shown.length 50 && (Nat.ble d.depth 1 && Nat.ble (cnt d) 3))) = true := by decide +kernel
  have s : ∀ d ∈ oddsD, SmN 4 d := by
    intro d hd
    have k : ∀ {x : PyData} {v : PyData}, SmN 4 x → SmN 4 v → SmN 4 (.dict [(x, v)]) := fun h1 h2 => ⟨by show 1 ≤ 4; decide, List.pairwise_singleton _ _, h1, h2, trivial⟩
    simp only [oddsD, List.mem_cons, List.not_mem_nil, or_false] at hd
    rcases hd with rfl | rfl | rfl | rfl | rfl | rfl | rfl | rfl | rfl
    · exact ⟨by decide, trivial⟩
    · exact ⟨by decide, trivial, trivial⟩
    · exact k trivial trivial
    · exact k ⟨by decide +kernel, by decide +kernel⟩ trivial
    · exact k ⟨by decide +kernel, by decide +kernel⟩ trivial
    · exact k ⟨by decide +kernel, by decide +kernel⟩ trivial
    · exact k ⟨by decide +kernel, by decide +kernel⟩ trivial
    · exact k trivial trivial
    · exact k ⟨by decide +kernel, by decide +kernel⟩ trivial
  intro d hd
  obtain ⟨h1, h⟩ := He.ba (List.all_eq_true.mp a d hd)
  obtain ⟨h2, h⟩ := He.ba h
  obtain ⟨h3, h4⟩ := He.ba h
  exact ⟨s d hd, Nat.le_of_ble_eq_true h3, Nat.le_of_ble_eq_true h4, h1, Nat.le_of_ble_eq_true h2⟩
theorem fourO_ok : (["x", "abcdefgh", "z", "open"] : List Str).all kpB = true := by decide +kernel
section
variable {P : Program} {w : World} {K : PySem.W.Frag} {mg : Str → Option Value} {base : Heap} {f g g2 g3 g4 : Addr} {fd gd gd2 gd3 gd4 : FuncData}
def spOdd (P : Program) (w : World) (n : Nat) : Sp := fun vs H Q _ => ∃ (p : Addr) (c : Nat), vs = [.ref p, .int (n : Nat)] ∧ PotAt H p c ∧ c + potO n ≤ 6000 ∧
  ∀ x d H', Dr (n + 1) (cO n) (lO n) d → Da P w H' x d → Ch p H H' → PotAt H' p (c + potO n) → Q x H'
theorem scOdd : FnScope ["_law_pot", "_law_deep", "_law_pick", "_law_odds", "_law_turn", "_law_fields", "_law_field"] ["_law_pot", "_law_deep"] (defScope (top 27)) := ⟨rfl, rfl, rfl, by decide +kernel, rfl, by decide +kernel, by decide +kernel⟩
theorem pt_ex {X : Cx} {e : Expr} {t t' : TT} (h : PT X e t) (f : ∀ σ H Q, t' σ H Q → t σ H Q) : PT X e t' := ⟨fun pins s σ H Q I q => h.run pins s σ H Q I (f σ H Q q)⟩
theorem ok_odd0 (F : FnD K "_law_odd" 27 f fd) (B : Bl mg) (GT : FnOk P w K mg base CX0 1 g2 gd2 ["_law_pot", "_law_upto"] spTake) (bT : Binds K gd2 ["_law_pot", "_law_upto"] []) (kT : PySem.W.keepIn K (.ref g2) = true) (gT : mg "_law_take" = some (.ref g2))
    (GO : FnOk P w K mg base CX0 2 g gd ["_law_pot", "_law_some"] spOf) (bO : Binds K gd ["_law_pot", "_law_some"] []) (kO : PySem.W.keepIn K (.ref g) = true) (gO : mg "_law_of" = some (.ref g))
    (GA : FnOk P w K mg base CX0 5 g4 gd4 ["_law_pot", "_law_deep"] (spAny P w 1)) (bA : Binds K gd4 ["_law_pot", "_law_deep"] []) (kA : PySem.W.keepIn K (.ref g4) = true) (gA : mg "_law_any" = some (.ref g4)) :
    FnOk P w K mg base CX0 6 f fd ["_law_pot", "_law_deep"] (spOdd P w 0) := by
  refine F.ok scOdd (fun vs H Q E h => ?_) (fun cdv A outer s H vs Q E hr h => ?_)
  · obtain ⟨p, c, rfl, _⟩ := h
    rfl
  obtain ⟨p, c, rfl, hp, hc, q⟩ := h
  have hr1 : Room 1 _ := hr.mono (by omega)
  have hr2 : Room 2 _ := hr.mono (by omega)
  have hr5 : Room 5 _ := hr.mono (by omega)
  refine ⟨_, PSs.nox (pss_cons (ps_set (i := 2) scOdd.nd rfl (Or.inl rfl) (pe_call GT hr1 rfl gT kT bT .nil pass0 (pa_cons (pv 0) (pa_cons pe_int pa_nil))))
    (pss_cons (ps_if (pt_cmpR op_eq (pv 2) pe_int (nomark _)) (pss_cons (ps_set (i := 3) scOdd.nd rfl (Or.inl rfl) (pe_lst (t := tDs P w oddsD) (pds_cons (pd_tup pds_nil) (pds_cons (pd_tup (pds_cons pd_int pds_nil))
        (pds_cons (pd_dic (key := .inl 1) (v := .int 2) pe_int pe_int (fun _ => .int 1) fun _ => .int 2) (pds_cons (pd_dic (key := .inr "") (v := .int 1) pe_str pe_int (fun _ => .str "") fun _ => .int 1)
        (pds_cons (pd_dic (key := .inr "A") (v := .int 1) pe_str pe_int (fun _ => .str "A") fun _ => .int 1) (pds_cons (pd_dic (key := .inr "abcdefghi") (v := .int 1) pe_str pe_int (fun _ => .str "abcdefghi") fun _ => .int 1)
        (pds_cons (pd_dic (key := .inr "a b") (v := .int 1) pe_str pe_int (fun _ => .str "a b") fun _ => .int 1) (pds_cons pd_dicN (pds_cons (pd_dic (key := .inr "ab1") (v := .int 0) pe_str pe_int (fun _ => .str "ab1") fun _ => .int 0) pds_nil)))))))))))
        (pss_one (ps_ret (pe_call GO hr2 rfl gO kO bO .nil pass0 (pa_cons (pv 0) (pa_cons (pv 3) pa_nil)))))) pss_nil)
    (pss_cons (ps_if (PW.pt (pw_or (pt_cmpR op_lt (pv 2) pe_int (nomark _)) (pw_or1 (pt_cmpR op_lt (pv 1) pe_int (nomark _))))) (pss_one (ps_ret (pe_call GA hr5 rfl gA kA bA .nil pass0 (pa_cons (pv 0) (pa_cons pe_int pa_nil))))) pss_nil)
    (pss_cons (ps_if (pt_cmpR op_lt (pv 2) pe_int (nomark _)) (pss_one (ps_ret pe_no)) pss_nil)
    (pss_cons (ps_set (i := 5) scOdd.nd rfl (Or.inl rfl) pe_no) (pss_one (ps_ret pe_no))))))), ?_⟩
  obtain ⟨ys0, hp0⟩ := hp.lst
  have pp := potO_pos 0
  have p1 : potA 1 = 8 := rfl
  refine ⟨_, rfl, p, 7, c, rfl, by decide, by decide, hp, by omega, fun pick H1 pk0 pk1 k1 hp1 => ?_⟩
  obtain ⟨ys1, hq1⟩ := hp1.lst
  refine ⟨_, rfl, rfl, _, rfl, ?_⟩
  refine ite2 (fun _ => ?_) (fun _ => ?_)
  · refine fun xs H2 k2 hds => ⟨by rw [hds.length]; decide, fun l hl => ?_⟩
    have hq2 := k2 _ _ hq1
    have nl : l ≠ p := fun e => by rw [e, hq2] at hl; cases hl
    have kk : Same H1 (upd H2 l (.lst xs)) := k2.trans (same_new hl _)
    have hlen : xs.length = 9 := hds.length
    refine ⟨_, rfl, _, rfl, p, l, xs, c + 1, rfl, upd_same, nl, by omega, by omega, hp1.same kk, by omega, fun x H3 hx k3 hp3 => ?_⟩
    obtain ⟨d, hd, hxd⟩ := hds.mem hx
    obtain ⟨ys3, hq3⟩ := (hp1.same kk).lst
    exact q x d H3 ((odds_dr d hd).mono (by omega) (cO_pos _) (lO_pos _)) ((hxd.kp (.new hl _)).kp (.ch k3 hq3)) (k1.trans ((Ch.same kk).trans k3)) (hp3.mono (by omega))
  have anyway : spAny P w 1 [.ref p, .int 1] H1 (fun x H' => Q x H') (fun _ _ _ => False) := ⟨p, c + 1, rfl, hp1, by omega, fun x d H' h1 h2 h3 k hp' =>
    q x d H' (h2.mono (by omega) (cO_pos _) (lO_pos _)) h3 (k1.trans k) (hp'.mono (by omega))⟩
  refine ⟨_, rfl, _, _, rfl, rfl, _, rfl, ?_⟩
  refine ite2 (fun _ => ?_) (fun _ => ?_)
  · exact iteT ⟨_, rfl, anyway⟩
  · exact ⟨_, rfl, _, _, rfl, rfl, _, rfl, ite_t (decide_eq_true (by omega)) ⟨_, rfl, anyway⟩⟩
theorem ok_oddS {n : Nat} (F : FnD K "_law_odd" 27 f fd) (B : Bl mg) (GT : FnOk P w K mg base CX0 1 g2 gd2 ["_law_pot", "_law_upto"] spTake) (bT : Binds K gd2 ["_law_pot", "_law_upto"] []) (kT : PySem.W.keepIn K (.ref g2) = true) (gT : mg "_law_take" = some (.ref g2))
    (GO : FnOk P w K mg base CX0 2 g gd ["_law_pot", "_law_some"] spOf) (bO : Binds K gd ["_law_pot", "_law_some"] []) (kO : PySem.W.keepIn K (.ref g) = true) (gO : mg "_law_of" = some (.ref g))
    (GA : FnOk P w K mg base CX0 5 g4 gd4 ["_law_pot", "_law_deep"] (spAny P w 1)) (bA : Binds K gd4 ["_law_pot", "_law_deep"] []) (kA : PySem.W.keepIn K (.ref g4) = true) (gA : mg "_law_any" = some (.ref g4))
    (GU : FnOk P w K mg base CX0 2 g3 gd3 ["_law_pot", "_law_some", "_law_many"] spUnlike) (bU : Binds K gd3 ["_law_pot", "_law_some", "_law_many"] []) (kU : PySem.W.keepIn K (.ref g3) = true) (gU : mg "_law_unlike" = some (.ref g3))
    (GR : FnOk P w K mg base CX0 (n + 6) f fd ["_law_pot", "_law_deep"] (spOdd P w n)) (bR : Binds K fd ["_law_pot", "_law_deep"] []) (gR : mg "_law_odd" = some (.ref f)) :
    FnOk P w K mg base CX0 (n + 7) f fd ["_law_pot", "_law_deep"] (spOdd P w (n + 1)) := by
  refine F.ok scOdd (fun vs H Q E h => ?_) (fun cdv A outer s H vs Q E hr h => ?_)
  · obtain ⟨p, c, rfl, _⟩ := h
    rfl
  obtain ⟨p, c, rfl, hp, hc, q⟩ := h
  have hr1 : Room 1 _ := hr.mono (by omega)
  have hr2 : Room 2 _ := hr.mono (by omega)
  have hr5 : Room 5 _ := hr.mono (by omega)
  refine ⟨_, PSs.nox (pss_cons (ps_set (i := 2) scOdd.nd rfl (Or.inl rfl) (pe_call GT hr1 rfl gT kT bT .nil pass0 (pa_cons (pv 0) (pa_cons pe_int pa_nil))))
    (pss_cons (ps_if (pt_cmpR op_eq (pv 2) pe_int (nomark _)) (pss_cons (ps_set (i := 3) scOdd.nd rfl (Or.inl rfl) (pe_lst (t := tDs P w oddsD) (pds_cons (pd_tup pds_nil) (pds_cons (pd_tup (pds_cons pd_int pds_nil))
        (pds_cons (pd_dic (key := .inl 1) (v := .int 2) pe_int pe_int (fun _ => .int 1) fun _ => .int 2) (pds_cons (pd_dic (key := .inr "") (v := .int 1) pe_str pe_int (fun _ => .str "") fun _ => .int 1)
        (pds_cons (pd_dic (key := .inr "A") (v := .int 1) pe_str pe_int (fun _ => .str "A") fun _ => .int 1) (pds_cons (pd_dic (key := .inr "abcdefghi") (v := .int 1) pe_str pe_int (fun _ => .str "abcdefghi") fun _ => .int 1)
        (pds_cons (pd_dic (key := .inr "a b") (v := .int 1) pe_str pe_int (fun _ => .str "a b") fun _ => .int 1) (pds_cons pd_dicN (pds_cons (pd_dic (key := .inr "ab1") (v := .int 0) pe_str pe_int (fun _ => .str "ab1") fun _ => .int 0) pds_nil)))))))))))
        (pss_one (ps_ret (pe_call GO hr2 rfl gO kO bO .nil pass0 (pa_cons (pv 0) (pa_cons (pv 3) pa_nil)))))) pss_nil)
    (pss_cons (ps_if (PW.pt (pw_or (pt_cmpR op_lt (pv 2) pe_int (nomark _)) (pw_or1 (pt_cmpR op_lt (pv 1) pe_int (nomark _))))) (pss_one (ps_ret (pe_call GA hr5 rfl gA kA bA .nil pass0 (pa_cons (pv 0) (pa_cons pe_int pa_nil))))) pss_nil)
    (pss_cons (ps_if (pt_cmpR op_lt (pv 2) pe_int (nomark _)) (pss_one (ps_ret
        (pe_fz (pe_lc (own := [("_law_turn", 4)]) (g := gName 4) (tt := tYes) rfl scOdd.nd (pi_range1 (by rfl) B.range (pa_cons (pe_call GT hr1 rfl gT kT bT .nil pass0 (pa_cons (pv 0) (pa_cons pe_int pa_nil))) pa_nil))
          (blkOk_by (N := ["_law_pot", "_law_deep", "_law_pick", "_law_odds", "_law_turn", "_law_fields", "_law_field"]) (sc := defScope (top 27)) (by decide +kernel))
          (fun _ _ _ _ _ => pg_name (i := 4) scOdd.nd rfl (Or.inl rfl)) (fun _ _ _ _ _ => pts_nil)
          (fun _ _ _ _ _ => pe_call GR hr rfl gR F.kp bR .nil pass0 (pa_cons (pv 0) (pa_cons (pe_op op_sub (pv 1) pe_int) pa_nil))))))) pss_nil)
    (pss_cons (ps_set (i := 5) scOdd.nd rfl (Or.inl rfl) (pe_call GU hr2 rfl gU kU bU .nil pass0 (pa_cons (pv 0) (pa_cons (pe_lst (pa_cons pe_str (pa_cons pe_str (pa_cons pe_str (pa_cons pe_str pa_nil)))))
        (pa_cons (pe_call GT hr1 rfl gT kT bT .nil pass0 (pa_cons (pv 0) (pa_cons pe_int pa_nil))) pa_nil)))))
    (pss_one (ps_ret (pe_fzK (pe_callTy (call_dictP rfl) (by rfl) B.dict (by decide +kernel) (pa_cons
        (pe_lc (own := [("_law_field", 6)]) (g := gName 6) (tt := tYes) rfl scOdd.nd (pi_list (pv 5)) (blkOk_by (N := ["_law_pot", "_law_deep", "_law_pick", "_law_odds", "_law_turn", "_law_fields", "_law_field"]) (sc := defScope (top 27)) (by decide +kernel))
          (fun _ _ _ _ _ => pg_name (i := 6) scOdd.nd rfl (Or.inl rfl)) (fun _ _ _ _ _ => pts_nil)
          (fun _ _ _ _ _ => pe_tup (pa_cons (pv 6) (pa_cons (pe_call GR hr rfl gR F.kp bR .nil pass0 (pa_cons (pv 0) (pa_cons (pe_op op_sub (pv 1) pe_int) pa_nil))) pa_nil)))) pa_nil)))))))))), ?_⟩
  obtain ⟨ys0, hp0⟩ := hp.lst
  have pp := potO_pos (n + 1)
  have p1 : potA 1 = 8 := rfl
  refine ⟨_, rfl, p, 7, c, rfl, by decide, by decide, hp, by omega, fun pick H1 pk0 pk1 k1 hp1 => ?_⟩
  obtain ⟨ys1, hq1⟩ := hp1.lst
  refine ⟨_, rfl, rfl, _, rfl, ?_⟩
  refine ite2 (fun _ => ?_) (fun _ => ?_)
  · refine fun xs H2 k2 hds => ⟨by rw [hds.length]; decide, fun l hl => ?_⟩
    have hq2 := k2 _ _ hq1
    have nl : l ≠ p := fun e => by rw [e, hq2] at hl; cases hl
    have kk : Same H1 (upd H2 l (.lst xs)) := k2.trans (same_new hl _)
    have hlen : xs.length = 9 := hds.length
    refine ⟨_, rfl, _, rfl, p, l, xs, c + 1, rfl, upd_same, nl, by omega, by omega, hp1.same kk, by omega, fun x H3 hx k3 hp3 => ?_⟩
    obtain ⟨d, hd, hxd⟩ := hds.mem hx
    obtain ⟨ys3, hq3⟩ := (hp1.same kk).lst
    exact q x d H3 ((odds_dr d hd).mono (by omega) (cO_pos _) (lO_pos _)) ((hxd.kp (.new hl _)).kp (.ch k3 hq3)) (k1.trans ((Ch.same kk).trans k3)) (hp3.mono (by omega))
  have anyway : spAny P w 1 [.ref p, .int 1] H1 (fun x H' => Q x H') (fun _ _ _ => False) := ⟨p, c + 1, rfl, hp1, by omega, fun x d H' h1 h2 h3 k hp' =>
    q x d H' (h2.mono (by omega) (cO_pos _) (lO_pos _)) h3 (k1.trans k) (hp'.mono (by omega))⟩
  refine ⟨_, rfl, _, _, rfl, rfl, _, rfl, ?_⟩
  refine ite2 (fun _ => ?_) (fun _ => ?_)
  · exact iteT ⟨_, rfl, anyway⟩
  have pS : potO (n + 1) = 6 + 3 * potO n := rfl
  have pn := potO_pos n
  refine ⟨_, rfl, _, _, rfl, rfl, _, rfl, ite_f (decide_eq_false (by omega)) ?_⟩
  refine ⟨_, rfl, _, _, rfl, rfl, _, rfl, ?_⟩
  refine ite2 (fun _ => ?_) (fun _ => ?_)
  · refine ⟨_, rfl, p, 4, c + 1, rfl, by decide, by decide, hp1, by omega, fun m H2 m0 m1 k2 hp2 => ⟨m, rfl, by omega, by omega, fun D hD => ?_⟩⟩
    obtain ⟨ys2, hq2⟩ := hp2.lst
    have nD : D ≠ p := fun e => by rw [e, hq2] at hD; cases hD
    have hDH : H D = none := by
      cases z : H D with
      | none => rfl
      | some o => rw [k2 _ _ nD (k1 _ _ nD z)] at hD; cases hD
    have em : m = ((m.toNat : Nat) : Int) := by omega
    rw [em]
    refine lc_range (lo := 0) (n := m.toNat) (fun i H3 => ∃ vs ds, H3 D = some (.lst vs) ∧ vs.length = i ∧ DaL P w H3 vs ds ∧ (∀ d ∈ ds, Dr (n + 1) (cO n) (lO n) d) ∧ Ch p H H3 ∧ PotAt H3 p (c + 2 + i * potO n))
      ⟨[], [], upd_same, rfl, .nil, (fun _ h => nomatch h), (k1.trans k2).trans (.same (same_new hD _)), (hp2.same (same_new hD _)).mono (by omega)⟩ ?_ ?_
    · rintro i H3 hi ⟨vs, ds, hD3, hvl, hda, hdr, k3, hp3⟩
      refine ⟨rfl, ?_⟩
      simp only [tYes, if_true]
      have hb : i * potO n ≤ 2 * potO n := Nat.mul_le_mul_right _ (by omega)
      refine ⟨_, rfl, _, rfl, _, _, rfl, rfl, p, c + 2 + i * potO n, ?_, hp3, by omega, fun x d H4 h2 h3 k4 hp4 => ?_⟩
      · show ([V.ref p, V.int (((n + 1 : Nat) : Int) - 1)] : List V) = [V.ref p, V.int (n : Int)]
        rw [show ((n + 1 : Nat) : Int) - 1 = (n : Int) by omega]
      obtain ⟨ys3, hq3⟩ := hp3.lst
      have kp4 : Kp H3 H4 := .ch k4 hq3
      have hD4 := k4 _ _ nD hD3
      have kl : Kp H4 (upd H4 D (.lst (vs ++ [x]))) := .lst hD4 _
      refine ⟨vs, hD4, small1000 (by omega), vs ++ [x], ds ++ [d], upd_same, by simp [hvl], (hda.kp (kp4.trans kl)).snoc (h3.kp kl), fun e he => ?_, fun b o nb e => ?_, ?_⟩
      · rcases List.mem_append.mp he with z | z
        · exact hdr e z
        · rw [List.mem_singleton.mp z]
          exact h2
      · rw [upd_ne (ne_of_none e hDH)]
        exact k4 _ _ nb (k3 _ _ nb e)
      · obtain ⟨x1, x2, x3, z1, z2, z3, z4, z5⟩ := hp4
        refine ⟨x1, x2, x3, by rw [upd_ne (Ne.symm nD)]; exact z1, z2, z3, z4, ?_⟩
        have e1 : (i + 1) * potO n = i * potO n + potO n := by rw [Nat.add_mul, Nat.one_mul]
        rw [e1]
        omega
    · rintro H3 ⟨vs, ds, hD3, hvl, hda, hdr, k3, hp3⟩
      refine ⟨D, _, rfl, hD3, trivial, fun o => ?_⟩
      have hl := hda.length
      have dl : ds.length ≤ 3 := by omega
      have kl : Kp H3 (upd H3 D (.frz o (.lst vs))) := .lst hD3 _
      have hb : m.toNat * potO n ≤ 3 * potO n := Nat.mul_le_mul_right _ (by omega)
      refine q _ (.list ds) _ ((dr_list dl (by omega) hdr).mono (Nat.le_refl _) (Nat.le_refl _) (by show _ ≤ 2 + 3 * (lO n + 14); omega)) (.lst upd_same (hda.kp kl)) (fun b o nb e => ?_) ?_
      · rw [upd_ne (ne_of_none e hDH)]
        exact k3 _ _ nb e
      · obtain ⟨x1, x2, x3, z1, z2, z3, z4, z5⟩ := hp3
        exact ⟨x1, x2, x3, by rw [upd_ne (Ne.symm nD)]; exact z1, z2, z3, z4, by omega⟩
  · refine ⟨_, rfl, (by show 4 ≤ sizeLine; decide), fun a ha => ?_⟩
    have nap : a ≠ p := fun e => by rw [e, hq1] at ha; cases ha
    refine ⟨_, rfl, p, 4, c + 1, rfl, by decide, by decide, hp1.same (same_new ha _), by omega, fun m H2 m0 m1 k2 hp2 => ?_⟩
    have ha2 : H2 a = some (.lst ((["x", "abcdefgh", "z", "open"] : List Str).map V.str)) := k2 _ _ nap upd_same
    have kH2 : Ch p H H2 := (k1.trans (.same (same_new ha _))).trans k2
    refine ⟨p, a, ["x", "abcdefgh", "z", "open"], m, c + 2, rfl, ha2, nap, by decide, m0, by omega, hp2, by omega, fun l ys H3 hl3 hl2 nlp hyl hys k3 hp3 => ?_⟩
    obtain ⟨ys3, hq3⟩ := hp3.lst
    refine ⟨_, rfl, l, rfl, ⟨_, SqL.of hl3⟩, fun D hD => ?_⟩
    have nD : D ≠ p := fun e => by rw [e, hq3] at hD; cases hD
    have nDl : D ≠ l := fun e => by rw [e, hl3] at hD; cases hD
    have hDH : H D = none := by
      cases z : H D with
      | none => rfl
      | some o => rw [k3 _ _ nD (kH2 _ _ nD z)] at hD; cases hD
    refine lc_it (walk_list (K := K) (a := l) (xs := ys.map V.str)) (fun i H4 => ∃ ts kvs, H4 D = some (.lst (ts.map V.ref)) ∧ ts.length = i ∧ Paired (fun (t : Addr) (kv : Key × V) => H4 t = some (.tup [kV kv.1, kv.2])) ts kvs ∧
        (∀ kv ∈ kvs, RE P w KPn (fun d => Dr (n + 1) (cO n) (lO n) d) H4 kv) ∧ H4 l = some (.lst (ys.map V.str)) ∧ Ch p H H4 ∧ PotAt H4 p (c + 2 + m.toNat + i * potO n))
      ⟨[], [], upd_same, rfl, .nil, (fun _ h => nomatch h), by rw [upd_ne (Ne.symm nDl)]; exact hl3, (kH2.trans k3).trans (.same (same_new hD _)), (hp3.same (same_new hD _)).mono (by omega)⟩ (fun _ H4 _ z => by obtain ⟨_, _, _, _, _, _, z, _⟩ := z; exact SqL.of z) ?_ ?_
    · rintro i v H4 H4' hi ⟨ts, kvs, hD4, htl, hpr, hre, hl4, k4, hp4⟩ ⟨rfl, hv⟩
      rw [List.length_map] at hi
      rw [List.getElem?_map, List.getElem?_eq_getElem hi] at hv
      cases hv
      refine ⟨rfl, ?_⟩
      simp only [tYes, if_true]
      have hb : i * potO n ≤ 2 * potO n := Nat.mul_le_mul_right _ (by omega)
      refine ⟨_, rfl, _, rfl, _, rfl, _, _, rfl, rfl, p, c + 2 + m.toNat + i * potO n, ?_, hp4, by omega, fun x d H5 h2 h3 k5 hp5 => ⟨(by show 2 ≤ sizeLine; decide), fun t ht => ?_⟩⟩
      · show ([V.ref p, V.int (((n + 1 : Nat) : Int) - 1)] : List V) = [V.ref p, V.int (n : Int)]
        rw [show ((n + 1 : Nat) : Int) - 1 = (n : Int) by omega]
      obtain ⟨ys4, hq4⟩ := hp4.lst
      have kp5 : Kp _ H5 := .ch k5 hq4
      have hD5 := k5 _ _ nD hD4
      have ntD : D ≠ t := ne_of_none hD5 ht
      have k6 := same_new ht (.tup [V.str ys[i], x])
      have hD6 := k6 _ _ hD5
      have kl : Kp (upd H5 t (.tup [V.str ys[i], x])) (upd (upd H5 t (.tup [V.str ys[i], x])) D (.lst (ts.map V.ref ++ [V.ref t]))) := .lst hD6 _
      have kall := kp5.trans ((Kp.same k6).trans kl)
      refine ⟨_, hD6, small1000 (by rw [List.length_map]; omega), ts ++ [t], kvs ++ [(Sum.inr ys[i], x)], by rw [upd_same, List.map_append]; rfl, by simp [htl], ?_, fun kv hkv => ?_, ?_, fun b o nb e => ?_, ?_⟩
      · refine paired_append (Paired.mapP hpr fun t kv z => kall.1 _ _ z) (.cons ?_ .nil)
        rw [upd_ne (Ne.symm ntD)]
        exact upd_same
      · rcases List.mem_append.mp hkv with z | z
        · exact (hre kv z).kp kall
        · rw [List.mem_singleton.mp z]
          exact ⟨ys[i], d, rfl, kp_of (List.all_eq_true.mp fourO_ok _ (hys _ (List.getElem_mem hi))), h3.kp ((Kp.same k6).trans kl), h2⟩
      · rw [upd_ne (Ne.symm nDl)]
        exact k6 _ _ (k5 _ _ nlp hl4)
      · rw [upd_ne (ne_of_none e hDH)]
        exact k6 _ _ (k5 _ _ nb (k4 _ _ nb e))
      · obtain ⟨x1, x2, x3, z1, z2, z3, z4, z5⟩ := hp5
        refine ⟨x1, x2, x3, by rw [upd_ne (Ne.symm nD)]; exact k6 _ _ z1, z2, z3, z4, ?_⟩
        have e1 : (i + 1) * potO n = i * potO n + potO n := by rw [Nat.add_mul, Nat.one_mul]
        rw [e1]
        omega
    · rintro H4 ⟨ts, kvs, hD4, htl, hpr, hre, hl4, k4, hp4⟩
      rw [List.length_map] at htl hp4
      refine ⟨D, ts, kvs, rfl, SqL.of hD4, Paired.mapP hpr fun t kv z => SqT.of z, fun pd hpd => ⟨pd, _, rfl, upd_same, fun nd o => ?_⟩⟩
      obtain ⟨ds, hda, hdl, hnd, hds⟩ := made_dict (o := o) hpd hre rfl nd
      have hkl : kvs.length = ts.length := (Paired.length hpr).symm
      have dl : ds.length ≤ 3 := by omega
      obtain ⟨ys4, hq4⟩ := hp4.lst
      have npd : pd ≠ p := fun e => by rw [e, hq4] at hpd; cases hpd
      have hb : ys.length * potO n ≤ m.toNat * potO n := Nat.mul_le_mul_right _ hyl
      have hb2 : m.toNat * potO n ≤ 3 * potO n := Nat.mul_le_mul_right _ (by omega)
      refine q _ (.dict ds) _ (dr_dict dl (by omega) hnd fun p hp => ?_) hda (fun b o' nb e => ?_) ?_
      · obtain ⟨s, e, hk, h2⟩ := hds p hp
        exact ⟨keyN_of (ds := ds) e hk, h2⟩
      · rw [upd_upd]
        exact (same_new hpd _) _ _ (k4 _ _ nb e)
      · rw [upd_upd]
        exact (hp4.same (same_new hpd _)).mono (by omega)
end
end K00
set_option Elab.async false
set_option linter.all false
set_option maxRecDepth 100000
set_option maxHeartbeats 8000000
/-! K01C: _law_is_one, _law_parts. -/
namespace K00
open PySem PySem.Spec L2
open PyProof.Rows (envOfC sortedS)
theorem depth_in {n : Nat} : ∀ {xs : List PyData} {x : PyData}, x ∈ xs → x.depth ≤ PyData.depthAll xs
  | y :: r, x, h => by
    simp only [PyData.depthAll]
    rcases List.mem_cons.mp h with e | h
    · rw [e]; omega
    · have := depth_in (n := n) h; omega
theorem depth_inK : ∀ {ds : List (PyData × PyData)} {p : PyData × PyData}, p ∈ ds → p.1.depth ≤ PyData.depthKv ds ∧ p.2.depth ≤ PyData.depthKv ds
  | (a, b) :: r, p, h => by
    simp only [PyData.depthKv]
    rcases List.mem_cons.mp h with e | h
    · rw [e]
      simp only
      omega
    · have := depth_inK h; omega
theorem depth_kids {d x : PyData} (h : x ∈ kids d) : x.depth < d.depth := by
  cases d with
  | list xs =>
    have := depth_in (n := 0) (show x ∈ xs from h)
    simp only [PyData.depth]
    omega
  | dict ds =>
    obtain ⟨p, hp, rfl⟩ := List.mem_map.mp (show x ∈ ds.map (·.2) from h)
    have := (depth_inK hp).2
    simp only [PyData.depth]
    omega
  | _ => exact nomatch h
theorem isOne_all (ds : List (PyData × PyData)) : isOne (.dict ds) = ds.all fun p => keyB p.1 && isOne p.2 := by
  rw [isOne]
  induction ds with
  | nil => rfl
  | cons p r ih =>
    obtain ⟨a, b⟩ := p
    rw [isOneK, ih, List.all_cons]
theorem isOne_allL (xs : List PyData) : isOne (.list xs) = xs.all isOne := by rw [isOne, isOneL_eq]
/-- isinstance(x, (T1, T2, ..)), built-in classes -/
def kitAnyB (t : String) : List String → Option Bool
  | [] => some false
  | c :: r => match kitB t c with
    | some true => some true
    | some false => kitAnyB t r
    | none => none
theorem kit_any {K : PySem.W.Frag} {t : String} : ∀ {Ts : List String} {b : Bool}, kitAnyB t Ts = some b → PySem.W.kitAny K (.type t) (Ts.map Value.type) = some b
  | [], b, h => h
  | c :: r, b, h => by
    unfold kitAnyB at h
    show (match PySem.W.kitOne K (.type t) (.type c) with | some true => some true | some false => PySem.W.kitAny K (.type t) (r.map Value.type) | none => none) = some b
    cases e : kitB t c with
    | none => rw [e] at h; cases h
    | some v =>
      rw [e] at h
      rw [kit_ty e]
      cases v with
      | true => exact h
      | false => exact kit_any h
def rIsDaT (P : Program) (w : World) : List V → Hp → VK → Prop := fun xs H Q => ∃ (x : V) (tp : Addr) (Ts : List String) (d : PyData) (b : Bool), xs = [x, .ref tp] ∧ H tp = some (.tup (Ts.map V.ty)) ∧ Da P w H x d ∧ kitAnyB (tyD d) Ts = some b ∧ Q (.bl b) H
theorem ty_cls : ∀ Ts : List String, Paired ClsV (Ts.map V.ty) (Ts.map Value.type)
  | [] => .nil
  | t :: r => .cons (.ty t) (ty_cls r)
theorem call_isDaT {X : Cx} : CallR X (.builtin "isinstance") (rIsDaT X.prog X.w) := by
  intro pins s σ H xs us Q I r h
  obtain ⟨x, tp, Ts, d, b, rfl, hT, hd, e, q⟩ := h
  obtain ⟨u1, u2, rfl, r1, r2⟩ := vals2 r
  cases (show u2 = Value.ref tp from r2)
  obtain ⟨Pz, Z, p, hx⟩ := kit_da I hd r1
  obtain ⟨_, its, rv, o, h1, h2, n, h3⟩ := (show ObjOk X.prog X.w H s.heap tp (.tup (Ts.map V.ty)) from I.hok tp _ hT)
  have e3 := ClsV.all (ty_cls Ts) rv
  subst e3
  obtain ⟨oc, od, dt, sl⟩ := o
  simp only at h2 h3
  subst h2 h3
  exact PySem.W.kia_tup Z I.kIn p h1 (kit_any e) hx fun tk => ⟨.bl b, H, I.tok tk, rfl, q⟩
def isFlat : PyData → Bool
  | .bool _ => true
  | .int _ => true
  | .str _ => true
  | _ => false
theorem kt_3 (d : PyData) : kitAnyB (tyD d) ["bool", "int", "str"] = some (isFlat d) := by cases d <;> (dsimp only [tyD, isFlat]; decide +kernel)
section
variable {P : Program} {w : World} {K : PySem.W.Frag} {mg : Str → Option Value} {base : Heap} {f g g2 g3 : Addr} {fd gd gd2 gd3 : FuncData}
theorem fn_no {k : Nat} {ps : List Str} {sp : Sp} (h : ∀ vs H Q E, sp vs H Q E → False) : FnOk P w K mg base CX0 k f fd ps sp := ⟨fun vs H Q E z => (h _ _ _ _ z).elim, fun _ _ _ _ _ _ _ _ _ _ _ _ _ z => (h _ _ _ _ z).elim⟩
/-! ### _law_is_one -/
def spOne (P : Program) (w : World) (n : Nat) : Sp := fun vs H Q _ => ∃ (x : V) (d : PyData), vs = [x] ∧ Da P w H x d ∧ Sm d ∧ d.depth < n ∧ ∀ H', Same H H' → Q (.bl (isOne d)) H'
theorem scOne : FnScope ["_law_value", "_law_part", "_law_field", "_law_sign"] ["_law_value"] (defScope (top 25)) := ⟨rfl, rfl, rfl, by decide +kernel, rfl, by decide +kernel, by decide +kernel⟩
theorem ok_one {n : Nat} (F : FnD K "_law_is_one" 25 f fd) (B : Bl mg) (GR : FnOk P w K mg base CX0 n f fd ["_law_value"] (spOne P w n)) (bR : Binds K fd ["_law_value"] []) (gR : mg "_law_is_one" = some (.ref f)) :
    FnOk P w K mg base CX0 (n + 1) f fd ["_law_value"] (spOne P w (n + 1)) := by
  refine F.ok scOne (fun vs H Q E h => ?_) (fun cdv A outer s H vs Q E hr h => ?_)
  · obtain ⟨x, d, rfl, _⟩ := h
    rfl
  obtain ⟨x, d, rfl, hd, hs, hn, q⟩ := h
  refine ⟨_, PSs.nox (pss_cons (ps_if (pt_val (pe_callB call_isDa (by rfl) B.isi (by decide +kernel) (pa_cons (pv 0) (pa_cons (pe_bltn (v := .ty "list") (by rfl) B.list (by decide +kernel) rfl) pa_nil)))) (pss_one (ps_ret
        (pe_callB (cr_all rfl) (by rfl) B.all (by decide +kernel) (pa_cons (pe_lc (own := [("_law_part", 1)]) (g := gName 1) (tt := tYes) rfl scOne.nd (pi_list (pv 0)) (blkOk_by (N := ["_law_value", "_law_part", "_law_field", "_law_sign"]) (sc := defScope (top 25)) (by decide +kernel))
          (fun _ _ _ _ _ => pg_name (i := 1) scOne.nd rfl (Or.inl rfl)) (fun _ _ _ _ _ => pts_nil) (fun _ _ _ _ _ => pe_call GR hr rfl gR F.kp bR .nil pass0 (pa_cons (pv 1) pa_nil))) pa_nil)))) pss_nil)
    (pss_cons (ps_if (pt_val (pe_callB call_isDa (by rfl) B.isi (by decide +kernel) (pa_cons (pv 0) (pa_cons (pe_bltn (v := .ty "dict") (by rfl) B.dict (by decide +kernel) rfl) pa_nil))))
        (pss_cons (ps_for PassesOwn.never rfl (pi_itemsD (pv 0)) (pg_tup (by rfl) (pgs_cons (pg_name (i := 2) scOne.nd rfl (Or.inl rfl)) (pgs_cons (pg_name (i := 1) scOne.nd rfl (Or.inl rfl)) pgs_nil)))
          (pss_cons (ps_if (PW.pt (pw_or (pt_not (pt_val (pe_callB call_isDa (by rfl) B.isi (by decide +kernel) (pa_cons (pv 2) (pa_cons (pe_bltn (v := .ty "str") (by rfl) B.str (by decide +kernel) rfl) pa_nil)))))
              (pw_or (pt_not (pt_chain op_le op_le pe_int (pe_callB call_len_str (by rfl) B.len PySem.boot_len (pa_cons (pv 2) pa_nil)) pe_int))
              (pw_or1 (pt_not (pt_val (pe_call GR hr rfl gR F.kp bR .nil pass0 (pa_cons (pv 1) pa_nil)))))))) (pss_one (ps_ret pe_bl)) pss_nil)
          (pss_one (ps_if (pt_not (pt_val (pe_callB (cr_all rfl) (by rfl) B.all (by decide +kernel) (pa_cons
              (pe_lc (own := [("_law_sign", 3)]) (g := gName 3) (tt := tYes) rfl scOne.nd (pi_str (pv 2)) (blkOk_by (N := ["_law_value", "_law_part", "_law_field", "_law_sign"]) (sc := defScope (top 25)) (by decide +kernel))
                (fun _ _ _ _ _ => pg_name (i := 3) scOne.nd rfl (Or.inl rfl)) (fun _ _ _ _ _ => pts_nil) (fun _ _ _ _ _ => pe_cmpR op_in_sign (pv 3) pe_str (by rfl))) pa_nil)))) (pss_one (ps_ret pe_bl)) pss_nil))))
        (pss_one (ps_ret pe_bl))) pss_nil)
    (pss_one (ps_ret (pe_or (pe_cmpR op_isN (pv 0) pe_non (nomark _)) (pe_one (pe_callB call_isDaT (by rfl) B.isi (by decide +kernel) (pa_cons (pv 0) (pa_cons (pe_tup
        (pa_cons (pe_bltn (v := .ty "bool") (by rfl) B.bool (by decide +kernel) rfl) (pa_cons (pe_bltn (v := .ty "int") (by rfl) B.int (by decide +kernel) rfl) (pa_cons (pe_bltn (v := .ty "str") (by rfl) B.str (by decide +kernel) rfl) pa_nil)))) pa_nil))))))))), ?_⟩
  have hd0 := hd
  have fin : ∀ (tp : Addr) (htp : H tp = none), rIsDaT P w [x, .ref tp] (upd H tp (.tup [.ty "bool", .ty "int", .ty "str"])) (fun v H' => v = .bl (isFlat d) ∧ H' = upd H tp (.tup [.ty "bool", .ty "int", .ty "str"])) := fun tp htp =>
    ⟨x, tp, ["bool", "int", "str"], d, _, rfl, upd_same, hd0.kp (.new htp _), kt_3 d, rfl, rfl⟩
  cases hd with
  | non => exact ⟨_, rfl, _, "list", _, _, rfl, .non, kt_l _, _, rfl, iteF ⟨_, rfl, _, "dict", _, _, rfl, .non, kt_k _, _, rfl, iteF ⟨_, rfl, rfl, _, rfl, iteT (q H (same_refl H))⟩⟩⟩
  | bl b => exact ⟨_, rfl, _, "list", _, _, rfl, .bl b, kt_l _, _, rfl, iteF ⟨_, rfl, _, "dict", _, _, rfl, .bl b, kt_k _, _, rfl, iteF ⟨_, rfl, rfl, _, rfl, iteF ⟨_, rfl, (by show 3 ≤ sizeLine; decide), fun tp htp => ⟨_, tp, ["bool", "int", "str"], _, _, rfl, upd_same, .bl b, kt_3 _, q _ (same_new htp _)⟩⟩⟩⟩⟩
  | int b => exact ⟨_, rfl, _, "list", _, _, rfl, .int b, kt_l _, _, rfl, iteF ⟨_, rfl, _, "dict", _, _, rfl, .int b, kt_k _, _, rfl, iteF ⟨_, rfl, rfl, _, rfl, iteF ⟨_, rfl, (by show 3 ≤ sizeLine; decide), fun tp htp => ⟨_, tp, ["bool", "int", "str"], _, _, rfl, upd_same, .int b, kt_3 _, q _ (same_new htp _)⟩⟩⟩⟩⟩
  | str b => exact ⟨_, rfl, _, "list", _, _, rfl, .str b, kt_l _, _, rfl, iteF ⟨_, rfl, _, "dict", _, _, rfl, .str b, kt_k _, _, rfl, iteF ⟨_, rfl, rfl, _, rfl, iteF ⟨_, rfl, (by show 3 ≤ sizeLine; decide), fun tp htp => ⟨_, tp, ["bool", "int", "str"], _, _, rfl, upd_same, .str b, kt_3 _, q _ (same_new htp _)⟩⟩⟩⟩⟩
  | tup h r => exact ⟨_, rfl, _, "list", _, _, rfl, .tup h r, kt_l _, _, rfl, iteF ⟨_, rfl, _, "dict", _, _, rfl, .tup h r, kt_k _, _, rfl, iteF ⟨_, rfl, rfl, _, rfl, iteF ⟨_, rfl, (by show 3 ≤ sizeLine; decide), fun tp htp => ⟨_, tp, ["bool", "int", "str"], _, _, rfl, upd_same, hd0.kp (.new htp _), kt_3 _, q _ (same_new htp _)⟩⟩⟩⟩⟩
  | @lst a o xs ds h r =>
    refine ⟨_, rfl, _, "list", _, _, rfl, .lst h r, kt_l _, _, rfl, iteT ⟨_, rfl, a, rfl, ⟨_, .inl (.inr ⟨o, h⟩)⟩, fun D hD => ?_⟩⟩
    have hl := r.length
    have l1 := hs.1
    refine lc_it (walk_list (K := K) (a := a) (xs := xs)) (fun i H2 => Same H H2 ∧ H2 D = some (.lst (((ds.take i).map isOne).map V.bl))) ⟨same_new hD _, upd_same⟩ (fun _ H2 _ z => .inl (.inr ⟨o, z.1 _ _ h⟩)) ?_ ?_
    · rintro i v H2 H2' hi ⟨k2, hD2⟩ ⟨rfl, hv⟩
      obtain ⟨p, hpi, hvp⟩ := r.get hv
      have hm := List.mem_of_getElem? hpi
      refine ⟨rfl, ?_⟩
      simp only [tYes, if_true]
      refine ⟨_, rfl, v, p, rfl, hvp.kp (.same k2), sm_kids hs p hm, by have := depth_kids (d := .list ds) hm; omega, fun H3 k3 => ⟨_, k3 _ _ hD2, ?_, fun b o' e => ?_, ?_⟩⟩
      · rw [List.length_map, List.length_map, List.length_take]
        exact small1000 (by omega)
      · have nb : b ≠ D := ne_of_none e hD
        rw [upd_ne nb]
        exact k3 _ _ (k2 _ _ e)
      · rw [upd_same, List.take_add_one, hpi]
        simp
    · rintro H2 ⟨k2, hD2⟩
      rw [hl, List.take_length] at hD2
      refine ⟨D, _, rfl, SqL.of hD2, ?_⟩
      have e : (ds.map isOne).all id = isOne (.list ds) := by rw [isOne_allL, List.all_map]; rfl
      rw [e]
      exact q H2 k2
  | @dic a o es ds h r =>
    refine ⟨_, rfl, _, "list", _, _, rfl, .dic h r, kt_l _, _, rfl, iteF ⟨_, rfl, _, "dict", _, _, rfl, .dic h r, kt_k _, _, rfl, iteT ⟨_, rfl, a, o, es, rfl, h, ?_⟩⟩⟩
    have hl := r.length
    obtain ⟨s1, s2, s3⟩ := hs
    refine for_it walk_itemsD (fun i σ H2 => (∃ pv' fv sv : Option V, σ = [some (.ref a), pv', fv, sv]) ∧ Same H H2 ∧ (ds.take i).all (fun p => keyB p.1 && isOne p.2) = true) ⟨⟨_, _, _, rfl⟩, same_refl _, rfl⟩ (fun _ _ H2 _ z => h.kp (.same z.2.1)) ?_ ?_
    · rintro i v σ H2 H2' hi ⟨⟨pv', fv, sv, rfl⟩, k2, hall⟩ ⟨T, p, hp, rfl, hT, rfl⟩
      obtain ⟨dd, hdd, hk1, hv1⟩ := r.get hp
      have hm := List.mem_of_getElem? hdd
      have kT : Same H (upd H2 T (.tup [p.1, p.2])) := k2.trans (same_new hT _)
      obtain ⟨sk, sv'⟩ := smK_iff.mp s3 dd hm
      have bad : (keyB dd.1 && isOne dd.2) = false → isOne (.dict ds) = false := fun z => by
        rw [isOne_all]
        refine Bool.eq_false_iff.mpr fun y => ?_
        rw [List.all_eq_true.mp y dd hm] at z
        cases z
      refine ⟨T, [p.1, p.2], rfl, SqT.of upd_same, rfl, p.1, [p.2], rfl, p.2, [], rfl, rfl, ?_⟩
      refine ⟨_, rfl, p.1, "str", dd.1, _, rfl, hk1.kp (.same kT), kt_s _, _, rfl, ?_⟩
      have tail : ∀ {H3 : Hp}, Same H H3 → isOne (.dict ds) = false → Q (.bl false) H3 := fun k3 z => by
        rw [← z]
        exact q _ k3
      generalize hx1 : p.1 = x1 at hk1 kT ⊢
      obtain ⟨d1, d2⟩ := dd
      dsimp only at hk1 hv1 sk sv' bad
      cases hk1 with
      | str y =>
        have hy : y.length ≤ 1000 := sk.1
        refine iteF ⟨_, rfl, y, rfl, Nat.le_of_lt (small1000 hy), _, _, rfl, rfl, _, rfl, ?_⟩
        refine ite2 (fun c1 => ⟨_, _, rfl, rfl, _, rfl, ite2 (fun c => ?_) (fun c => ?_)⟩) (fun c1 => ⟨_, rfl, iteT ?_⟩)
        · have c' : decide ((y.length : Int) ≤ 8) = false := by simpa using c
          refine tail kT (bad ?_)
          have : decide (y.length ≤ 8) = false := by
            have := of_decide_eq_false c'
            exact decide_eq_false (by omega)
          show (nameB y && isOne d2) = false
          unfold nameB
          rw [this]
          simp
        · have c' : decide ((y.length : Int) ≤ 8) = true := by simpa using c
          have b8 : y.length ≤ 8 := by have := of_decide_eq_true c'; omega
          have b1 : 1 ≤ y.length := by have := of_decide_eq_true c1; omega
          refine ⟨_, rfl, p.2, d2, rfl, hv1.kp (.same kT), sv', ?_, fun H3 k3 => ⟨_, rfl, ?_⟩⟩
          · have := depth_kids (d := .dict ds) (x := d2) (List.mem_map.mpr ⟨(PyData.str y, d2), hm, rfl⟩)
            omega
          have k03 := kT.trans k3
          refine ite2 (fun c2 => ?_) (fun c2 => ?_)
          · have o2 : isOne d2 = false := by simpa using c2
            refine tail k03 (bad ?_)
            rw [o2]
            simp
          have o2 : isOne d2 = true := by simpa using c2
          refine ⟨_, rfl, y, rfl, fun D hD => ?_⟩
          refine lc_it (walk_str (z := y)) (fun i H4 => Same H3 H4 ∧ H4 D = some (.lst (((y.cps.toList.take i).map fun c => decide (c ∈ LET.cps.toList)).map V.bl))) ⟨same_new hD _, upd_same⟩ (fun _ _ _ _ => trivial) ?_ ?_
          · rintro i v H4 H4' hi ⟨k4, hD4⟩ ⟨rfl, c, hc, rfl⟩
            refine ⟨rfl, ?_⟩
            simp only [tYes, if_true]
            have hc' : y.cps.toList[i]? = some c := by rw [Array.getElem?_toList]; exact hc
            have hlen : y.cps.size = y.length := rfl
            refine ⟨_, rfl, c, LET, rfl, rfl, _, hD4, ?_, fun b o' e => ?_, ?_⟩
            · rw [List.length_map, List.length_map, List.length_take]
              exact small1000 (by omega)
            · have nb : b ≠ D := ne_of_none e hD
              rw [upd_ne nb]
              exact k4 _ _ e
            · rw [upd_same, List.take_add_one, hc']
              simp
          · rintro H4 ⟨k4, hD4⟩
            refine ⟨D, _, rfl, SqL.of hD4, _, rfl, ?_⟩
            have en : nameB y = (((y.cps.toList.take y.cps.size).map fun c => decide (c ∈ LET.cps.toList)).all id) := by
              unfold nameB
              rw [decide_eq_true b1, decide_eq_true b8]
              simp only [Bool.true_and]
              rw [List.take_of_length_le (by simp), List.all_map]
              congr 1
              funext c
              simp [List.contains_eq_mem]
            rw [← en]
            refine ite2 (fun c3 => ?_) (fun c3 => ?_)
            · have n2 : nameB y = false := by simpa using c3
              refine tail (k03.trans k4) (bad ?_)
              show (nameB y && isOne d2) = false
              rw [n2]
              rfl
            · have n2 : nameB y = true := by simpa using c3
              refine ⟨⟨_, _, _, rfl⟩, k03.trans k4, ?_⟩
              rw [List.take_add_one, hdd, List.all_append, hall]
              show (true && ((nameB y && isOne d2) && true)) = true
              rw [n2, o2]
              rfl
        · refine tail kT (bad ?_)
          have : decide (1 ≤ y.length) = false := by
            have c1' : decide (1 ≤ (y.length : Int)) = false := by simpa using c1
            have := of_decide_eq_false c1'
            exact decide_eq_false (by omega)
          show (nameB y && isOne d2) = false
          unfold nameB
          rw [this]
          simp
      | non => exact iteT (tail kT (bad rfl))
      | bl b => exact iteT (tail kT (bad rfl))
      | int b => exact iteT (tail kT (bad rfl))
      | lst h1 r1 => exact iteT (tail kT (bad rfl))
      | tup h1 r1 => exact iteT (tail kT (bad rfl))
      | dic h1 r1 => exact iteT (tail kT (bad rfl))
    · rintro σ H2 ⟨⟨pv', fv, sv, rfl⟩, k2, hall⟩
      rw [hl, List.take_length, ← isOne_all] at hall
      show Q (.bl true) H2
      rw [← hall]
      exact q H2 k2
end
end K00
set_option Elab.async false
set_option linter.all false
set_option maxRecDepth 100000
set_option maxHeartbeats 8000000
/-! K01D: _law_parts. -/
namespace K00
open PySem PySem.Spec L2
open PyProof.Rows (envOfC sortedS)
theorem perm_sum {xs ys : List Nat} (h : xs.Perm ys) : xs.sum = ys.sum := by
  induction h with
  | nil => rfl
  | cons x _ ih => simp [ih]
  | swap x y l => simp; omega
  | trans _ _ h1 h2 => exact h1.trans h2
theorem sum_look {ds : List (PyData × PyData)} {ys : List Str} (n : (ds.map fun p => kS p.1).Nodup) (hp : ys.Perm (ds.map fun p => kS p.1)) : (ys.map fun k => cnt (lookD ds k)).sum = (ds.map fun p => cnt p.2).sum := by
  rw [perm_sum (hp.map fun k => cnt (lookD ds k)), List.map_map]
  congr 1
  refine List.map_congr_left fun p hpm => ?_
  show cnt (lookD ds (kS p.1)) = cnt p.2
  rw [lookD_of n hpm]
theorem int_sum : ∀ xs : List Nat, (xs.map (fun i : Nat => (i : Int))).sum = ((xs.sum : Nat) : Int)
  | [] => rfl
  | x :: r => by rw [List.map_cons, List.sum_cons, List.sum_cons, int_sum r]; push_cast; rfl
/-- the values by the sorted keys -/
theorem look_all {P : Program} {w : World} {H : Hp} {kvs : List (Key × V)} {ds : List (PyData × PyData)} {k : Str} (r : DaE P w H (kvs.map fun p => (kV p.1, p.2)) ds) (e : kvs.map (·.1) = (ds.map fun p => kS p.1).map Sum.inr)
    (n : (ds.map fun p => kS p.1).Nodup) (hk : k ∈ ds.map fun p => kS p.1) : ∃ v p, valV kvs (Sum.inr k) = some v ∧ p ∈ ds ∧ kS p.1 = k ∧ lookD ds k = p.2 ∧ Da P w H v p.2 := by
  obtain ⟨v, h1, h2⟩ := look_val r e hk
  obtain ⟨p, h3, h4, h5⟩ := lookD_mem hk
  rw [h5] at h2
  exact ⟨v, p, h1, h3, h4, h5, h2⟩
section
variable {P : Program} {w : World} {K : PySem.W.Frag} {mg : Str → Option Value} {base : Heap} {f g g2 g3 : Addr} {fd gd gd2 gd3 : FuncData}
def spLParts (P : Program) (w : World) (n : Nat) : Sp := fun vs H Q _ => ∃ (x : V) (d : PyData), vs = [x] ∧ Da P w H x d ∧ Sm d ∧ isOne d = true ∧ d.depth < n ∧ ∀ H', Same H H' → Q (.int (cnt d : Nat)) H'
theorem scLParts : FnScope ["_law_document", "_law_some", "_law_field", "_law_part"] ["_law_document"] (defScope (top 26)) := ⟨rfl, rfl, rfl, by decide +kernel, rfl, by decide +kernel, by decide +kernel⟩
theorem ok_lparts {n : Nat} (F : FnD K "_law_parts" 26 f fd) (B : Bl mg) (GR : FnOk P w K mg base CX0 n f fd ["_law_document"] (spLParts P w n)) (bR : Binds K fd ["_law_document"] []) (gR : mg "_law_parts" = some (.ref f)) :
    FnOk P w K mg base CX0 (n + 1) f fd ["_law_document"] (spLParts P w (n + 1)) := by
  refine F.ok scLParts (fun vs H Q E h => ?_) (fun cdv A outer s H vs Q E hr h => ?_)
  · obtain ⟨x, d, rfl, _⟩ := h
    rfl
  obtain ⟨x, d, rfl, hd, hs, od, hn, q⟩ := h
  have hu := hu_of hr
  refine ⟨_, PSs.nox (pss_cons (ps_set (i := 1) scLParts.nd rfl (Or.inl rfl) (pe_lst pa_nil))
    (pss_cons (ps_if (pt_val (pe_callB call_isDa (by rfl) B.isi (by decide +kernel) (pa_cons (pv 0) (pa_cons (pe_bltn (v := .ty "list") (by rfl) B.list (by decide +kernel) rfl) pa_nil)))) (pss_one (ps_set (i := 1) scLParts.nd rfl (Or.inl rfl) (pv 0))) pss_nil)
    (pss_cons (ps_if (pt_val (pe_callB call_isDa (by rfl) B.isi (by decide +kernel) (pa_cons (pv 0) (pa_cons (pe_bltn (v := .ty "dict") (by rfl) B.dict (by decide +kernel) rfl) pa_nil)))) (pss_one
        (ps_setLc (i := 1) (own := [("_law_field", 2)]) (g := gName 2) (tt := tYes) rfl scLParts.nd rfl rfl (sw_true rfl rfl rfl (by decide +kernel)) (pi_list (pe_callB (call_sortedD rfl) (by rfl) B.sorted (by decide +kernel) (pa_cons (pv 0) pa_nil)))
          (blkOk_by (N := ["_law_document", "_law_some", "_law_field", "_law_part"]) (sc := defScope (top 26)) (by decide +kernel))
          (fun _ _ _ _ _ => pg_name (i := 2) scLParts.nd rfl (Or.inl rfl)) (fun _ _ _ _ _ => pts_nil) (fun _ _ _ _ _ => pe_dget hu (pv 0) (pv 2) (fun _ _ => rfl)))) pss_nil)
    (pss_one (ps_ret (pe_op op_add pe_int (pe_callB (cr_sum rfl) (by rfl) B.sum (by decide +kernel) (pa_cons
        (pe_lc (own := [("_law_part", 3)]) (g := gName 3) (tt := tYes) rfl scLParts.nd (pi_list (pv 1)) (blkOk_by (N := ["_law_document", "_law_some", "_law_field", "_law_part"]) (sc := defScope (top 26)) (by decide +kernel))
          (fun _ _ _ _ _ => pg_name (i := 3) scLParts.nd rfl (Or.inl rfl)) (fun _ _ _ _ _ => pts_nil) (fun _ _ _ _ _ => pe_call GR hr rfl gR F.kp bR .nil pass0 (pa_cons (pv 3) pa_nil))) pa_nil)))))))), ?_⟩
  refine ⟨(by show 0 ≤ sizeLine; decide), fun l0 hl0 => ?_⟩
  have k0 := same_new hl0 (.lst [])
  have hd0 := hd.kp (.same k0)
  refine ⟨_, rfl, x, "list", d, _, rfl, hd0, kt_l d, _, rfl, ?_⟩
  have hcase : (isL d = false ∧ isK d = false) ∨ (∃ xs, d = .list xs) ∨ ∃ ds, d = .dict ds := by
    cases d with
    | list xs => exact .inr (.inl ⟨xs, rfl⟩)
    | dict ds => exact .inr (.inr ⟨ds, rfl⟩)
    | _ => exact .inl ⟨rfl, rfl⟩
  rcases hcase with ⟨i1, i2⟩ | ⟨xs0, rfl⟩ | ⟨ds, rfl⟩
  case' inl =>
    refine ite_f i1 ⟨_, rfl, x, "dict", d, _, rfl, hd0, kt_k d, _, rfl, ite_f i2 ?_⟩
    have hk : kids d = [] := by cases d <;> first | rfl | exact (Bool.false_ne_true i1.symm).elim | exact (Bool.false_ne_true i2.symm).elim
    have fin : ∃ (H1 : Hp) (l : Addr) (vs : List V) (ps : List PyData), H1 = upd H l0 (.lst []) ∧ l = l0 ∧ Same H H1 ∧ SqL K H1 l vs ∧ DaL P w H1 vs ps ∧ (∀ p ∈ ps, Sm p ∧ isOne p = true ∧ p.depth < n) ∧ 1 + (ps.map cnt).sum = cnt d ∧ ps.length ≤ 1000 :=
      ⟨_, l0, [], [], rfl, rfl, k0, SqL.of upd_same, .nil, (fun _ h => nomatch h), by rw [cnt_kids, hk], by decide⟩
    obtain ⟨H1, l, vs, ps, eH, el, k1, hl, hda, hps, hsum, hlen⟩ := fin
    subst el
    rw [← eH]
  case' inr.inl =>
    have od' := od
    cases hd0
    rename_i a o xs h r
    refine iteT ⟨_, rfl, _, rfl, _, "dict", _, _, rfl, .lst h r, kt_k _, _, rfl, iteF ?_⟩
    have fin : ∃ (H1 : Hp) (l : Addr) (vs : List V) (ps : List PyData), H1 = upd H l0 (.lst []) ∧ l = a ∧ Same H H1 ∧ SqL K H1 l vs ∧ DaL P w H1 vs ps ∧ (∀ p ∈ ps, Sm p ∧ isOne p = true ∧ p.depth < n) ∧ 1 + (ps.map cnt).sum = cnt (.list xs0) ∧ ps.length ≤ 1000 :=
      ⟨_, a, xs, xs0, rfl, rfl, k0, .inl (.inr ⟨o, h⟩), r, (fun p hp => ⟨sm_kids hs p hp, isOne_kidsOf od p hp, by have := depth_kids (d := .list xs0) hp; omega⟩), by rw [cnt_kids]; rfl, hs.1⟩
    obtain ⟨H1, l, vs, ps, eH, el, k1, hl, hda, hps, hsum, hlen⟩ := fin
    subst el
    rw [← eH]
  case' inr.inr =>
    have hd00 := hd0
    cases hd0
    rename_i a o es h r
    refine iteF ⟨_, rfl, _, "dict", _, _, rfl, .dic h r, kt_k _, _, rfl, iteT ?_⟩
    have hk := isOne_keys od
    obtain ⟨kvs, hf, rfl, hks⟩ := doc_dict h r hk
    obtain ⟨s1, s2, s3⟩ := hs
    refine ⟨_, rfl, a, kvs, _, rfl, .inr ⟨o, hf⟩, hks, by rw [List.length_map]; omega, fun ys lp hp1 hs1 hlp => ⟨lp, rfl, ⟨_, SqL.of upd_same⟩, fun D hD => ?_⟩⟩
    have kL := same_new hlp (.lst (ys.map V.str))
    have hyl : ys.length ≤ 60 := by rw [hp1.length_eq, List.length_map]; omega
    refine lc_it (walk_list (K := K) (a := lp) (xs := ys.map V.str)) (fun i H2 => Same (upd (upd H l0 (.lst [])) lp (.lst (ys.map V.str))) H2 ∧ ∃ vs, H2 D = some (.lst vs) ∧ vs.length = i ∧ DaL P w H2 vs ((ys.take i).map fun k => lookD ds k)) ⟨same_new hD _, [], upd_same, rfl, .nil⟩
      (fun _ H2 _ z => SqL.of (z.1 _ _ upd_same)) ?_ (fun H2 z => ?_)
    · rintro i v H2 H2' hi ⟨k2, vs, hD2, hvl, hda⟩ ⟨rfl, hv⟩
      rw [List.length_map] at hi
      rw [List.getElem?_map, List.getElem?_eq_getElem hi] at hv
      cases hv
      refine ⟨rfl, ?_⟩
      simp only [tYes, if_true]
      obtain ⟨u, p, hu1, hpm, hpk, hpl, hpd⟩ := look_all r hks s2 (hp1.mem_iff.mp (List.getElem_mem hi))
      refine ⟨_, rfl, _, rfl, a, u, rfl, .inl ⟨kvs, Sum.inr ys[i], .inr ⟨o, k2 _ _ (kL _ _ hf)⟩, rfl, hu1.symm⟩, vs, hD2, small1000 (by omega), fun b o' e => ?_, vs ++ [u], upd_same, by simp [hvl], ?_⟩
      · rw [upd_ne (ne_of_none e hD)]
        exact k2 _ _ e
      · rw [List.take_add_one, List.getElem?_eq_getElem hi]
        simp only [Option.toList_some, List.map_append, List.map_cons, List.map_nil]
        refine (hda.kp (.lst hD2 _)).snoc ?_
        rw [hpl]
        exact hpd.kp ((Kp.same (kL.trans k2)).trans (.lst hD2 _))
    obtain ⟨k2, vs, hD2, hvl, hda⟩ := z
    rw [List.length_map, List.take_length] at hda
    have fin : ∃ (H1 : Hp) (l : Addr) (vs' : List V) (ps : List PyData), H1 = H2 ∧ l = D ∧ Same H H1 ∧ SqL K H1 l vs' ∧ DaL P w H1 vs' ps ∧ (∀ p ∈ ps, Sm p ∧ isOne p = true ∧ p.depth < n) ∧ 1 + (ps.map cnt).sum = cnt (.dict ds) ∧ ps.length ≤ 1000 := by
      refine ⟨H2, D, vs, _, rfl, rfl, (k0.trans kL).trans k2, SqL.of hD2, hda, fun p hp => ?_, ?_, by rw [List.length_map]; omega⟩
      · obtain ⟨k, hkm, rfl⟩ := List.mem_map.mp hp
        obtain ⟨p, h3, h4, h5⟩ := lookD_mem (hp1.mem_iff.mp hkm)
        rw [h5]
        have hm : p.2 ∈ kids (.dict ds) := List.mem_map.mpr ⟨p, h3, rfl⟩
        exact ⟨(smK_iff.mp s3 p h3).2, isOne_kidsOf od _ hm, by have := depth_kids hm; omega⟩
      · rw [List.map_map, cnt_kids]
        show 1 + (ys.map fun k => cnt (lookD ds k)).sum = 1 + ((ds.map (·.2)).map cnt).sum
        rw [sum_look s2 hp1, List.map_map]
        rfl
    obtain ⟨H1, l, vs', ps, eH, el, k1, hl, hda', hps, hsum, hlen⟩ := fin
    subst el
    rw [← eH]
  all_goals
    refine ⟨_, rfl, l, rfl, ⟨_, hl⟩, fun D2 hD2 => ?_⟩
    refine lc_it (walk_list (K := K) (a := l)) (fun i H2 => Same H1 H2 ∧ H2 D2 = some (.lst (((ps.take i).map fun p => ((cnt p : Nat) : Int)).map V.int))) ⟨same_new hD2 _, upd_same⟩ (fun _ _ _ z => z.1.seq hl) ?_ ?_
    · rintro i v H2 H2' hi ⟨k2, hD2'⟩ ⟨rfl, hv⟩
      obtain ⟨p, hpi, hvp⟩ := DaL.get (by assumption) hv
      obtain ⟨b1, b2, b3⟩ := hps p (List.mem_of_getElem? hpi)
      refine ⟨rfl, ?_⟩
      simp only [tYes, if_true]
      refine ⟨_, rfl, v, p, rfl, hvp.kp (.same k2), b1, b2, b3, fun H3 k3 => ⟨_, k3 _ _ hD2', ?_, fun b o' e => ?_, ?_⟩⟩
      · rw [List.length_map, List.length_map, List.length_take]
        exact small1000 (by omega)
      · rw [upd_ne (ne_of_none e hD2)]
        exact k3 _ _ (k2 _ _ e)
      · rw [upd_same, List.take_add_one, hpi]
        simp
    · rintro H2 ⟨k2, hD2'⟩
      have hvl : _ = ps.length := DaL.length (by assumption)
      rw [hvl, List.take_length] at hD2'
      refine ⟨D2, _, rfl, SqL.of hD2', _, _, rfl, rfl, ?_⟩
      have e1 : (1 : Int) + (ps.map fun p => ((cnt p : Nat) : Int)).sum = ((1 + (ps.map cnt).sum : Nat) : Int) := by
        have e2 : (ps.map fun p => ((cnt p : Nat) : Int)) = (ps.map cnt).map fun i : Nat => (i : Int) := by rw [List.map_map]; rfl
        rw [e2, int_sum]
        push_cast
        rfl
      show Q (.int (1 + (ps.map fun p => ((cnt p : Nat) : Int)).sum)) H2
      rw [e1, hsum]
      exact q H2 (k1.trans k2)
end
end K00
set_option Elab.async false
set_option linter.all false
set_option maxRecDepth 100000
set_option maxHeartbeats 8000000
/-! K01E: _law_ink. -/
namespace K00
open PySem PySem.Spec L2
open PyProof.Rows (envOfC sortedS)
theorem call_strNB {X : Cx} : CallR X (.type "str") (fun xs H Q => (xs = [.non] ∧ Q (.str "None") H) ∨ ∃ b : Bool, xs = [.bl b] ∧ Q (.str (if b then "True" else "False")) H) := by
  intro pins s σ H xs us Q I r h
  rcases h with ⟨rfl, q⟩ | ⟨b, rfl, q⟩
  · obtain ⟨u, rfl, r1⟩ := vals1 r
    obtain rfl : u = Value.none := r1
    exact PySem.P.str_of_none ⟨.str _, H, I.tok _, ⟨_, rfl⟩, q⟩
  · obtain ⟨u, rfl, r1⟩ := vals1 r
    obtain rfl : u = Value.bool b := r1
    exact PySem.P.str_of_bool ⟨.str _, H, I.tok _, ⟨_, rfl⟩, q⟩
section
variable {P : Program} {w : World} {K : PySem.W.Frag} {mg : Str → Option Value} {base : Heap} {f g g2 g3 : Addr} {fd gd gd2 gd3 : FuncData}
/-- a tuple of one text, put together with another tuple -/
theorem cat_tup {H : Hp} {t1 t2 : Addr} {s : Str} {ts : List V} {ds : List PyData} {Q : VK} (h1 : H t1 = some (.tup [.str s])) (h2 : H t2 = some (.tup ts)) (hd : DaL P w H ts ds) (hl : ts.length ≤ 1000)
    (q : ∀ t H', Same H H' → Da P w H' t (.tuple (.str s :: ds)) → Q t H') : rCatT K (.ref t1) (.ref t2) H Q := by
  refine ⟨t1, t2, [.str s], ts, rfl, rfl, SqT.of h1, SqT.of h2, (fun z => by cases z), Nat.le_of_lt (smallM (by simp; omega)), fun e => ?_, fun _ p hp => ?_⟩
  · subst e
    cases hd
    exact q _ _ (same_refl _) (.tup h1 (.cons (.str s) .nil))
  · exact q _ _ (same_new hp _) (.tup upd_same (.cons (.str s) (hd.kp (.new hp _))))
def spInk (P : Program) (w : World) (n : Nat) : Sp := fun vs H Q _ => ∃ (x : V) (d : PyData), vs = [x] ∧ Da P w H x d ∧ Sm d ∧ isOne d = true ∧ d.depth < n ∧ ∀ t H', Same H H' → Da P w H' t (inkD d) → Q t H'
theorem scInk : FnScope ["_law_document", "_law_part", "_law_field"] ["_law_document"] (defScope (top 23)) := ⟨rfl, rfl, rfl, by decide +kernel, rfl, by decide +kernel, by decide +kernel⟩
theorem ok_ink {n : Nat} (F : FnD K "_law_ink" 23 f fd) (B : Bl mg) (GR : FnOk P w K mg base CX0 n f fd ["_law_document"] (spInk P w n)) (bR : Binds K fd ["_law_document"] []) (gR : mg "_law_ink" = some (.ref f)) :
    FnOk P w K mg base CX0 (n + 1) f fd ["_law_document"] (spInk P w (n + 1)) := by
  refine F.ok scInk (fun vs H Q E h => ?_) (fun cdv A outer s H vs Q E hr h => ?_)
  · obtain ⟨x, d, rfl, _⟩ := h
    rfl
  obtain ⟨x, d, rfl, hd, hs, od, hn, q⟩ := h
  have hu := hu_of hr
  refine ⟨_, PSs.nox (pss_cons (ps_if (pt_val (pe_callB call_isDa (by rfl) B.isi (by decide +kernel) (pa_cons (pv 0) (pa_cons (pe_bltn (v := .ty "list") (by rfl) B.list (by decide +kernel) rfl) pa_nil)))) (pss_one (ps_ret
        (pe_op op_catT (pe_tup (pa_cons pe_str pa_nil)) (pe_callTy call_tuple_of (by rfl) B.tuple (by decide +kernel) (pa_cons
          (pe_lc (own := [("_law_part", 1)]) (g := gName 1) (tt := tYes) rfl scInk.nd (pi_list (pv 0)) (blkOk_by (N := ["_law_document", "_law_part", "_law_field"]) (sc := defScope (top 23)) (by decide +kernel))
            (fun _ _ _ _ _ => pg_name (i := 1) scInk.nd rfl (Or.inl rfl)) (fun _ _ _ _ _ => pts_nil) (fun _ _ _ _ _ => pe_call GR hr rfl gR F.kp bR .nil pass0 (pa_cons (pv 1) pa_nil))) pa_nil))))) pss_nil)
    (pss_cons (ps_if (pt_val (pe_callB call_isDa (by rfl) B.isi (by decide +kernel) (pa_cons (pv 0) (pa_cons (pe_bltn (v := .ty "dict") (by rfl) B.dict (by decide +kernel) rfl) pa_nil)))) (pss_one (ps_ret
        (pe_op op_catT (pe_tup (pa_cons pe_str pa_nil)) (pe_callTy call_tuple_of (by rfl) B.tuple (by decide +kernel) (pa_cons
          (pe_lc (own := [("_law_field", 2)]) (g := gName 2) (tt := tYes) rfl scInk.nd (pi_list (pe_callB (call_sortedD rfl) (by rfl) B.sorted (by decide +kernel) (pa_cons (pv 0) pa_nil))) (blkOk_by (N := ["_law_document", "_law_part", "_law_field"]) (sc := defScope (top 23)) (by decide +kernel))
            (fun _ _ _ _ _ => pg_name (i := 2) scInk.nd rfl (Or.inl rfl)) (fun _ _ _ _ _ => pts_nil) (fun _ _ _ _ _ => pe_tup (pa_cons (pv 2) (pa_cons (pe_call GR hr rfl gR F.kp bR .nil pass0 (pa_cons (pe_dget hu (pv 0) (pv 2) (fun _ _ => rfl)) pa_nil)) pa_nil)))) pa_nil))))) pss_nil)
    (pss_cons (ps_if (PW.pt (pw_or (pt_cmpR op_isN (pv 0) pe_non (nomark _)) (pw_or1 (pt_val (pe_callB call_isDa (by rfl) B.isi (by decide +kernel) (pa_cons (pv 0) (pa_cons (pe_bltn (v := .ty "bool") (by rfl) B.bool (by decide +kernel) rfl) pa_nil))))))) (pss_one (ps_ret
        (pe_tup (pa_cons pe_str (pa_cons (pe_callTy call_strNB (by rfl) B.str (by decide +kernel) (pa_cons (pv 0) pa_nil)) pa_nil))))) pss_nil)
    (pss_one (ps_ret (pe_tup (pa_cons (pe_ifExp (pt_val (pe_callB call_isDa (by rfl) B.isi (by decide +kernel) (pa_cons (pv 0) (pa_cons (pe_bltn (v := .ty "str") (by rfl) B.str (by decide +kernel) rfl) pa_nil)))) pe_str pe_str) (pa_cons (pv 0) pa_nil)))))))), ?_⟩
  have two : (2 : Nat) ≤ sizeLine := by decide
  cases hd with
  | non => exact ⟨_, rfl, _, "list", _, _, rfl, .non, kt_l _, _, rfl, iteF ⟨_, rfl, _, "dict", _, _, rfl, .non, kt_k _, _, rfl, iteF ⟨_, rfl, rfl, _, rfl, iteT ⟨_, rfl, .inl ⟨rfl, two, fun t ht => q _ _ (same_new ht _) (.tup upd_same (.cons (.str _) (.cons (.str _) .nil)))⟩⟩⟩⟩⟩
  | bl b => exact ⟨_, rfl, _, "list", _, _, rfl, .bl b, kt_l _, _, rfl, iteF ⟨_, rfl, _, "dict", _, _, rfl, .bl b, kt_k _, _, rfl, iteF ⟨_, rfl, rfl, _, rfl, iteF ⟨_, rfl, _, "bool", _, _, rfl, .bl b, kt_b _, _, rfl, iteT ⟨_, rfl, .inr ⟨b, rfl, two, fun t ht => q _ _ (same_new ht _) (.tup upd_same (.cons (.str _) (.cons (.str _) .nil)))⟩⟩⟩⟩⟩⟩
  | int i => exact ⟨_, rfl, _, "list", _, _, rfl, .int i, kt_l _, _, rfl, iteF ⟨_, rfl, _, "dict", _, _, rfl, .int i, kt_k _, _, rfl, iteF ⟨_, rfl, rfl, _, rfl, iteF ⟨_, rfl, _, "bool", _, _, rfl, .int i, kt_b _, _, rfl, iteF ⟨_, rfl, _, "str", _, _, rfl, .int i, kt_s _, _, rfl, iteF ⟨_, rfl, two, fun t ht => q _ _ (same_new ht _) (.tup upd_same (.cons (.str _) (.cons (.int i) .nil)))⟩⟩⟩⟩⟩⟩
  | str y => exact ⟨_, rfl, _, "list", _, _, rfl, .str y, kt_l _, _, rfl, iteF ⟨_, rfl, _, "dict", _, _, rfl, .str y, kt_k _, _, rfl, iteF ⟨_, rfl, rfl, _, rfl, iteF ⟨_, rfl, _, "bool", _, _, rfl, .str y, kt_b _, _, rfl, iteF ⟨_, rfl, _, "str", _, _, rfl, .str y, kt_s _, _, rfl, iteT ⟨_, rfl, two, fun t ht => q _ _ (same_new ht _) (.tup upd_same (.cons (.str _) (.cons (.str y) .nil)))⟩⟩⟩⟩⟩⟩
  | tup h r => exact (Bool.false_ne_true (show false = true from od)).elim
  | @lst a o xs ds h r =>
    refine ⟨_, rfl, _, "list", _, _, rfl, .lst h r, kt_l _, _, rfl, iteT ⟨(by show 1 ≤ sizeLine; decide), fun t1 ht1 => ⟨_, rfl, a, rfl, ⟨_, .inl (.inr ⟨o, (same_new ht1 _) _ _ h⟩)⟩, fun D hD => ?_⟩⟩⟩
    have k1 := same_new ht1 (.tup [V.str "list"])
    have hl := r.length
    have l1 := hs.1
    refine lc_it (walk_list (K := K) (a := a) (xs := xs)) (fun i H2 => Same (upd H t1 (.tup [V.str "list"])) H2 ∧ ∃ ts, H2 D = some (.lst ts) ∧ ts.length = i ∧ DaL P w H2 ts ((ds.take i).map inkD)) ⟨same_new hD _, [], upd_same, rfl, .nil⟩ (fun _ H2 _ z => .inl (.inr ⟨o, z.1 _ _ (k1 _ _ h)⟩)) ?_ ?_
    · rintro i v H2 H2' hi ⟨k2, ts, hD2, htl, hda⟩ ⟨rfl, hv⟩
      obtain ⟨p, hpi, hvp⟩ := r.get hv
      have hm := List.mem_of_getElem? hpi
      refine ⟨rfl, ?_⟩
      simp only [tYes, if_true]
      refine ⟨_, rfl, v, p, rfl, hvp.kp (.same (k1.trans k2)), sm_kids hs p hm, isOne_kidsOf od p hm, by have := depth_kids (d := .list ds) hm; omega, fun t H3 k3 ht => ⟨ts, k3 _ _ hD2, small1000 (by omega), fun b o' e => ?_, ts ++ [t], upd_same, by simp [htl], ?_⟩⟩
      · rw [upd_ne (ne_of_none e hD)]
        exact k3 _ _ (k2 _ _ e)
      · rw [List.take_add_one, hpi]
        simp only [Option.toList_some, List.map_append, List.map_cons, List.map_nil]
        exact (hda.kp ((Kp.same k3).trans (.lst (k3 _ _ hD2) _))).snoc (ht.kp (.lst (k3 _ _ hD2) _))
    · rintro H2 ⟨k2, ts, hD2, htl, hda⟩
      rw [hl, List.take_length] at hda
      refine ⟨D, ts, rfl, .inl ⟨SqL.of hD2, fun t2 ht2 => ?_⟩⟩
      refine cat_tup (P := P) (w := w) (K := K) ((same_new ht2 _) _ _ (k2 _ _ upd_same)) upd_same (hda.kp (.new ht2 _)) (by omega) fun t H' k' ht => ?_
      refine q t H' (((k1.trans k2).trans (same_new ht2 _)).trans k') ?_
      rw [inkD, inkL_eq]
      exact ht
  | @dic a o es ds h r =>
    have hk := isOne_keys od
    obtain ⟨kvs, hf, rfl, hks⟩ := doc_dict h r hk
    obtain ⟨s1, s2, s3⟩ := hs
    refine ⟨_, rfl, _, "list", _, _, rfl, .dic h r, kt_l _, _, rfl, iteF ⟨_, rfl, _, "dict", _, _, rfl, .dic h r, kt_k _, _, rfl, iteT ⟨(by show 1 ≤ sizeLine; decide), fun t1 ht1 => ?_⟩⟩⟩
    have k1 := same_new ht1 (.tup [V.str "record"])
    refine ⟨_, rfl, a, kvs, _, rfl, .inr ⟨o, k1 _ _ hf⟩, hks, by rw [List.length_map]; omega, fun ys lp hp1 hs1 hlp => ⟨lp, rfl, ⟨_, SqL.of upd_same⟩, fun D hD => ?_⟩⟩
    have kL := same_new hlp (.lst (ys.map V.str))
    have hyl : ys.length ≤ 60 := by rw [hp1.length_eq, List.length_map]; omega
    refine lc_it (walk_list (K := K) (a := lp) (xs := ys.map V.str)) (fun i H2 => Same (upd (upd H t1 (.tup [V.str "record"])) lp (.lst (ys.map V.str))) H2 ∧ ∃ ts, H2 D = some (.lst ts) ∧ ts.length = i ∧ DaL P w H2 ts ((ys.take i).map fun k => pairT (k, inkD (lookD ds k)))) ⟨same_new hD _, [], upd_same, rfl, .nil⟩
      (fun _ H2 _ z => SqL.of (z.1 _ _ upd_same)) ?_ ?_
    · rintro i v H2 H2' hi ⟨k2, ts, hD2, htl, hda⟩ ⟨rfl, hv⟩
      rw [List.length_map] at hi
      rw [List.getElem?_map, List.getElem?_eq_getElem hi] at hv
      cases hv
      refine ⟨rfl, ?_⟩
      simp only [tYes, if_true]
      obtain ⟨u, p, hu1, hpm, hpk, hpl, hpd⟩ := look_all r hks s2 (hp1.mem_iff.mp (List.getElem_mem hi))
      have hm : p.2 ∈ kids (.dict ds) := List.mem_map.mpr ⟨p, hpm, rfl⟩
      have kk := (k1.trans kL).trans k2
      refine ⟨_, rfl, _, rfl, _, rfl, a, u, rfl, .inl ⟨kvs, Sum.inr ys[i], .inr ⟨o, kk _ _ hf⟩, rfl, hu1.symm⟩, u, p.2, rfl, hpd.kp (.same kk), (smK_iff.mp s3 p hpm).2, isOne_kidsOf od _ hm, by have := depth_kids hm; omega, fun t H3 k3 ht => ⟨two, fun tp htp => ?_⟩⟩
      have hD3 := k3 _ _ hD2
      have k4 := same_new htp (.tup [V.str ys[i], t])
      have hD4 := k4 _ _ hD3
      have ntD : D ≠ tp := ne_of_none hD3 htp
      refine ⟨ts, hD4, small1000 (by omega), fun b o' e => ?_, ts ++ [.ref tp], upd_same, by simp [htl], ?_⟩
      · rw [upd_ne (ne_of_none e hD)]
        exact k4 _ _ (k3 _ _ (k2 _ _ e))
      · rw [List.take_add_one, List.getElem?_eq_getElem hi]
        simp only [Option.toList_some, List.map_append, List.map_cons, List.map_nil]
        refine (hda.kp ((Kp.same (k3.trans k4)).trans (.lst hD4 _))).snoc ?_
        rw [hpl]
        refine .tup ?_ (.cons (.str _) (.cons (ht.kp ((Kp.same k4).trans (.lst hD4 _))) .nil))
        rw [upd_ne (Ne.symm ntD)]
        exact upd_same
    · rintro H2 ⟨k2, ts, hD2, htl, hda⟩
      rw [List.length_map, List.take_length] at hda
      rw [List.length_map] at htl
      refine ⟨D, ts, rfl, .inl ⟨SqL.of hD2, fun t2 ht2 => ?_⟩⟩
      refine cat_tup (P := P) (w := w) (K := K) ((same_new ht2 _) _ _ (k2 _ _ (kL _ _ upd_same))) upd_same (hda.kp (.new ht2 _)) (by omega) fun t H' k' ht => ?_
      refine q t H' ((((k1.trans kL).trans k2).trans (same_new ht2 _)).trans k') ?_
      rw [ink_dict s2 hp1 hs1]
      exact ht
end
end K00
set_option Elab.async false
set_option linter.all false
set_option maxRecDepth 100000
set_option maxHeartbeats 8000000
/-! K01F: _law_turned. -/
namespace K00
open PySem PySem.Spec L2
open PyProof.Rows (envOfC sortedS)
/-- as the same document, perhaps with its fields turned -/
def Tn (e d : PyData) : Prop := Sm e ∧ isOne e = true ∧ inkD e = inkD d ∧ cnt e = cnt d
theorem paired_rev {α β : Type} {F : α → β → Prop} : ∀ {xs : List α} {ys : List β}, Paired F xs ys → Paired F xs.reverse ys.reverse
  | _, _, .nil => .nil
  | _, _, .cons a t => by
    rw [List.reverse_cons, List.reverse_cons]
    exact paired_append (paired_rev t) (.cons a .nil)
theorem DaE.append {P : Program} {w : World} {H : Hp} : ∀ {xs ys : List (V × V)} {ds es : List (PyData × PyData)}, DaE P w H xs ds → DaE P w H ys es → DaE P w H (xs ++ ys) (ds ++ es)
  | _, _, _, _, .nil, q => q
  | _, _, _, _, .cons k h r, q => .cons k h (DaE.append r q)
theorem DaE.rev {P : Program} {w : World} {H : Hp} : ∀ {xs : List (V × V)} {ds : List (PyData × PyData)}, DaE P w H xs ds → DaE P w H xs.reverse ds.reverse
  | _, _, .nil => .nil
  | _, _, .cons k h r => by
    rw [List.reverse_cons, List.reverse_cons]
    exact (DaE.rev r).append (.cons k h .nil)
theorem put_new {kvs : List (Key × V)} {k : Key} {v : V} (h : k ∉ kvs.map (·.1)) : putK kvs k v = kvs ++ [(k, v)] := by
  unfold putK
  rw [if_neg]
  intro z
  obtain ⟨kv, hkv, e⟩ := List.any_eq_true.mp z
  exact h (List.mem_map.mpr ⟨kv, hkv, of_decide_eq_true e⟩)
theorem merge_new : ∀ {more kvs : List (Key × V)}, ((kvs ++ more).map (·.1)).Nodup → mergeK kvs more = kvs ++ more
  | [], kvs, _ => by simp [mergeK]
  | (k, v) :: r, kvs, h => by
    have h1 : k ∉ kvs.map (·.1) := fun z => by
      rw [List.map_append, List.map_cons] at h
      have := (List.pairwise_append.mp h).2.2 k z k List.mem_cons_self
      exact this rfl
    show mergeK (putK kvs k v) r = _
    rw [put_new h1, merge_new (by rw [List.append_assoc]; exact h), List.append_assoc]
    rfl
theorem paired_map_eq {α β γ : Type} {F : α → β → Prop} {g : α → γ} {h : β → γ} : ∀ {xs : List α} {ys : List β}, Paired F xs ys → (∀ a b, F a b → g a = h b) → xs.map g = ys.map h
  | _, _, .nil, _ => rfl
  | _, _, .cons a t, q => by rw [List.map_cons, List.map_cons, q _ _ a, paired_map_eq t q]
theorem paired_memR {α β : Type} {F : α → β → Prop} : ∀ {xs : List α} {ys : List β}, Paired F xs ys → ∀ {y : β}, y ∈ ys → ∃ x ∈ xs, F x y
  | _, _, .cons h t, y, hy => by
    rcases List.mem_cons.mp hy with e | hy
    · rw [e]; exact ⟨_, List.mem_cons_self, h⟩
    · obtain ⟨x, h1, h2⟩ := paired_memR t hy
      exact ⟨x, List.mem_cons_of_mem _ h1, h2⟩
theorem paired_memL {α β : Type} {F : α → β → Prop} : ∀ {xs : List α} {ys : List β}, Paired F xs ys → ∀ {x : α}, x ∈ xs → ∃ y ∈ ys, F x y
  | _, _, .cons h t, y, hy => by
    rcases List.mem_cons.mp hy with e | hy
    · rw [e]; exact ⟨_, List.mem_cons_self, h⟩
    · obtain ⟨x, h1, h2⟩ := paired_memL t hy
      exact ⟨x, List.mem_cons_of_mem _ h1, h2⟩
/-- a record's entries, each turned, in another sequence -/
theorem turned_dict {ds dsr ds2 : List (PyData × PyData)} (hd : Sm (.dict ds)) (od : isOne (.dict ds) = true) (hr : dsr.Perm ds) (hp : Paired (fun (q dd : PyData × PyData) => q.1 = .str (kS dd.1) ∧ Tn q.2 dd.2) ds2 dsr) : Tn (.dict ds2) (.dict ds) := by
  obtain ⟨s1, s2, s3⟩ := hd
  have hk := isOne_keys od
  have ek : (ds2.map fun p => kS p.1) = dsr.map fun p => kS p.1 := paired_map_eq hp fun a b z => by rw [z.1]; rfl
  have pk : (ds2.map fun p => kS p.1).Perm (ds.map fun p => kS p.1) := by rw [ek]; exact hr.map _
  have n2 : (ds2.map fun p => kS p.1).Nodup := pk.nodup_iff.mpr s2
  have hl : ds2.length = ds.length := (Paired.length hp).trans hr.length_eq
  refine ⟨⟨by omega, n2, smK_iff.mpr fun p hpm => ?_⟩, ?_, ?_, ?_⟩
  · obtain ⟨dd, hdd, e1, e2⟩ := paired_memL hp hpm
    have hm := hr.mem_iff.mp hdd
    refine ⟨?_, e2.1⟩
    have := (smK_iff.mp s3 dd hm).1
    rw [keyB_str (hk dd hm)] at this
    rw [e1]
    exact this
  · refine isOne_dict fun p hpm => ?_
    obtain ⟨dd, hdd, e1, e2⟩ := paired_memL hp hpm
    have hm := hr.mem_iff.mp hdd
    refine ⟨⟨_, e1, ?_⟩, e2.2.1⟩
    have := hk dd hm
    rw [keyB_str this] at this
    exact this
  · have hs : sortedS ((isort (inkK ds)).map (·.1)) = true := PyProof.Rows.sortedS_of_pairwise _ (isort_keys_sorted ds)
    rw [ink_dict s2 (isort_keys ds) hs, ink_dict n2 ((isort_keys ds).trans pk.symm) hs]
    congr 2
    refine List.map_congr_left fun k hkm => ?_
    obtain ⟨p, hpm, rfl⟩ := List.mem_map.mp ((isort_keys ds).mem_iff.mp hkm)
    obtain ⟨q, hq, e1, e2⟩ := paired_memR hp (hr.mem_iff.mpr hpm)
    have e3 : kS q.1 = kS p.1 := by rw [e1]; rfl
    rw [lookD_of s2 hpm, ← e3, lookD_of n2 hq, e2.2.2.1]
  · rw [cnt_kids, cnt_kids]
    show 1 + ((ds2.map (·.2)).map cnt).sum = 1 + ((ds.map (·.2)).map cnt).sum
    rw [List.map_map, List.map_map]
    have e : ds2.map (cnt ∘ (·.2)) = dsr.map (cnt ∘ (·.2)) := paired_map_eq hp fun a b z => z.2.2.2.2
    rw [e, perm_sum (hr.map _)]
theorem turned_list {xs ys : List PyData} (hd : Sm (.list ys)) (hp : Paired Tn xs ys) : Tn (.list xs) (.list ys) := by
  have hl : xs.length = ys.length := Paired.length hp
  refine ⟨⟨by have := hd.1; omega, smL_iff.mpr fun x hx => ?_⟩, isOne_list fun x hx => ?_, ?_, ?_⟩
  · obtain ⟨y, _, z⟩ := paired_memL hp hx
    exact z.1
  · obtain ⟨y, _, z⟩ := paired_memL hp hx
    exact z.2.1
  · rw [inkD, inkD, inkL_eq, inkL_eq, paired_map_eq hp fun a b z => z.2.2.1]
  · rw [cnt_kids, cnt_kids]
    show 1 + (xs.map cnt).sum = 1 + (ys.map cnt).sum
    rw [paired_map_eq hp fun a b z => z.2.2.2]
section
variable {P : Program} {w : World} {H : Hp}
theorem dae_of {H : Hp} : ∀ {kvs : List (Key × V)} {dsr : List (PyData × PyData)}, Paired (fun (kv : Key × V) (dd : PyData × PyData) => kv.1 = Sum.inr (kS dd.1) ∧ ∃ e, Da P w H kv.2 e ∧ Tn e dd.2) kvs dsr →
    ∃ ds2, DaE P w H (kvs.map fun p => (kV p.1, p.2)) ds2 ∧ Paired (fun (q dd : PyData × PyData) => q.1 = .str (kS dd.1) ∧ Tn q.2 dd.2) ds2 dsr
  | _, _, .nil => ⟨[], .nil, .nil⟩
  | (k, v) :: r, dd :: dr, .cons ⟨e1, e, h1, h2⟩ t => by
    obtain ⟨ds2, h3, h4⟩ := dae_of t
    have e1' : k = Sum.inr (kS dd.1) := e1
    subst e1'
    exact ⟨(.str (kS dd.1), e) :: ds2, .cons (.str _) h1 h3, .cons ⟨rfl, h2⟩ h4⟩
end
section
variable {P : Program} {w : World} {K : PySem.W.Frag} {mg : Str → Option Value} {base : Heap} {f g g2 g3 : Addr} {fd gd gd2 gd3 : FuncData}
def spTurned (P : Program) (w : World) (n : Nat) : Sp := fun vs H Q _ => ∃ (x : V) (d : PyData), vs = [x] ∧ Da P w H x d ∧ Sm d ∧ isOne d = true ∧ d.depth < n ∧ ∀ x' d' H', Same H H' → Da P w H' x' d' → Tn d' d → Q x' H'
theorem scTurned : FnScope ["_law_document", "_law_part", "_law_field"] ["_law_document"] (defScope (top 28)) := ⟨rfl, rfl, rfl, by decide +kernel, rfl, by decide +kernel, by decide +kernel⟩
theorem ok_turned {n : Nat} (F : FnD K "_law_turned" 28 f fd) (B : Bl mg) (GR : FnOk P w K mg base CX0 n f fd ["_law_document"] (spTurned P w n)) (bR : Binds K fd ["_law_document"] []) (gR : mg "_law_turned" = some (.ref f)) :
    FnOk P w K mg base CX0 (n + 1) f fd ["_law_document"] (spTurned P w (n + 1)) := by
  refine F.ok scTurned (fun vs H Q E h => ?_) (fun cdv A outer s H vs Q E hr h => ?_)
  · obtain ⟨x, d, rfl, _⟩ := h
    rfl
  obtain ⟨x, d, rfl, hd, hs, od, hn, q⟩ := h
  refine ⟨_, PSs.nox (pss_cons (ps_if (pt_val (pe_callB call_isDa (by rfl) B.isi (by decide +kernel) (pa_cons (pv 0) (pa_cons (pe_bltn (v := .ty "list") (by rfl) B.list (by decide +kernel) rfl) pa_nil)))) (pss_one (ps_ret
        (pe_fz (pe_lc (own := [("_law_part", 1)]) (g := gName 1) (tt := tYes) rfl scTurned.nd (pi_list (pv 0)) (blkOk_by (N := ["_law_document", "_law_part", "_law_field"]) (sc := defScope (top 28)) (by decide +kernel))
            (fun _ _ _ _ _ => pg_name (i := 1) scTurned.nd rfl (Or.inl rfl)) (fun _ _ _ _ _ => pts_nil) (fun _ _ _ _ _ => pe_call GR hr rfl gR F.kp bR .nil pass0 (pa_cons (pv 1) pa_nil)))))) pss_nil)
    (pss_cons (ps_if (pt_val (pe_callB call_isDa (by rfl) B.isi (by decide +kernel) (pa_cons (pv 0) (pa_cons (pe_bltn (v := .ty "dict") (by rfl) B.dict (by decide +kernel) rfl) pa_nil)))) (pss_one (ps_ret
        (pe_fzK (pe_callTy (call_dictP rfl) (by rfl) B.dict (by decide +kernel) (pa_cons
          (pe_lc (own := [("_law_field", 2), ("_law_part", 1)]) (g := gTup K 2 (gCons (gName 2) (gCons (gName 1) gNil))) (tt := tYes) rfl scTurned.nd (pi_list (pe_revL (pe_listItsD rfl (pv 0) rfl B.list (by decide +kernel))))
            (blkOk_by (N := ["_law_document", "_law_part", "_law_field"]) (sc := defScope (top 28)) (by decide +kernel))
            (fun _ _ _ _ _ => pg_tup (by rfl) (pgs_cons (pg_name (i := 2) scTurned.nd rfl (Or.inl rfl)) (pgs_cons (pg_name (i := 1) scTurned.nd rfl (Or.inl rfl)) pgs_nil))) (fun _ _ _ _ _ => pts_nil)
            (fun _ _ _ _ _ => pe_tup (pa_cons (pv 2) (pa_cons (pe_call GR hr rfl gR F.kp bR .nil pass0 (pa_cons (pv 1) pa_nil)) pa_nil)))) pa_nil))))) pss_nil)
    (pss_one (ps_ret (pv 0))))), ?_⟩
  have two : (2 : Nat) ≤ sizeLine := by decide
  have self : Tn d d := ⟨hs, od, rfl, rfl⟩
  cases hd with
  | non => exact ⟨_, rfl, _, "list", _, _, rfl, .non, kt_l _, _, rfl, iteF ⟨_, rfl, _, "dict", _, _, rfl, .non, kt_k _, _, rfl, iteF ⟨_, rfl, q _ _ H (same_refl H) .non self⟩⟩⟩
  | bl b => exact ⟨_, rfl, _, "list", _, _, rfl, .bl b, kt_l _, _, rfl, iteF ⟨_, rfl, _, "dict", _, _, rfl, .bl b, kt_k _, _, rfl, iteF ⟨_, rfl, q _ _ H (same_refl H) (.bl b) self⟩⟩⟩
  | int b => exact ⟨_, rfl, _, "list", _, _, rfl, .int b, kt_l _, _, rfl, iteF ⟨_, rfl, _, "dict", _, _, rfl, .int b, kt_k _, _, rfl, iteF ⟨_, rfl, q _ _ H (same_refl H) (.int b) self⟩⟩⟩
  | str b => exact ⟨_, rfl, _, "list", _, _, rfl, .str b, kt_l _, _, rfl, iteF ⟨_, rfl, _, "dict", _, _, rfl, .str b, kt_k _, _, rfl, iteF ⟨_, rfl, q _ _ H (same_refl H) (.str b) self⟩⟩⟩
  | tup h r => exact (Bool.false_ne_true (show false = true from od)).elim
  | @lst a o xs ds h r =>
    refine ⟨_, rfl, _, "list", _, _, rfl, .lst h r, kt_l _, _, rfl, iteT ⟨_, rfl, a, rfl, ⟨_, .inl (.inr ⟨o, h⟩)⟩, fun D hD => ?_⟩⟩
    have hl := r.length
    have l1 := hs.1
    refine lc_it (walk_list (K := K) (a := a) (xs := xs)) (fun i H2 => Same H H2 ∧ ∃ vs ds2, H2 D = some (.lst vs) ∧ vs.length = i ∧ DaL P w H2 vs ds2 ∧ Paired Tn ds2 (ds.take i)) ⟨same_new hD _, [], [], upd_same, rfl, .nil, .nil⟩ (fun _ H2 _ z => .inl (.inr ⟨o, z.1 _ _ h⟩)) ?_ ?_
    · rintro i v H2 H2' hi ⟨k2, vs, ds2, hD2, hvl, hda, hpr⟩ ⟨rfl, hv⟩
      obtain ⟨p, hpi, hvp⟩ := r.get hv
      have hm := List.mem_of_getElem? hpi
      refine ⟨rfl, ?_⟩
      simp only [tYes, if_true]
      refine ⟨_, rfl, v, p, rfl, hvp.kp (.same k2), sm_kids hs p hm, isOne_kidsOf od p hm, by have := depth_kids (d := .list ds) hm; omega, fun x' d' H3 k3 ht tn => ⟨vs, k3 _ _ hD2, small1000 (by omega), fun b o' e => ?_, vs ++ [x'], ds2 ++ [d'], upd_same, by simp [hvl], ?_, ?_⟩⟩
      · rw [upd_ne (ne_of_none e hD)]
        exact k3 _ _ (k2 _ _ e)
      · exact (hda.kp ((Kp.same k3).trans (.lst (k3 _ _ hD2) _))).snoc (ht.kp (.lst (k3 _ _ hD2) _))
      · rw [List.take_add_one, hpi]
        exact paired_append hpr (.cons tn .nil)
    · rintro H2 ⟨k2, vs, ds2, hD2, hvl, hda, hpr⟩
      rw [hl, List.take_length] at hpr
      refine ⟨D, _, rfl, hD2, trivial, fun o' => q _ (.list ds2) _ (fun b o'' e => ?_) (.lst upd_same (hda.kp (.lst hD2 _))) (turned_list hs hpr)⟩
      rw [upd_ne (ne_of_none e hD)]
      exact k2 _ _ e
  | @dic a o es ds h r =>
    refine ⟨_, rfl, _, "list", _, _, rfl, .dic h r, kt_l _, _, rfl, iteF ⟨_, rfl, _, "dict", _, _, rfl, .dic h r, kt_k _, _, rfl, iteT ⟨_, rfl, a, o, es, rfl, h, fun H1 l ts k1 hl hts hlt hl1 hpr => ?_⟩⟩⟩
    have hk := isOne_keys od
    obtain ⟨s1, s2, s3⟩ := id hs
    refine ⟨l, _, rfl, SqL.of hl1, fun l2 hl2 => ⟨l2, rfl, ⟨_, SqL.of upd_same⟩, fun D hD => ?_⟩⟩
    have e0 : (ts.map V.ref).reverse = ts.reverse.map V.ref := (List.map_reverse ..).symm
    rw [e0] at hD ⊢
    have kl2 := same_new hl2 (.lst (ts.reverse.map V.ref))
    have k2 : Same H (upd H1 l2 (.lst (ts.reverse.map V.ref))) := k1.trans kl2
    have hlen := r.length
    have hpr' := paired_rev hpr
    have r' := r.rev
    have htl : ts.length = es.length := Paired.length hpr
    refine lc_it (walk_list (K := K) (a := l2) (xs := ts.reverse.map V.ref)) (fun i H2 => Same (upd H1 l2 (.lst (ts.reverse.map V.ref))) H2 ∧ ∃ us kvs, H2 D = some (.lst (us.map V.ref)) ∧ us.length = i ∧ Paired (fun (u : Addr) (kv : Key × V) => H2 u = some (.tup [kV kv.1, kv.2])) us kvs ∧
        Paired (fun (kv : Key × V) (dd : PyData × PyData) => kv.1 = Sum.inr (kS dd.1) ∧ ∃ e, Da P w H2 kv.2 e ∧ Tn e dd.2) kvs (ds.reverse.take i)) ⟨same_new hD _, [], [], upd_same, rfl, .nil, .nil⟩ (fun _ H2 _ z => SqL.of (z.1 _ _ upd_same)) ?_ ?_
    · rintro i v H2 H2' hi ⟨k3, us, kvs, hD2, hul, hpu, hpk⟩ ⟨rfl, hv⟩
      rw [List.length_map] at hi
      rw [List.getElem?_map, List.getElem?_eq_getElem hi] at hv
      cases hv
      obtain ⟨p, hp, htp⟩ := LiI.paired_get hpr' (List.getElem?_eq_getElem hi)
      obtain ⟨dd, hdd, hk1, hv1⟩ := r'.get hp
      have hm : dd ∈ ds := List.mem_reverse.mp (List.mem_of_getElem? hdd)
      have hm2 : dd.2 ∈ kids (.dict ds) := List.mem_map.mpr ⟨dd, hm, rfl⟩
      have ek := keyB_str (hk dd hm)
      have ep : p.1 = V.str (kS dd.1) := by
        have hk1' : Da P w H p.1 dd.1 := hk1
        rw [ek] at hk1'
        generalize p.1 = z at hk1'
        cases hk1'
        rfl
      have kH := k2.trans k3
      refine ⟨_, _, rfl, SqT.of (k3 _ _ (kl2 _ _ htp)), rfl, p.1, [p.2], rfl, p.2, [], rfl, rfl, rfl, ?_⟩
      simp only [tYes, if_true]
      refine ⟨_, rfl, _, rfl, p.2, dd.2, rfl, hv1.kp (.same kH), (smK_iff.mp s3 dd hm).2, isOne_kidsOf od _ hm2, by have := depth_kids hm2; omega, fun x' d' H3 k4 ht tn => ⟨two, fun u hu => ?_⟩⟩
      have hD3 := k4 _ _ hD2
      have k5 := same_new hu (.tup [p.1, x'])
      have hD4 := k5 _ _ hD3
      have nuD : D ≠ u := ne_of_none hD3 hu
      have kall : Kp H2' (upd (upd H3 u (.tup [p.1, x'])) D (.lst (us.map V.ref ++ [V.ref u]))) := (Kp.same (k4.trans k5)).trans (.lst hD4 _)
      refine ⟨_, hD4, small1000 (by rw [List.length_map]; rw [List.length_reverse] at hi; omega), fun b o' e => ?_, us ++ [u], kvs ++ [(Sum.inr (kS dd.1), x')], by rw [upd_same, List.map_append]; rfl, by simp [hul], ?_, ?_⟩
      · rw [upd_ne (ne_of_none e hD)]
        exact k5 _ _ (k4 _ _ (k3 _ _ e))
      · refine paired_append (Paired.mapP hpu fun t kv z => kall.1 _ _ z) (.cons ?_ .nil)
        rw [upd_ne (Ne.symm nuD)]
        show upd H3 u (.tup [p.1, x']) u = some (.tup [V.str (kS dd.1), x'])
        rw [upd_same, ep]
      · rw [List.take_add_one, hdd]
        exact paired_append (Paired.mapP hpk fun kv d ⟨z1, e, z2, z3⟩ => ⟨z1, e, z2.kp kall, z3⟩) (.cons ⟨rfl, d', ht.kp ((Kp.same k5).trans (.lst hD4 _)), tn⟩ .nil)
    · rintro H2 ⟨k3, us, kvs, hD2, hul, hpu, hpk⟩
      have et : ds.reverse.take (ts.reverse.map V.ref).length = ds.reverse := List.take_of_length_le (by rw [List.length_map, List.length_reverse, List.length_reverse]; omega)
      rw [et] at hpk
      refine ⟨D, us, kvs, rfl, SqL.of hD2, Paired.mapP hpu fun t kv z => SqT.of z, fun pd hpd => ⟨pd, _, rfl, upd_same, fun nd o' => ?_⟩⟩
      have ekv : kvs.map (·.1) = (ds.reverse.map fun p => kS p.1).map Sum.inr := by rw [List.map_map]; exact paired_map_eq hpk fun a b z => z.1
      have nkv : (kvs.map (·.1)).Nodup := by
        rw [ekv]
        refine List.pairwise_map.mpr ?_
        have n1 : (ds.reverse.map fun p => kS p.1).Nodup := (((List.reverse_perm ds).map fun p => kS p.1).nodup_iff).mpr s2
        exact n1.imp fun h z => h (Sum.inr.inj z)
      have em : mergeK [] kvs = kvs := merge_new nkv
      rw [em]
      obtain ⟨ds2, h3, h4⟩ := dae_of hpk
      rw [upd_upd]
      refine q _ (.dict ds2) _ ((k2.trans k3).trans (same_new hpd _)) (.dic (.inl ⟨kvs, upd_same, rfl⟩) (h3.kp (.new hpd _))) (turned_dict hs od (List.reverse_perm ds) h4)
end
end K00
set_option Elab.async false
set_option linter.all false
set_option maxRecDepth 100000
set_option maxHeartbeats 8000000
/-! K01G: _law_bent. -/
namespace K00
open PySem PySem.Spec L2
open PyProof.Rows (envOfC sortedS)
/-- a document, small, at most so deep -/
def PB (D : Nat) (d : PyData) : Prop := isOne d = true ∧ SmN 5 d ∧ d.depth ≤ D
def KPb (s : Str) : Prop := nameB s = true ∧ s.length ≤ 1000 ∧ PyData.strOk s = true
theorem bent_list {D : Nat} {xs : List PyData} (h5 : xs.length ≤ 5) (h : ∀ x ∈ xs, PB D x) : PB (D + 1) (.list xs) := by
  refine ⟨isOne_list fun x hx => (h x hx).1, ⟨h5, smNL_iff.mpr fun x hx => (h x hx).2.1⟩, ?_⟩
  have := depthAll_le fun x hx => (h x hx).2.2
  simp only [PyData.depth]
  omega
theorem bent_dict {D : Nat} {ds : List (PyData × PyData)} (h5 : ds.length ≤ 5) (nd : (ds.map fun p => kS p.1).Nodup) (h : ∀ q ∈ ds, ∃ s, q.1 = .str s ∧ KPb s ∧ PB D q.2) : PB (D + 1) (.dict ds) := by
  refine ⟨isOne_dict fun q hq => ?_, ⟨h5, nd, smNK_iff.mpr fun q hq => ?_⟩, ?_⟩
  · obtain ⟨s, e, k, d⟩ := h q hq
    exact ⟨⟨s, e, k.1⟩, d.1⟩
  · obtain ⟨s, e, k, d⟩ := h q hq
    rw [e]
    exact ⟨k.2, d.2.1⟩
  · have := depthKv_le (n := D) fun q hq => (by
      obtain ⟨s, e, k, d⟩ := h q hq
      rw [e]
      exact ⟨Nat.zero_le _, d.2.2⟩ : q.1.depth ≤ D ∧ q.2.depth ≤ D)
    simp only [PyData.depth]
    omega
theorem made_bent {P : Program} {w : World} {H : Hp} {pd : Addr} {o : Obj} {more : List (Key × V)} {D : Nat} (hn : H pd = none) (h : ∀ kv ∈ more, RE P w KPb (PB D) H kv) (h5 : more.length ≤ 5) (nd : ((mergeK [] more).map (·.1)).Nodup) :
    ∃ d, PB (D + 1) d ∧ Da P w (upd (upd H pd (.dK (mergeK [] more))) pd (.frz o (.dK (mergeK [] more)))) (.ref pd) d := by
  obtain ⟨ds, h1, h2, h3, h4⟩ := made_dict (o := o) hn h rfl nd
  exact ⟨.dict ds, bent_dict (by omega) h3 h4, h1⟩
theorem paired_unmap {α β γ : Type} {F : α → γ → Prop} {g : β → γ} : ∀ {xs : List α} {ys : List β}, Paired F xs (ys.map g) → Paired (fun a b => F a (g b)) xs ys
  | _, [], .nil => .nil
  | _, _ :: _, .cons h t => .cons h (paired_unmap t)
theorem four_kpb : ∀ s ∈ (["x", "y", "k", "q"] : List Str), KPb s ∧ True := fun s hs => by
  have := kp_of (List.all_eq_true.mp four_ok s hs)
  exact ⟨⟨this.1, this.2.1, this.2.2.1⟩, trivial⟩
def pB (n : Nat) : Nat := 24 + 4 * n
section
variable {P : Program} {w : World} {K : PySem.W.Frag} {mg : Str → Option Value} {base : Heap} {f g g2 g3 : Addr} {fd gd gd2 gd3 : FuncData}
def spBent (P : Program) (w : World) (n : Nat) : Sp := fun vs H Q _ => ∃ (p : Addr) (c : Nat) (x : V) (d : PyData), vs = [.ref p, x] ∧ Da P w H x d ∧ SmN 4 d ∧ isOne d = true ∧ d.depth < n ∧ PotAt H p c ∧ c + pB n ≤ 6000 ∧
  ∀ x' d' H', PB (d.depth + 2) d' → Da P w H' x' d' → Ch p H H' → PotAt H' p (c + pB n) → Q x' H'
theorem scBent : FnScope ["_law_pot", "_law_document", "_law_at", "_law_pick", "_law_fields", "_law_field", "_law_other", "_law_part", "_law_bent_here"] ["_law_pot", "_law_document"] (defScope (top 22)) := ⟨rfl, rfl, rfl, by decide +kernel, rfl, by decide +kernel, by decide +kernel⟩
theorem ent_re {H : Hp} {k : V} {v : V} {dd : PyData × PyData} {ds : List (PyData × PyData)} (hm : dd ∈ ds) (h4 : SmN 4 (.dict ds)) (od : isOne (.dict ds) = true) (hk : Da P w H k dd.1) (hv : Da P w H v dd.2) :
    k = V.str (kS dd.1) ∧ RE P w KPb (PB ((PyData.dict ds).depth + 1)) H (Sum.inr (kS dd.1), v) := by
  have e := keyB_str (isOne_keys od dd hm)
  refine ⟨?_, kS dd.1, dd.2, rfl, ⟨?_, ?_⟩, hv, isOne_kidsOf od _ (List.mem_map.mpr ⟨dd, hm, rfl⟩), (smNK_iff.mp h4.2.2 dd hm).2.mono (by decide), ?_⟩
  · rw [e] at hk
    generalize k = z at hk
    cases hk
    rfl
  · have := isOne_keys od dd hm
    rw [e] at this
    exact this
  · have := (smNK_iff.mp h4.2.2 dd hm).1
    rw [e] at this
    exact this
  · have := depth_kids (d := .dict ds) (List.mem_map.mpr ⟨dd, hm, rfl⟩)
    omega
theorem ok_bent {n : Nat} (F : FnD K "_law_bent" 22 f fd) (B : Bl mg) (GT : FnOk P w K mg base CX0 1 g2 gd2 ["_law_pot", "_law_upto"] spTake) (bT : Binds K gd2 ["_law_pot", "_law_upto"] []) (kT : PySem.W.keepIn K (.ref g2) = true) (gT : mg "_law_take" = some (.ref g2))
    (GO : FnOk P w K mg base CX0 2 g gd ["_law_pot", "_law_some"] spOf) (bO : Binds K gd ["_law_pot", "_law_some"] []) (kO : PySem.W.keepIn K (.ref g) = true) (gO : mg "_law_of" = some (.ref g))
    (GA1 : FnOk P w K mg base CX0 5 g3 gd3 ["_law_pot", "_law_deep"] (spAny P w 1)) (GA2 : FnOk P w K mg base CX0 6 g3 gd3 ["_law_pot", "_law_deep"] (spAny P w 2)) (bA : Binds K gd3 ["_law_pot", "_law_deep"] []) (kA : PySem.W.keepIn K (.ref g3) = true) (gA : mg "_law_any" = some (.ref g3))
    (GR : FnOk P w K mg base CX0 (n + 6) f fd ["_law_pot", "_law_document"] (spBent P w n)) (bR : Binds K fd ["_law_pot", "_law_document"] []) (gR : mg "_law_bent" = some (.ref f)) :
    FnOk P w K mg base CX0 (n + 7) f fd ["_law_pot", "_law_document"] (spBent P w (n + 1)) := by
  refine F.ok scBent (fun vs H Q E h => ?_) (fun cdv A outer s H vs Q E hr h => ?_)
  · obtain ⟨p, c, x, d, rfl, _⟩ := h
    rfl
  obtain ⟨p, c, x, d, rfl, hd, h4, od, hn, hp, hc, q⟩ := h
  have hu := hu_of hr
  have hu0 := Nat.lt_of_succ_lt hu
  have hr1 : Room 1 _ := hr.mono (by omega)
  have hr2 : Room 2 _ := hr.mono (by omega)
  have hr5 : Room 5 _ := hr.mono (by omega)
  have hr6 : Room 6 _ := hr.mono (by omega)
  refine ⟨_, PSs.nox (pss_cons (ps_if (PW.pt (pw_and (pt_val (pe_callB call_isDa (by rfl) B.isi (by decide +kernel) (pa_cons (pv 1) (pa_cons (pe_bltn (v := .ty "list") (by rfl) B.list (by decide +kernel) rfl) pa_nil))))
        (pw_and (pt_cmpR (op_neNil hu0) (pv 1) (pe_lst pa_nil) (nomark _)) (pw_and1 (pt_cmpR op_gt (pe_call GT hr1 rfl gT kT bT .nil pass0 (pa_cons (pv 0) (pa_cons pe_int pa_nil))) pe_int (nomark _))))))
      (pss_cons (ps_par (i := 2) (j := 3) rfl scBent.nd rfl rfl (by decide) rfl rfl (pa_cons (pe_call GT hr1 rfl gT kT bT .nil pass0 (pa_cons (pv 0) (pa_cons (pe_callB call_len_seq (by rfl) B.len PySem.boot_len (pa_cons (pv 1) pa_nil)) pa_nil)))
          (pa_cons (pe_call GT hr1 rfl gT kT bT .nil pass0 (pa_cons (pv 0) (pa_cons pe_int pa_nil))) pa_nil)) (by rfl))
      (pss_cons (ps_if (pt_cmpR op_eq (pv 3) pe_int (nomark _)) (pss_one (ps_ret (pe_fz (pe_op op_cat (pe_slice sl_list (pv 1) po_none (po_some (pv 2))) (pe_slice sl_list (pv 1) (po_some (pe_op op_add (pv 2) pe_int)) po_none))))) pss_nil)
      (pss_cons (ps_if (pt_cmpR op_eq (pv 3) pe_int (nomark _)) (pss_one (ps_ret (pe_fz (pe_op op_cat (pe_op op_cat (pe_slice sl_list (pv 1) po_none (po_some (pv 2))) (pe_lst (pa_cons (pe_ix ix_list (pv 1) (pv 2) (fun _ _ => rfl)) pa_nil))) (pe_slice sl_list (pv 1) (po_some (pv 2)) po_none))))) pss_nil)
      (pss_one (ps_ret (pe_fz (pe_op op_cat (pe_op op_cat (pe_slice sl_list (pv 1) po_none (po_some (pv 2))) (pe_lst (pa_cons (pe_call GR hr rfl gR F.kp bR .nil pass0 (pa_cons (pv 0) (pa_cons (pe_ix ix_list (pv 1) (pv 2) (fun _ _ => rfl)) pa_nil))) pa_nil)))
          (pe_slice sl_list (pv 1) (po_some (pe_op op_add (pv 2) pe_int)) po_none)))))))) pss_nil)
    (pss_cons (ps_if (PW.pt (pw_and (pt_val (pe_callB call_isDa (by rfl) B.isi (by decide +kernel) (pa_cons (pv 1) (pa_cons (pe_bltn (v := .ty "dict") (by rfl) B.dict (by decide +kernel) rfl) pa_nil))))
        (pw_and (pt_cmpR (op_neNilD hu0) (pv 1) pe_dnewK (nomark _)) (pw_and1 (pt_cmpR op_gt (pe_call GT hr1 rfl gT kT bT .nil pass0 (pa_cons (pv 0) (pa_cons pe_int pa_nil))) pe_int (nomark _))))))
      (pss_cons (ps_set (i := 4) scBent.nd rfl (Or.inl rfl) (pe_callB (call_sortedD rfl) (by rfl) B.sorted (by decide +kernel) (pa_cons (pv 1) pa_nil)))
      (pss_cons (ps_asg (pe_tup (pa_cons (pe_call GO hr2 rfl gO kO bO .nil pass0 (pa_cons (pv 0) (pa_cons (pv 4) pa_nil)))
          (pa_cons (pe_call GT hr1 rfl gT kT bT .nil pass0 (pa_cons (pv 0) (pa_cons pe_int pa_nil))) pa_nil)))
          (pg_tup (by rfl) (pgs_cons (pg_name (i := 5) scBent.nd rfl (Or.inr rfl)) (pgs_cons (pg_name (i := 3) scBent.nd rfl (Or.inl rfl)) pgs_nil))))
      (pss_cons (ps_if (pt_cmpR op_eq (pv 3) pe_int (nomark _)) (pss_one (ps_ret (pe_fzK (pe_callTy (call_dictP rfl) (by rfl) B.dict (by decide +kernel) (pa_cons
          (pe_lc (own := [("_law_other", 6), ("_law_part", 7)]) (g := gTup K 2 (gCons (gName 6) (gCons (gName 7) gNil))) rfl scBent.nd (pi_itemsD (pv 1))
            (blkOk_by (N := ["_law_pot", "_law_document", "_law_at", "_law_pick", "_law_fields", "_law_field", "_law_other", "_law_part", "_law_bent_here"]) (sc := defScope (top 22)) (by decide +kernel))
            (fun _ _ _ _ _ => pg_tup (by rfl) (pgs_cons (pg_name (i := 6) scBent.nd rfl (Or.inl rfl)) (pgs_cons (pg_name (i := 7) scBent.nd rfl (Or.inl rfl)) pgs_nil)))
            (fun _ _ _ _ _ => pts_one (pt_cmpR op_ne (pv 6) (pv 5) (nomark _)))
            (fun _ _ _ _ _ => pe_tup (pa_cons (pv 6) (pa_cons (pv 7) pa_nil)))) pa_nil))))) pss_nil)
      (pss_cons (ps_if (pt_cmpR op_eq (pv 3) pe_int (nomark _)) (pss_one (ps_ret (pe_fzK (pe_callTy (call_dictP rfl) (by rfl) B.dict (by decide +kernel) (pa_cons
          (pe_op op_cat (pe_listItsD rfl (pv 1) rfl B.list (by decide +kernel)) (pe_lst (pa_cons (pe_tup (pa_cons (pe_call GO hr2 rfl gO kO bO .nil pass0 (pa_cons (pv 0) (pa_cons (pe_lst (pa_cons pe_str (pa_cons pe_str (pa_cons pe_str (pa_cons pe_str pa_nil))))) pa_nil)))
            (pa_cons (pe_call GA1 hr5 rfl gA kA bA .nil pass0 (pa_cons (pv 0) (pa_cons pe_int pa_nil))) pa_nil))) pa_nil))) pa_nil))))) pss_nil)
      (pss_cons (ps_set (i := 8) scBent.nd rfl (Or.inr rfl) (pe_call GR hr rfl gR F.kp bR .nil pass0 (pa_cons (pv 0) (pa_cons (pe_dget hu (pv 1) (pv 5) (fun _ _ => rfl)) pa_nil))))
      (pss_one (ps_ret (pe_fzK (pe_callTy (call_dictP rfl) (by rfl) B.dict (by decide +kernel) (pa_cons
          (pe_lc (own := [("_law_other", 6), ("_law_part", 7)]) (g := gTup K 2 (gCons (gName 6) (gCons (gName 7) gNil))) (tt := tYes) rfl scBent.nd (pi_itemsD (pv 1))
            (blkOk_by (N := ["_law_pot", "_law_document", "_law_at", "_law_pick", "_law_fields", "_law_field", "_law_other", "_law_part", "_law_bent_here"]) (sc := defScope (top 22)) (by decide +kernel))
            (fun _ _ _ _ _ => pg_tup (by rfl) (pgs_cons (pg_name (i := 6) scBent.nd rfl (Or.inl rfl)) (pgs_cons (pg_name (i := 7) scBent.nd rfl (Or.inl rfl)) pgs_nil)))
            (fun _ _ _ _ _ => pts_nil)
            (fun _ _ _ _ _ => pe_tup (pa_cons (pv 6) (pa_cons (pe_ifExp (pt_cmpR op_eq (pv 6) (pv 5) (nomark _)) (pv 8) (pv 7)) pa_nil)))) pa_nil)))))))))) pss_nil)
    (pss_one (ps_ret (pe_call GA2 hr6 rfl gA kA bA .nil pass0 (pa_cons (pv 0) (pa_cons pe_int pa_nil)))))))
    , ?_⟩
  have eB : pB (n + 1) = 28 + 4 * n := by unfold pB; omega
  have eBn : pB n = 24 + 4 * n := rfl
  have a1 : potA 1 = 8 := rfl
  have a2 : potA 2 = 20 := rfl
  have anyway : ∀ H1 c1, Ch p H H1 → PotAt H1 p c1 → c1 ≤ c + 1 → spAny P w 2 [.ref p, .int 2] H1 (fun x H' => Q x H') (fun _ _ _ => False) := fun H1 c1 k1 hp1 hc1 => ⟨p, c1, rfl, hp1, by omega, fun x' d' H' o1 dr da k hp' =>
    q x' d' H' ⟨o1, dr.sm.mono (by decide), Nat.le_trans dr.dep (by omega)⟩ da (k1.trans k) (hp'.mono (by omega))⟩
  cases hd with
  | non => exact ⟨_, rfl, _, "list", _, _, rfl, .non, kt_l _, _, rfl, iteF (iteF ⟨_, rfl, _, "dict", _, _, rfl, .non, kt_k _, _, rfl, iteF (iteF ⟨_, rfl, anyway H c (.refl p H) hp (by omega)⟩)⟩)⟩
  | bl b => exact ⟨_, rfl, _, "list", _, _, rfl, .bl b, kt_l _, _, rfl, iteF (iteF ⟨_, rfl, _, "dict", _, _, rfl, .bl b, kt_k _, _, rfl, iteF (iteF ⟨_, rfl, anyway H c (.refl p H) hp (by omega)⟩)⟩)⟩
  | int b => exact ⟨_, rfl, _, "list", _, _, rfl, .int b, kt_l _, _, rfl, iteF (iteF ⟨_, rfl, _, "dict", _, _, rfl, .int b, kt_k _, _, rfl, iteF (iteF ⟨_, rfl, anyway H c (.refl p H) hp (by omega)⟩)⟩)⟩
  | str b => exact ⟨_, rfl, _, "list", _, _, rfl, .str b, kt_l _, _, rfl, iteF (iteF ⟨_, rfl, _, "dict", _, _, rfl, .str b, kt_k _, _, rfl, iteF (iteF ⟨_, rfl, anyway H c (.refl p H) hp (by omega)⟩)⟩)⟩
  | tup h r => exact (Bool.false_ne_true (show false = true from od)).elim
  | @lst a o xs ds h r =>
    have hl := r.length
    have l4 : ds.length ≤ 4 := h4.1
    have sD := smNL_iff.mp h4.2
    have hpb : ∀ x ∈ ds, PB ((PyData.list ds).depth + 1) x := fun x hx => ⟨isOne_kidsOf od x hx, (sD x hx).mono (by decide), by have := depth_kids (d := .list ds) hx; omega⟩
    obtain ⟨ys0, hq0⟩ := hp.lst
    have nap : a ≠ p := fun e => by rw [e, hq0] at h; cases h
    refine ⟨_, rfl, _, "list", _, _, rfl, .lst h r, kt_l _, _, rfl, iteT ⟨_, rfl, Nat.zero_le _, fun l0 hl0 => ⟨a, l0, xs, rfl, rfl, .inl (.inr ⟨o, (same_new hl0 _) _ _ h⟩), SqL.of upd_same, _, rfl, ?_⟩⟩⟩
    have k0 : Ch p H (upd H l0 (.lst [])) := .same (same_new hl0 _)
    have hp0 := hp.same (same_new hl0 (.lst []))
    refine ite2 (fun c0 => ?_) (fun _ => ?fall)
    case fall =>
      refine iteF ?_
      exact ⟨_, rfl, _, "dict", _, _, rfl, .lst (k0 _ _ nap h) (r.kp (.new hl0 _)), kt_k _, _, rfl, iteF (iteF ⟨_, rfl, anyway _ c k0 hp0 (by omega)⟩)⟩
    have l1 : 1 ≤ xs.length := by
      cases xs with
      | nil => exact (Bool.false_ne_true c0).elim
      | cons _ _ => exact Nat.le_add_left _ _
    refine ⟨_, rfl, p, 4, c, rfl, by decide, by decide, hp0, by omega, fun t1 H1 t10 t11 k1 hp1 => ⟨_, _, rfl, rfl, _, rfl, ?_⟩⟩
    have kH1 := k0.trans k1
    refine ite2 (fun _ => ?_) (fun _ => ?fall)
    case fall => exact ⟨_, rfl, _, "dict", _, _, rfl, .lst (kH1 _ _ nap h) (r.kp (.ch kH1 hq0)), kt_k _, _, rfl, iteF (iteF ⟨_, rfl, anyway _ (c + 1) kH1 hp1 (by omega)⟩)⟩
    refine ⟨_, rfl, _, rfl, a, _, rfl, .inl (.inl (.inr ⟨o, kH1 _ _ nap h⟩)), p, _, c + 1, rfl, by omega, by omega, hp1, by omega, fun m H2 m0 m1 k2 hp2 => ?_⟩
    refine ⟨_, rfl, p, 4, c + 2, rfl, by decide, by decide, hp2, by omega, fun pk H3 pk0 pk1 k3 hp3 => ⟨_, _, rfl, ?_⟩⟩
    have kH3 := (kH1.trans k2).trans k3
    have h3 := kH3 _ _ nap h
    have hm : m.toNat < xs.length := by omega
    have em : m = ((m.toNat : Nat) : Int) := by omega
    have at_ : atI xs ((m.toNat : Nat) : Int) = some xs[m.toNat] := atI_nat (List.getElem?_eq_getElem hm)
    rw [← em] at at_
    obtain ⟨pd, hpd, hpda⟩ := r.get (List.getElem?_eq_getElem hm)
    have hpm := List.mem_of_getElem? hpd
    obtain ⟨ys3, hq3⟩ := hp3.lst
    have r3 : DaL P w H3 xs ds := r.kp (.ch kH3 hq0)
    have eT : cutV xs none (some m) = xs.take m.toNat := cut_to _ m0
    have eD : cutV xs (some m) none = xs.drop m.toNat := cut_from _ m0
    have eD1 : cutV xs (some (m + 1)) none = xs.drop (m.toNat + 1) := by
      rw [cut_from _ (by omega)]
      congr 1
      omega
    have lT : (xs.take m.toNat).length = m.toNat := by rw [List.length_take]; omega
    have lT' : (ds.take m.toNat).length = m.toNat := by rw [List.length_take]; omega
    refine ⟨_, rfl, rfl, _, rfl, ?_⟩
    refine ite2 (fun _ => ?_) (fun _ => ?_)
    · refine ⟨_, rfl, _, rfl, _, rfl, a, _, rfl, .inl (.inr ⟨o, h3⟩), fun b1 hb1 => ?_⟩
      rw [eT]
      have s1 := same_new hb1 (.lst (xs.take m.toNat))
      refine ⟨_, rfl, _, rfl, _, _, rfl, rfl, _, rfl, a, _, rfl, .inl (.inr ⟨o, s1 _ _ h3⟩), fun b2 hb2 => ?_⟩
      rw [eD1]
      have s2 := same_new hb2 (.lst (xs.drop (m.toNat + 1)))
      refine ⟨b1, b2, _, _, rfl, rfl, s2 _ _ upd_same, upd_same, Nat.le_of_lt (small1000 (by rw [lT, List.length_drop]; omega)), fun b3 hb3 => ⟨b3, _, rfl, upd_same, trivial, fun o' => ?_⟩⟩
      rw [upd_upd]
      have s3 := s1.trans (s2.trans (same_new hb3 (.frz o' (.lst (xs.take m.toNat ++ xs.drop (m.toNat + 1))))))
      refine q _ (.list (ds.take m.toNat ++ ds.drop (m.toNat + 1))) _ (bent_list (by rw [List.length_append, lT', List.length_drop]; omega) fun x hx => ?_) (.lst upd_same (((r3.take _).append (r3.drop _)).kp (.same s3))) (kH3.trans (.same s3)) ((hp3.same s3).mono (by omega))
      rcases List.mem_append.mp hx with z | z
      · exact hpb x (List.mem_of_mem_take z)
      · exact hpb x (List.mem_of_mem_drop z)
    refine ⟨_, rfl, rfl, _, rfl, ?_⟩
    refine ite2 (fun _ => ?_) (fun _ => ?_)
    · refine ⟨_, rfl, _, rfl, _, rfl, a, _, rfl, .inl (.inr ⟨o, h3⟩), fun b1 hb1 => ?_⟩
      rw [eT]
      have s1 := same_new hb1 (.lst (xs.take m.toNat))
      refine ⟨_, rfl, _, rfl, a, _, _, _, rfl, rfl, .inl (.inr ⟨o, s1 _ _ h3⟩), at_, (by show 1 ≤ sizeLine; decide), fun b2 hb2 => ?_⟩
      have s2 := same_new hb2 (.lst [xs[m.toNat]])
      refine ⟨b1, b2, _, _, rfl, rfl, s2 _ _ upd_same, upd_same, Nat.le_of_lt (small1000 (by rw [lT]; simp; omega)), fun b3 hb3 => ?_⟩
      have s3 := same_new hb3 (.lst (xs.take m.toNat ++ [xs[m.toNat]]))
      refine ⟨_, rfl, _, rfl, _, rfl, a, _, rfl, .inl (.inr ⟨o, s3 _ _ (s2 _ _ (s1 _ _ h3))⟩), fun b4 hb4 => ?_⟩
      rw [eD]
      have s4 := same_new hb4 (.lst (xs.drop m.toNat))
      refine ⟨b3, b4, _, _, rfl, rfl, s4 _ _ upd_same, upd_same, Nat.le_of_lt (small1000 (by rw [List.length_append, lT, List.length_drop]; simp; omega)), fun b5 hb5 => ⟨b5, _, rfl, upd_same, trivial, fun o' => ?_⟩⟩
      rw [upd_upd]
      have s5 := s1.trans (s2.trans (s3.trans (s4.trans (same_new hb5 (.frz o' (.lst (xs.take m.toNat ++ [xs[m.toNat]] ++ xs.drop m.toNat)))))))
      refine q _ (.list (ds.take m.toNat ++ [pd] ++ ds.drop m.toNat)) _ (bent_list (by rw [List.length_append, List.length_append, lT', List.length_drop]; simp; omega) fun x hx => ?_)
        (.lst upd_same ((((r3.take _).append (.cons (hpda.kp (.ch kH3 hq0)) .nil)).append (r3.drop _)).kp (.same s5))) (kH3.trans (.same s5)) ((hp3.same s5).mono (by omega))
      rcases List.mem_append.mp hx with z | z
      · rcases List.mem_append.mp z with z | z
        · exact hpb x (List.mem_of_mem_take z)
        · rw [List.mem_singleton.mp z]
          exact hpb _ hpm
      · exact hpb x (List.mem_of_mem_drop z)
    · refine ⟨_, rfl, _, rfl, _, rfl, a, _, rfl, .inl (.inr ⟨o, h3⟩), fun b1 hb1 => ?_⟩
      rw [eT]
      have s1 := same_new hb1 (.lst (xs.take m.toNat))
      have n1 : b1 ≠ p := new_ne (same_refl _) hq3 hb1
      refine ⟨_, rfl, _, rfl, _, rfl, a, _, _, _, rfl, rfl, .inl (.inr ⟨o, s1 _ _ h3⟩), at_, p, c + 3, _, pd, rfl, (hpda.kp (.ch kH3 hq0)).kp (.same s1), sD pd hpm, isOne_kidsOf od pd hpm, (by have := depth_kids (d := .list ds) hpm; omega), hp3.same s1, by omega,
        fun x' d' H4 pb' da' k4 hp4 => ⟨(by show 1 ≤ sizeLine; decide), fun b2 hb2 => ?_⟩⟩
      have h4' := k4 _ _ nap (s1 _ _ h3)
      have hb14 := k4 _ _ n1 upd_same
      have s2 := same_new hb2 (.lst [x'])
      refine ⟨b1, b2, _, _, rfl, rfl, s2 _ _ hb14, upd_same, Nat.le_of_lt (small1000 (by rw [lT]; simp; omega)), fun b3 hb3 => ?_⟩
      have s3 := same_new hb3 (.lst (xs.take m.toNat ++ [x']))
      refine ⟨_, rfl, _, rfl, _, _, rfl, rfl, _, rfl, a, _, rfl, .inl (.inr ⟨o, s3 _ _ (s2 _ _ h4')⟩), fun b4 hb4 => ?_⟩
      rw [eD1]
      have s4 := same_new hb4 (.lst (xs.drop (m.toNat + 1)))
      refine ⟨b3, b4, _, _, rfl, rfl, s4 _ _ upd_same, upd_same, Nat.le_of_lt (small1000 (by rw [List.length_append, lT, List.length_drop]; simp; omega)), fun b5 hb5 => ⟨b5, _, rfl, upd_same, trivial, fun o' => ?_⟩⟩
      rw [upd_upd]
      have s5 := s2.trans (s3.trans (s4.trans (same_new hb5 (.frz o' (.lst (xs.take m.toNat ++ [x'] ++ xs.drop (m.toNat + 1)))))))
      have kp4 : Kp H3 _ := (Kp.same s1).trans ((Kp.ch k4 (s1 _ _ hq3)).trans (.same s5))
      refine q _ (.list (ds.take m.toNat ++ [d'] ++ ds.drop (m.toNat + 1))) _ (bent_list (by rw [List.length_append, List.length_append, lT', List.length_drop]; simp; omega) fun x hx => ?_)
        (.lst upd_same ((((r3.take _).kp kp4).append (.cons (da'.kp (.same s5)) .nil)).append ((r3.drop _).kp kp4))) (((kH3.trans (.same s1)).trans k4).trans (.same s5)) ((hp4.same s5).mono (by omega))
      rcases List.mem_append.mp hx with z | z
      · rcases List.mem_append.mp z with z | z
        · exact hpb x (List.mem_of_mem_take z)
        · rw [List.mem_singleton.mp z]
          exact ⟨pb'.1, pb'.2.1, Nat.le_trans pb'.2.2 (by have := depth_kids (d := .list ds) hpm; omega)⟩
      · exact hpb x (List.mem_of_mem_drop z)
  | @dic a o es ds h r =>
    have hk := isOne_keys od
    obtain ⟨kvs, hf, rfl, hks⟩ := doc_dict h r hk
    have dl4 : ds.length ≤ 4 := h4.1
    have dnd : (ds.map fun p => kS p.1).Nodup := h4.2.1
    have hkl : kvs.length = ds.length := by
      have := r.length
      rw [List.length_map] at this
      exact this
    obtain ⟨ys0, hq0⟩ := hp.lst
    have nap : a ≠ p := fun e => by rw [e, hq0] at hf; cases hf
    refine ⟨_, rfl, _, "list", _, _, rfl, .dic h r, kt_l _, _, rfl, iteF (iteF ⟨_, rfl, _, "dict", _, _, rfl, .dic h r, kt_k _, _, rfl, iteT ⟨_, rfl, fun l0 hl0 => ⟨a, l0, kvs, rfl, rfl, .inr ⟨o, (same_new hl0 _) _ _ hf⟩, .inl upd_same, _, rfl, ?_⟩⟩⟩)⟩
    have k0 : Ch p H (upd H l0 (.dK [])) := .same (same_new hl0 _)
    have hp0 := hp.same (same_new hl0 (.dK []))
    refine ite2 (fun c0 => ?_) (fun _ => ?fall)
    case fall => exact iteF ⟨_, rfl, anyway _ c k0 hp0 (by omega)⟩
    have l1 : 1 ≤ kvs.length := by
      cases kvs with
      | nil => exact (Bool.false_ne_true c0).elim
      | cons _ _ => exact Nat.le_add_left _ _
    refine ⟨_, rfl, p, 4, c, rfl, by decide, by decide, hp0, by omega, fun t1 H1 t10 t11 k1 hp1 => ⟨_, _, rfl, rfl, _, rfl, ?_⟩⟩
    have kH1 := k0.trans k1
    refine ite2 (fun _ => ?_) (fun _ => ?fall)
    case fall => exact ⟨_, rfl, anyway _ (c + 1) kH1 hp1 (by omega)⟩
    have hf1 := kH1 _ _ nap hf
    refine ⟨_, rfl, a, kvs, _, rfl, .inr ⟨o, hf1⟩, hks, by rw [List.length_map]; omega, fun ys lp hpm hsy hlp => ?_⟩
    obtain ⟨ys1, hq1⟩ := hp1.lst
    have nlp : lp ≠ p := new_ne (same_refl _) hq1 hlp
    have sL := same_new hlp (.lst (ys.map V.str))
    have hyl : ys.length = ds.length := by rw [hpm.length_eq, List.length_map]
    refine ⟨_, rfl, _, rfl, p, lp, ys.map V.str, c + 1, rfl, upd_same, nlp, by rw [List.length_map]; omega, by rw [List.length_map]; omega, hp1.same sL, by omega, fun fx H2 hfx k2 hp2 => ?_⟩
    obtain ⟨fs, hfs, rfl⟩ := List.mem_map.mp hfx
    have fin : fs ∈ ds.map fun p => kS p.1 := hpm.mem_iff.mp hfs
    obtain ⟨ys2, hq2⟩ := hp2.lst
    refine ⟨_, rfl, p, 4, c + 2, rfl, by decide, by decide, hp2, by omega, fun pk H3 pk0 pk1 k3 hp3 => ⟨(by show 2 ≤ sizeLine; decide), fun t2 ht2 => ?_⟩⟩
    have sT := same_new ht2 (.tup [V.str fs, V.int pk])
    refine ⟨t2, _, rfl, SqT.of upd_same, rfl, V.str fs, [V.int pk], rfl, V.int pk, [], rfl, rfl, ?_⟩
    have kH3 := (((kH1.trans (.same sL)).trans k2).trans k3).trans (Ch.same sT)
    have hp3' := hp3.same sT
    have hf3 := kH3 _ _ nap hf
    have h3 : Dd P w (upd H3 t2 (.tup [V.str fs, V.int pk])) a o (kvs.map fun p => (kV p.1, p.2)) := .inl ⟨kvs, hf3, rfl⟩
    have r3 : DaE P w (upd H3 t2 (.tup [V.str fs, V.int pk])) (kvs.map fun p => (kV p.1, p.2)) ds := r.kp (.ch kH3 hq0)
    generalize upd H3 t2 (.tup [V.str fs, V.int pk]) = H4 at kH3 hp3' hf3 h3 r3 ⊢
    obtain ⟨ys4, hq4⟩ := hp3'.lst
    have hsc : ∀ x y : Str, scal (.str x) (.str y) = true := fun _ _ => rfl
    refine ⟨_, rfl, rfl, _, rfl, ?_⟩
    refine ite2 (fun _ => ?_) (fun _ => ?_)
    · refine ⟨_, rfl, a, o, _, rfl, h3, fun D hD => ?_⟩
      have nD : D ≠ p := new_ne (same_refl _) hq4 hD
      have sD := same_new hD (.lst [])
      refine lc_it (walk_itemsD (P := P) (w := w) (d := a) (o := o) (es := kvs.map fun p => (kV p.1, p.2))) (fun i H5 => Same H4 H5 ∧ ∃ us more, H5 D = some (.lst (us.map V.ref)) ∧ us.length ≤ i ∧ Paired (fun (u : Addr) (kv : Key × V) => H5 u = some (.tup [kV kv.1, kv.2])) us more ∧
          ∀ kv ∈ more, RE P w KPb (PB ((PyData.dict ds).depth + 1)) H5 kv) ⟨sD, [], [], upd_same, Nat.zero_le _, .nil, (fun _ h => nomatch h)⟩ (fun _ H5 _ z => h3.kp (.same z.1)) ?_ ?_
      · rintro i v H5 H5' hi ⟨k5, us, more, hD5, hul, hpu, hre⟩ ⟨T, ⟨ke, ve⟩, hpe, rfl, hT, rfl⟩
        rw [List.length_map] at hi
        obtain ⟨dd, hdd, hk1, hv1⟩ := r3.get hpe
        obtain ⟨e1, re⟩ := ent_re (List.mem_of_getElem? hdd) h4 od hk1 hv1
        have e1' : ke = V.str (kS dd.1) := e1
        subst e1'
        have sT5 := same_new hT (.tup [V.str (kS dd.1), ve])
        have hD6 := sT5 _ _ hD5
        refine ⟨T, _, rfl, SqT.of upd_same, rfl, _, [ve], rfl, ve, [], rfl, rfl, rfl, ?_⟩
        refine ⟨_, rfl, _, rfl, hsc _ _, _, rfl, ?_⟩
        refine ite2 (fun _ => ?_) (fun _ => ?_)
        · refine ⟨_, rfl, _, rfl, (by show 2 ≤ sizeLine; decide), fun t ht => ?_⟩
          have st := same_new ht (.tup [V.str (kS dd.1), ve])
          have hD7 := st _ _ hD6
          have ntD : D ≠ t := ne_of_none hD6 ht
          have kall : Kp H5 (upd (upd (upd H5 T (.tup [V.str (kS dd.1), ve])) t (.tup [V.str (kS dd.1), ve])) D (.lst (us.map V.ref ++ [V.ref t]))) := (Kp.same (sT5.trans st)).trans (.lst hD7 _)
          refine ⟨_, hD7, small1000 (by rw [List.length_map]; omega), fun b o' e => ?_, us ++ [t], more ++ [(Sum.inr (kS dd.1), ve)], by rw [upd_same, List.map_append]; rfl, by simp; omega, ?_, fun kv hkv => ?_⟩
          · rw [upd_ne (ne_of_none e hD)]
            exact st _ _ (sT5 _ _ (k5 _ _ e))
          · refine paired_append (Paired.mapP hpu fun t kv z => kall.1 _ _ z) (.cons ?_ .nil)
            rw [upd_ne (Ne.symm ntD)]
            exact upd_same
          · rcases List.mem_append.mp hkv with z | z
            · exact (hre kv z).kp kall
            · rw [List.mem_singleton.mp z]
              exact re.kp ((Kp.same k5).trans kall)
        · exact ⟨k5.trans sT5, us, more, hD6, by omega, Paired.mapP hpu fun t kv z => sT5 _ _ z, fun kv hkv => (hre kv hkv).kp (.same sT5)⟩
      · rintro H5 ⟨k5, us, more, hD5, hul, hpu, hre⟩
        rw [List.length_map] at hul
        refine ⟨D, us, more, rfl, SqL.of hD5, Paired.mapP hpu fun t kv z => SqT.of z, fun pd hpd => ⟨pd, _, rfl, upd_same, fun nd o' => ?_⟩⟩
        obtain ⟨d', pb, da⟩ := made_bent (o := o') hpd hre (by rw [← Paired.length hpu]; omega) nd
        rw [upd_upd] at da ⊢
        have s5 := k5.trans (same_new hpd (.frz o' (.dK (mergeK [] more))))
        exact q _ d' _ pb da (kH3.trans (.same s5)) ((hp3'.same s5).mono (by omega))
    refine ⟨_, rfl, rfl, _, rfl, ?_⟩
    refine ite2 (fun _ => ?_) (fun _ => ?_)
    · refine ⟨_, rfl, a, o, _, rfl, h3, fun H5 l ts k5 hl hts hlt hl5 hpr => ?_⟩
      have hpr' := paired_unmap hpr
      have htl : ts.length = kvs.length := Paired.length hpr'
      have hp5 := hp3'.same k5
      obtain ⟨ys5, hq5⟩ := hp5.lst
      have nlp5 : l ≠ p := new_ne (same_refl _) hq4 hl
      refine ⟨_, rfl, (by show 4 ≤ sizeLine; decide), fun l6 hl6 => ?_⟩
      have s6 := same_new hl6 (.lst ((["x", "y", "k", "q"] : List Str).map V.str))
      have n6 : l6 ≠ p := new_ne (same_refl _) hq5 hl6
      refine ⟨p, l6, (["x", "y", "k", "q"] : List Str).map V.str, c + 3, rfl, upd_same, n6, by decide, by decide, hp5.same s6, by omega, fun fx2 H7 hfx2 k7 hp7 => ?_⟩
      obtain ⟨f2, hf2, rfl⟩ := List.mem_map.mp hfx2
      refine ⟨_, rfl, p, c + 4, rfl, hp7, by omega, fun x8 d8 H8 o8 dr8 da8 k8 hp8 => ⟨(by show 2 ≤ sizeLine; decide), fun t9 ht9 => ⟨(by show 1 ≤ sizeLine; decide), fun l10 hl10 => ?_⟩⟩⟩
      have s9 := same_new ht9 (.tup [V.str f2, x8])
      have s10 := same_new hl10 (.lst [V.ref t9])
      have c8 : Ch p H5 H8 := ((Ch.same s6).trans k7).trans k8
      have hl8 := c8 _ _ nlp5 hl5
      refine ⟨l, l10, ts.map V.ref, [V.ref t9], rfl, rfl, s10 _ _ (s9 _ _ hl8), upd_same, Nat.le_of_lt (small1000 (by rw [List.length_map]; simp; omega)), fun l11 hl11 => ?_⟩
      have s11 := same_new hl11 (.lst (ts.map V.ref ++ [V.ref t9]))
      have kp8 : Kp H5 H8 := .ch c8 hq5
      have s911 := s9.trans (s10.trans s11)
      refine ⟨l11, ts ++ [t9], kvs ++ [(Sum.inr f2, x8)], rfl, SqL.of (by rw [upd_same, List.map_append]; rfl), paired_append (Paired.mapP hpr' fun t kv z => SqT.of (s911 _ _ (kp8.1 _ _ z))) (.cons (SqT.of (s11 _ _ (s10 _ _ upd_same))) .nil), fun pd hpd => ⟨pd, _, rfl, upd_same, fun nd o' => ?_⟩⟩
      have hall : ∀ kv ∈ kvs ++ [(Sum.inr f2, x8)], RE P w KPb (PB ((PyData.dict ds).depth + 1)) (upd (upd (upd H8 t9 (.tup [V.str f2, x8])) l10 (.lst [V.ref t9])) l11 (.lst (ts.map V.ref ++ [V.ref t9]))) kv := by
        intro kv hkv
        rcases List.mem_append.mp hkv with z | z
        · obtain ⟨i, hi⟩ := List.mem_iff_getElem?.mp z
          have hpe : (kvs.map fun p => (kV p.1, p.2))[i]? = some (kV kv.1, kv.2) := by rw [List.getElem?_map, hi]; rfl
          obtain ⟨dd, hdd, hk1, hv1⟩ := r3.get hpe
          obtain ⟨e1, re⟩ := ent_re (List.mem_of_getElem? hdd) h4 od hk1 hv1
          have e2 : kv = (Sum.inr (kS dd.1), kv.2) := by
            obtain ⟨kk, vv⟩ := kv
            cases kk with
            | inl z => cases e1
            | inr z => cases e1; rfl
          rw [e2]
          exact re.kp (((Kp.same k5).trans kp8).trans (.same s911))
        · rw [List.mem_singleton.mp z]
          obtain ⟨h1, h2⟩ := four_kpb f2 hf2
          exact ⟨f2, d8, rfl, h1, da8.kp (.same s911), o8, dr8.sm.mono (by decide), Nat.le_trans dr8.dep (by omega)⟩
      obtain ⟨d', pb, da⟩ := made_bent (o := o') hpd hall (by simp; omega) nd
      rw [upd_upd] at da ⊢
      have s5 := s911.trans (same_new hpd (.frz o' (.dK (mergeK [] (kvs ++ [(Sum.inr f2, x8)])))))
      exact q _ d' _ pb da (((kH3.trans (.same k5)).trans c8).trans (.same s5)) ((hp8.same s5).mono (by omega))
    · obtain ⟨u, pd, hu1, hpdm, hpk, hpl, hpda⟩ := look_all r3 hks dnd fin
      have hm2 : pd.2 ∈ kids (.dict ds) := List.mem_map.mpr ⟨pd, hpdm, rfl⟩
      have dk := depth_kids hm2
      refine ⟨_, rfl, _, rfl, _, rfl, a, u, rfl, .inl ⟨kvs, Sum.inr fs, .inr ⟨o, hf3⟩, rfl, hu1.symm⟩, p, c + 3, u, pd.2, rfl, hpda, (smNK_iff.mp h4.2.2 pd hpdm).2, isOne_kidsOf od _ hm2, by omega, hp3', by omega, fun b d' H5 pb' da' k5 hp5 => ?_⟩
      obtain ⟨ys5, hq5⟩ := hp5.lst
      have kp5 : Kp H4 H5 := .ch k5 hq4
      have h5 := h3.kp kp5
      refine ⟨_, rfl, a, o, _, rfl, h5, fun D hD => ?_⟩
      have nD : D ≠ p := new_ne (same_refl _) hq5 hD
      have sD := same_new hD (.lst [])
      refine lc_it (walk_itemsD (P := P) (w := w) (d := a) (o := o) (es := kvs.map fun p => (kV p.1, p.2))) (fun i H6 => Same H5 H6 ∧ ∃ us more, H6 D = some (.lst (us.map V.ref)) ∧ us.length ≤ i ∧ Paired (fun (u : Addr) (kv : Key × V) => H6 u = some (.tup [kV kv.1, kv.2])) us more ∧
          ∀ kv ∈ more, RE P w KPb (PB ((PyData.dict ds).depth + 1)) H6 kv) ⟨sD, [], [], upd_same, Nat.zero_le _, .nil, (fun _ h => nomatch h)⟩ (fun _ H6 _ z => h5.kp (.same z.1)) ?_ ?_
      · rintro i v H6 H6' hi ⟨k6, us, more, hD6, hul, hpu, hre⟩ ⟨T, ⟨ke, ve⟩, hpe, rfl, hT, rfl⟩
        rw [List.length_map] at hi
        obtain ⟨dd, hdd, hk1, hv1⟩ := r3.get hpe
        obtain ⟨e1, re⟩ := ent_re (List.mem_of_getElem? hdd) h4 od hk1 hv1
        have e1' : ke = V.str (kS dd.1) := e1
        subst e1'
        have sT5 := same_new hT (.tup [V.str (kS dd.1), ve])
        have hD7 := sT5 _ _ hD6
        have kpT : Kp H4 (upd H6 T (.tup [V.str (kS dd.1), ve])) := kp5.trans (.same (k6.trans sT5))
        refine ⟨T, _, rfl, SqT.of upd_same, rfl, _, [ve], rfl, ve, [], rfl, rfl, rfl, ?_⟩
        simp only [tYes, if_true]
        have turn : ∀ x, RE P w KPb (PB ((PyData.dict ds).depth + 1)) (upd H6 T (.tup [V.str (kS dd.1), ve])) (Sum.inr (kS dd.1), x) → ∀ t, upd H6 T (.tup [V.str (kS dd.1), ve]) t = none →
            ∃ acc, upd (upd H6 T (.tup [V.str (kS dd.1), ve])) t (.tup [V.str (kS dd.1), x]) D = some (.lst acc) ∧ acc.length < sizeLine ∧ (fun i H6 => Same H5 H6 ∧ ∃ us more, H6 D = some (.lst (us.map V.ref)) ∧ us.length ≤ i ∧ Paired (fun (u : Addr) (kv : Key × V) => H6 u = some (.tup [kV kv.1, kv.2])) us more ∧
              ∀ kv ∈ more, RE P w KPb (PB ((PyData.dict ds).depth + 1)) H6 kv) (i + 1) (upd (upd (upd H6 T (.tup [V.str (kS dd.1), ve])) t (.tup [V.str (kS dd.1), x])) D (.lst (acc ++ [V.ref t]))) := by
          intro x hx t ht
          have st := same_new ht (.tup [V.str (kS dd.1), x])
          have hD8 := st _ _ hD7
          have ntD : D ≠ t := ne_of_none hD7 ht
          have kall : Kp (upd H6 T (.tup [V.str (kS dd.1), ve])) (upd (upd (upd H6 T (.tup [V.str (kS dd.1), ve])) t (.tup [V.str (kS dd.1), x])) D (.lst (us.map V.ref ++ [V.ref t]))) := (Kp.same st).trans (.lst hD8 _)
          refine ⟨_, hD8, small1000 (by rw [List.length_map]; omega), fun b o' e => ?_, us ++ [t], more ++ [(Sum.inr (kS dd.1), x)], by rw [upd_same, List.map_append]; rfl, by simp; omega, ?_, fun kv hkv => ?_⟩
          · rw [upd_ne (ne_of_none e hD)]
            exact st _ _ (sT5 _ _ (k6 _ _ e))
          · refine paired_append (Paired.mapP hpu fun t kv z => kall.1 _ _ (sT5 _ _ z)) (.cons ?_ .nil)
            rw [upd_ne (Ne.symm ntD)]
            exact upd_same
          · rcases List.mem_append.mp hkv with z | z
            · exact (hre kv z).kp ((Kp.same sT5).trans kall)
            · rw [List.mem_singleton.mp z]
              exact hx.kp kall
        refine ⟨_, rfl, _, rfl, _, rfl, hsc _ _, _, rfl, ?_⟩
        obtain ⟨sk, skd, sk1, sk2, _⟩ := id re
        refine ite2 (fun _ => ?_) (fun _ => ?_)
        · exact ⟨_, rfl, (by show 2 ≤ sizeLine; decide), turn b ⟨sk, d', sk1, sk2, da'.kp (.same (k6.trans sT5)), pb'.1, pb'.2.1, Nat.le_trans pb'.2.2 (by omega)⟩⟩
        · exact ⟨_, rfl, (by show 2 ≤ sizeLine; decide), turn ve (re.kp kpT)⟩
      · rintro H6 ⟨k6, us, more, hD6, hul, hpu, hre⟩
        rw [List.length_map] at hul
        refine ⟨D, us, more, rfl, SqL.of hD6, Paired.mapP hpu fun t kv z => SqT.of z, fun pd hpd => ⟨pd, _, rfl, upd_same, fun nd o' => ?_⟩⟩
        obtain ⟨d2, pb, da⟩ := made_bent (o := o') hpd hre (by rw [← Paired.length hpu]; omega) nd
        rw [upd_upd] at da ⊢
        have s5 := k6.trans (same_new hpd (.frz o' (.dK (mergeK [] more))))
        exact q _ d2 _ pb da ((kH3.trans k5).trans (.same s5)) ((hp5.same s5).mono (by omega))
end
end K00
set_option Elab.async false
set_option linter.all false
set_option maxRecDepth 100000
set_option maxHeartbeats 8000000
/-! K01H: _law_heard. -/
namespace K00
open PySem PySem.Spec L2 LamX
open PyProof.Rows (envOfC sortedS)
abbrev NgH : List Str := ["_law_call", "_law_caught", "_law_back", "error", "_law_marks", "_law_words"]
theorem scHeard : FnScope NgH ["_law_call"] (defScope (top 24)) := ⟨rfl, rfl, rfl, by decide +kernel, rfl, by decide +kernel, by decide +kernel⟩
/-- what is told of a lambda's reading -/
def TTh (C : Addr) : (XK → Hp → VK → Prop) → Hp → VK → Prop := fun tl H Q => ∀ (H0 : Hp) (E : XK) (R : VK), Same H H0 →
  (∀ (dd : Addr) (v : V) (H' : Hp), H' dd = some (.xd [(("value" : Str), v)]) → (∀ t H'', Same H' H'' → H'' t = some (.tup [.str "NoDocument", v]) → Q (.ref t) H'') → E (.ref C) (some dd) H') →
  (∀ (v : V) (H' : Hp), (∀ t H'', Same H' H'' → H'' t = some (.tup [.str "fine", v]) → Q (.ref t) H'') → R v H') → tl E H0 R
/-- what _law_heard needs of the module -/
structure HeB (K : PySem.W.Frag) (mg : Str → Option Value) (C CT fI : Addr) : Prop where
  b : Bl mg
  T : ErrT K C fI
  T0 : InitT K fI
  gC : mg "NoDocument" = some (.ref C)
  gT : mg "TaglessError" = some (.ref CT)
  ex : PySem.W.exmOne K (.ref C) (.ref CT) = some true
  kC : PySem.W.kitOne K (.ref C) (.ref C) = some true
  kV : PySem.W.kitOne K (.ref C) (.type "ValueError") = some true
theorem heard_gives {X : Cx} {g C CT fI : Addr} {cdg : Value} {q : Str} {k : Nat} (E : HeB X.K X.mg C CT fI) : GivesE X NgH "_law_heard" (defScope (top 24)) g cdg (defBody (top 24)) "_law_call" q k (TTh C) := by
  intro f c' s H Q tl hr act hc h
  refine ⟨_, pss_cons (ps_asg (X := (cxOf C8.CX0 X.prog X.w X.K X.mg X.base NgH "_law_heard" (defScope (top 24)) g cdg X.A X.stack s H C8.E0).nox) (pe_tup (pa_cons pe_non (pa_cons pe_non pa_nil)))
      (pg_tup (by rfl) (pgs_cons (pg_name (i := 1) scHeard.nd rfl (Or.inl rfl)) (pgs_cons (pg_name (i := 2) scHeard.nd rfl (Or.inl rfl)) pgs_nil))))
    (pss_cons (ps_try_keep (i := 3) (c := .ref CT)
        (tb := fun W D σ H => ∃ Ech : XK, (∀ cls d H', Ech cls d H' → W cls d σ H') ∧ σ[0]? = some (some (.ref f)) ∧ H c' = some (CodeO c' q) ∧ tl Ech H fun v H' => gName 2 v σ H' D.nx)
        rfl rfl rfl scHeard.nd rfl rfl ⟨rfl, by decide, .inl E.gT⟩ (fun W pn xe tk _ => ?act) (fun a pn => pss_one (ps_set (i := 1) scHeard.nd rfl (Or.inl rfl) (pv 3))))
    (pss_cons (ps_if (pt_cmpR op_isN (pv 1) pe_non (nomark _)) (pss_one (ps_ret (pe_tup (pa_cons pe_str (pa_cons (pv 2) pa_nil))))) pss_nil)
    (pss_cons (ps_set (i := 4) scHeard.nd rfl (Or.inl rfl) (pe_lst (pa_cons (pe_callB (call_isErrK E.T0) (by rfl) E.b.isi (by decide +kernel) (pa_cons (pv 1) (pa_cons (pe_glob (v := .ref C) rfl E.gC rfl) pa_nil))) pa_nil)))
    (pss_cons (ps_set (i := 5) scHeard.nd rfl (Or.inl rfl) (pe_split pe_str pe_str))
    (pss_cons (ps_if (PW.pt (pw_or (pt_cmpR op_ne (pe_bm PySem.F.plainAttrs_list PySem.F.slot_list_count PySem.F.type_list_count mt_countB (pv 4) (pa_cons pe_bl pa_nil)) pe_int (nomark _))
        (pw_or1 (pt_not (pt_val (pe_callB (call_isErrK E.T0) (by rfl) E.b.isi (by decide +kernel) (pa_cons (pv 1) (pa_cons (pe_bltn (v := .ty "ValueError") (by rfl) E.b.ve (by decide +kernel) rfl) pa_nil)))))))) (pss_one (ps_ret pe_no)) pss_nil)
    (pss_one (ps_ret (pe_tup (pa_cons (pe_ix ix_list (pv 5) (pe_bm PySem.F.plainAttrs_list PySem.F.slot_list_index PySem.F.type_list_index mt_index (pv 4) (pa_cons pe_bl pa_nil)) (fun _ _ => rfl)) (pa_cons (pe_valK (fI := fI) (pv 1)) pa_nil)))))))))), ?_⟩
  case act => exact pss_one (ps_set (i := 2) scHeard.nd rfl (Or.inl rfl) (act W pn xe _ _ tk))
  have two : (2 : Nat) ≤ sizeLine := by decide
  refine ⟨two, fun t0 ht0 => ⟨t0, _, rfl, SqT.of upd_same, rfl, .non, [.non], rfl, .non, [], rfl, rfl, ?_⟩⟩
  have s0 := same_new ht0 (.tup [V.non, V.non])
  refine ⟨_, fun _ _ _ z => z, rfl, s0 _ _ hc, h _ _ _ s0 (fun dd v H' hdd hq => ?_) (fun v H' hq => ?_)⟩
  · refine ⟨E.ex, fun a ha => ?_⟩
    have na : dd ≠ a := ne_of_none hdd ha
    have sa := same_new ha (erk a (.ref C) (some dd))
    have kept : IsKept (upd H' a (erk a (.ref C) (some dd))) C v (.ref a) := ⟨a, dd, rfl, upd_same, sa _ _ hdd⟩
    have es : Txt.split "NoDocument" " " = (["NoDocument"] : List Str) := by decide +kernel
    refine ⟨_, rfl, _, rfl, rfl, _, rfl, iteF ?_⟩
    refine ⟨_, rfl, .ref a, .ref C, C, v, .ref C, true, rfl, .own C, E.T, kept, E.kC, (by show 1 ≤ sizeLine; decide), fun lm hlm => ?_⟩
    have sm := same_new hlm (.lst [V.bl true])
    refine ⟨⟨_, rfl⟩, "NoDocument", " ", rfl, rfl, by decide +kernel, (by decide +kernel), fun lw hlw => ?_⟩
    rw [es]
    have sw := same_new hlw (.lst [V.str "NoDocument"])
    have hm := sw _ _ (upd_same (H := upd H' a (erk a (.ref C) (some dd))) (a := lm) (o := .lst [V.bl true]))
    refine ⟨_, rfl, .inl ⟨rfl, _, SqL.of hm⟩, lm, [true], true, rfl, rfl, SqL.of hm, rfl, _, rfl, ?_⟩
    refine ite_f (by decide) ?_
    refine ⟨_, rfl, .ref a, .ty "ValueError", C, v, .type "ValueError", true, rfl, .ty _, E.T, (kept.same sm).same sw, E.kV, _, rfl, iteF ?_⟩
    refine ⟨_, rfl, _, rfl, .inl ⟨rfl, _, SqL.of hm⟩, lm, [.bl true], .bl true, 0, .bl true, rfl, rfl, SqL.of hm, rfl, rfl, rfl, rfl, (fun m _ z => absurd z (Nat.not_lt_zero m)), lw, [.str "NoDocument"], _, _, rfl, rfl, SqL.of upd_same, rfl, ?_⟩
    refine ⟨_, rfl, C, v, E.T, (kept.same sm).same sw, two, fun t ht => ?_⟩
    exact hq t _ (sa.trans (sm.trans (sw.trans (same_new ht _)))) upd_same
  · refine ⟨_, rfl, rfl, _, rfl, iteT ⟨_, rfl, two, fun t ht => ?_⟩⟩
    exact hq t _ (same_new ht _) upd_same
end K00
set_option Elab.async false
set_option linter.all false
set_option maxRecDepth 100000
set_option maxHeartbeats 4000000
/-! K01I: inks compared; what is shown of refused data. -/
namespace K00
open PySem PySem.Spec L2
mutual
def plB : PyData → Bool
  | .none => true
  | .bool _ => false
  | .int _ => true
  | .str _ => true
  | .list xs => plL xs
  | .tuple xs => plL xs
  | .dict _ => false
def plL : List PyData → Bool
  | [] => true
  | x :: r => plB x && plL r
end
theorem plL_iff : ∀ {xs : List PyData}, plL xs = true ↔ ∀ x ∈ xs, plB x = true
  | [] => by simp [plL]
  | x :: r => by simp [plL, plL_iff (xs := r)]
mutual
theorem eqv_pl : ∀ (x y : PyData), plB x = true → plB y = true → (PyData.eqv x y = true ↔ x = y)
  | .none, y, _, hy => by cases y <;> simp [PyData.eqv]
  | .bool b, y, hx, _ => by cases hx
  | .int i, y, _, hy => by
    cases y with
    | bool b => cases hy
    | _ => simp [PyData.eqv]
  | .str s, y, _, hy => by cases y <;> simp [PyData.eqv]
  | .list xs, y, hx, hy => by
    cases y with
    | list ys =>
      have h := eqv_plL xs ys hx hy
      show PyData.eqvAll xs ys = true ↔ _
      rw [h]
      simp
    | _ => simp [PyData.eqv]
  | .tuple xs, y, hx, hy => by
    cases y with
    | tuple ys =>
      have h := eqv_plL xs ys hx hy
      show PyData.eqvAll xs ys = true ↔ _
      rw [h]
      simp
    | _ => simp [PyData.eqv]
  | .dict ds, y, hx, _ => by cases hx
theorem eqv_plL : ∀ (xs ys : List PyData), plL xs = true → plL ys = true → (PyData.eqvAll xs ys = true ↔ xs = ys)
  | [], ys, _, _ => by cases ys <;> simp [PyData.eqvAll]
  | x :: r, ys, hx, hy => by
    cases ys with
    | nil => simp [PyData.eqvAll]
    | cons y t =>
      obtain ⟨h1, h2⟩ := He.ba (show (plB x && plL r) = true from hx)
      obtain ⟨h3, h4⟩ := He.ba (show (plB y && plL t) = true from hy)
      show (PyData.eqv x y && PyData.eqvAll r t) = true ↔ _
      rw [Bool.and_eq_true, eqv_pl x y h1 h3, eqv_plL r t h2 h4]
      simp
end
mutual
theorem ink_pl : ∀ d, plB (inkD d) = true
  | .none => rfl
  | .bool _ => rfl
  | .int _ => rfl
  | .str _ => rfl
  | .tuple _ => rfl
  | .list xs => ink_plL xs
  | .dict ds => by
    show plL ((isort (inkK ds)).map pairT) = true
    refine plL_iff.mpr fun x hx => ?_
    obtain ⟨p, hp, rfl⟩ := List.mem_map.mp hx
    have h := ink_plK ds p ((isort_perm _).mem_iff.mp hp)
    show (plB p.2 && true) = true
    rw [h]
    rfl
theorem ink_plL : ∀ xs, plL (inkL xs) = true
  | [] => rfl
  | x :: r => by
    show (plB (inkD x) && plL (inkL r)) = true
    rw [ink_pl x, ink_plL r]
    rfl
theorem ink_plK : ∀ ds, ∀ p ∈ inkK ds, plB p.2 = true
  | [], p, hp => by cases hp
  | (k, v) :: r, p, hp => by
    rcases List.mem_cons.mp (show p ∈ (kS k, inkD v) :: inkK r from hp) with e | h
    · rw [e]
      exact ink_pl v
    · exact ink_plK r p h
end
theorem depthAll_map {n : Nat} {xs : List PyData} (h : ∀ x ∈ xs, x.depth ≤ n) : PyData.depthAll xs ≤ n := depthAll_le h
mutual
theorem ink_depth : ∀ d, (inkD d).depth ≤ 2 * d.depth + 1
  | .none => by decide
  | .bool _ => by show 1 ≤ 1; decide
  | .int _ => by show 1 ≤ 1; decide
  | .str _ => by show 1 ≤ 1; decide
  | .tuple _ => by show 0 ≤ _; omega
  | .list xs => by
    have h := ink_depthL xs
    show max 0 (PyData.depthAll (inkL xs)) + 1 ≤ 2 * (PyData.depthAll xs + 1) + 1
    omega
  | .dict ds => by
    have h : PyData.depthAll ((isort (inkK ds)).map pairT) ≤ 2 * PyData.depthKv ds + 2 := depthAll_le fun x hx => by
      obtain ⟨p, hp, rfl⟩ := List.mem_map.mp hx
      have h := ink_depthK ds p ((isort_perm _).mem_iff.mp hp)
      show max 0 (max p.2.depth 0) + 1 ≤ _
      omega
    show max 0 (PyData.depthAll ((isort (inkK ds)).map pairT)) + 1 ≤ 2 * (PyData.depthKv ds + 1) + 1
    omega
theorem ink_depthL : ∀ xs, PyData.depthAll (inkL xs) ≤ 2 * PyData.depthAll xs + 1
  | [] => by decide
  | x :: r => by
    have h1 := ink_depth x
    have h2 := ink_depthL r
    show max (inkD x).depth (PyData.depthAll (inkL r)) ≤ 2 * max x.depth (PyData.depthAll r) + 1
    omega
theorem ink_depthK : ∀ ds, ∀ p ∈ inkK ds, p.2.depth ≤ 2 * PyData.depthKv ds + 1
  | [], p, hp => by cases hp
  | (k, v) :: r, p, hp => by
    show p.2.depth ≤ 2 * max (max k.depth v.depth) (PyData.depthKv r) + 1
    rcases List.mem_cons.mp (show p ∈ (kS k, inkD v) :: inkK r from hp) with e | h
    · rw [e]
      have h1 := ink_depth v
      show (inkD v).depth ≤ _
      omega
    · have h1 := ink_depthK r p h
      omega
end
theorem layAll_iff : ∀ {xs : List PyData}, PyData.canLayAll0 xs = true ↔ ∀ x ∈ xs, x.canLay0 = true
  | [] => by simp [PyData.canLayAll0]
  | x :: r => by simp [PyData.canLayAll0, layAll_iff (xs := r)]
theorem ok_words : (["word", "None", "True", "False", "int", "text", "list", "record"] : List Str).all (fun s => PyData.strOk s) = true := by decide +kernel
theorem ok_word {s : Str} (h : s ∈ (["word", "None", "True", "False", "int", "text", "list", "record"] : List Str)) : PyData.strOk s = true := List.all_eq_true.mp ok_words s h
theorem lay2 {s : Str} {d : PyData} (h1 : PyData.strOk s = true) (h2 : d.canLay0 = true) : (PyData.tuple [.str s, d]).canLay0 = true := by
  show (PyData.strOk s && (d.canLay0 && true)) = true
  rw [h1, h2]
  rfl
mutual
theorem ink_lay : ∀ d, Sm d → isOne d = true → (inkD d).canLay0 = true
  | .none, _, _ => lay2 (ok_word (by simp)) (ok_word (by simp))
  | .bool true, _, _ => lay2 (ok_word (by simp)) (ok_word (by simp))
  | .bool false, _, _ => lay2 (ok_word (by simp)) (ok_word (by simp))
  | .int _, _, _ => lay2 (ok_word (by simp)) rfl
  | .str s, h, _ => lay2 (ok_word (by simp)) h.2
  | .tuple _, _, _ => rfl
  | .list xs, h, o => by
    show (PyData.strOk "list" && PyData.canLayAll0 (inkL xs)) = true
    rw [ok_word (s := "list") (by simp), ink_layL xs h.2 (show isOneL xs = true from o)]
    rfl
  | .dict ds, h, o => by
    show (PyData.strOk "record" && PyData.canLayAll0 ((isort (inkK ds)).map pairT)) = true
    rw [ok_word (s := "record") (by simp), Bool.true_and]
    refine layAll_iff.mpr fun x hx => ?_
    obtain ⟨p, hp, rfl⟩ := List.mem_map.mp hx
    obtain ⟨h1, h2⟩ := ink_layK ds h.2.2 (fun q hq => ⟨isOne_keys o q hq, isOne_kidsOf o _ (List.mem_map.mpr ⟨q, hq, rfl⟩)⟩) p ((isort_perm _).mem_iff.mp hp)
    exact lay2 h1 h2
theorem ink_layL : ∀ xs, SmL xs → isOneL xs = true → PyData.canLayAll0 (inkL xs) = true
  | [], _, _ => rfl
  | x :: r, h, o => by
    obtain ⟨o1, o2⟩ := He.ba (show (isOne x && isOneL r) = true from o)
    show ((inkD x).canLay0 && PyData.canLayAll0 (inkL r)) = true
    rw [ink_lay x h.1 o1, ink_layL r h.2 o2]
    rfl
theorem ink_layK : ∀ ds, SmK ds → (∀ q ∈ ds, keyB q.1 = true ∧ isOne q.2 = true) → ∀ p ∈ inkK ds, PyData.strOk p.1 = true ∧ p.2.canLay0 = true
  | [], _, _, p, hp => by cases hp
  | (k, v) :: r, h, o, p, hp => by
    rcases List.mem_cons.mp (show p ∈ (kS k, inkD v) :: inkK r from hp) with e | h'
    · rw [e]
      obtain ⟨o1, o2⟩ := o (k, v) List.mem_cons_self
      refine ⟨?_, ink_lay v h.2.1 o2⟩
      have hk := h.1
      have e2 := keyB_str o1
      have e2 : k = .str (kS k) := e2
      rw [e2] at hk
      exact hk.2
    · exact ink_layK r h.2.2 (fun q hq => o q (List.mem_cons_of_mem _ hq)) p h'
end
theorem ink_shaped {d : PyData} (h : Sm d) (o : isOne d = true) (n : d.depth ≤ 30) : SeqAt.shaped (inkD d) = true := by
  unfold SeqAt.shaped
  have := ink_depth d
  rw [ink_lay d h o, decide_eq_true (by omega : (inkD d).depth ≤ 64)]
  rfl
theorem ink_eqv (d e : PyData) : PyData.eqv (inkD d) (inkD e) = true ↔ inkD d = inkD e := eqv_pl _ _ (ink_pl d) (ink_pl e)
section
variable {P : Program} {w : World} {K : PySem.W.Frag} {H : Hp}
mutual
theorem dp_of : ∀ {x : V} {d : PyData}, Da P w H x d → plB d = true → Dp K H x d
  | _, _, .non, _ => .non
  | _, _, .bl b, _ => .bl b
  | _, _, .int i, _ => .int i
  | _, _, .str s, _ => .str s
  | _, _, .lst (o := o) h r, e => .lst (.inl (.inr ⟨o, h⟩)) (dp_ofL r e)
  | _, _, .tup h r, e => .tup (SqT.of h) (dp_ofL r e)
  | _, _, .dic _ _, e => nomatch e
theorem dp_ofL : ∀ {xs : List V} {ds : List PyData}, DaL P w H xs ds → plL ds = true → DpAll K H xs ds
  | _, _, .nil, _ => .nil
  | _, _, .cons h r, e => .cons (dp_of h (He.ba (show (_ && _) = true from e)).1) (dp_ofL r (He.ba (show (_ && _) = true from e)).2)
end
end
/-! ### what is shown -/
theorem good_bad {n c L : Nat} {d : PyData} (h : Dr n c L d) (hn : n ≤ 30) (hL : L ≤ 400000) : goodB (.tuple [.str "NoDocument", d]) = true := by
  have h1 := h.sh
  have h2 := h.len
  have h3 := h.dep
  have e1 : (PyData.tuple [.str "NoDocument", d]).showable = true := by
    show (true && (d.showable && true)) = true
    rw [h1]
    rfl
  have e2 : (PyData.tuple [.str "NoDocument", d]).depth ≤ 40 := by
    show max 0 (max d.depth 0) + 1 ≤ 40
    omega
  have e3 : (PyData.tuple [.str "NoDocument", d]).shown.length ≤ 1000000 := by
    show (tupleText [reprText "NoDocument", d.shown]).length ≤ _
    unfold tupleText
    have j := join_le (L := L + 12) [reprText "NoDocument", d.shown] fun t ht => by
      rcases List.mem_cons.mp ht with e | ht
      · rw [e]
        have : (reprText "NoDocument").length = 12 := by decide +kernel
        omega
      · rw [List.mem_singleton.mp ht]
        omega
    rw [strLen_append, strLen_append]
    have e4 : (("(" : String) : Str).length = 1 := rfl
    have e5 : ((if ([reprText "NoDocument", d.shown] : List Str).length == 1 then ",)" else ")" : String) : Str).length = 1 := rfl
    rw [e4, e5]
    have e6 : ([reprText "NoDocument", d.shown] : List Str).length = 2 := rfl
    rw [e6] at j
    omega
  unfold goodB
  rw [e1, Nat.ble_eq_true_of_le e2, Nat.ble_eq_true_of_le e3]
  rfl
theorem good_bl : ∀ b : Bool, goodB (.tuple [.str "fine", .bool b]) = true := by decide +kernel
theorem good_int : ∀ n : Nat, n < 100 → goodB (.tuple [.str "fine", .int n]) = true := by decide +kernel
end K00
set_option Elab.async false
set_option linter.all false
set_option maxRecDepth 100000
set_option maxHeartbeats 8000000
/-! K01J: defs whose code object is named; _law_two_right. -/
namespace K00
open PySem PySem.Spec L2 LamX
open PyProof.Rows (envOfC sortedS)
/-- fnG_of, where the def's code object is the one that the written part tells -/
theorem fnG_ofC {P : Program} {w : World} {K : PySem.W.Frag} {mg : Str → Option Value} {base : Heap} {k : Nat} {x : Str} {st : Stmt} {fd : FuncData} {N ps : List Str} {sp : Sp} (F : FunD K x x (defArgs st) (defBody st) (defScope st) [] [] (He.ga K x) fd) (S : FnScope N ps (defScope st))
    (len : ∀ vs H Q E, sp vs H Q E → vs.length = ps.length)
    (body : ∀ (A : Around) (outer : List Env) (s : Shared) (H : Hp) (vs : List V) (Q : VK) (E : XK), A.guards = some [] → Room k (A.deeper (envOfC x (defScope st) s.heap.objs.size (He.ga K x) (.ref (He.codeOf K (x, none))))) → sp vs H Q E →
      ∃ t, PSs (cxOf CX0 P w K mg base N x (defScope st) (He.ga K x) (.ref (He.codeOf K (x, none))) A outer s H E) (defBody st) t ∧ t { nx := fun _ H' => Q .non H', rt := Q } (start N vs) H) :
    FnG P w K mg base (k + 1) (He.ga K x) fd ps sp := by
  refine ⟨len, ?_⟩
  intro A outer s H args us vs Q E hgd hr e0 hb r hsp
  obtain ⟨oc, od, dV, kV, doc, pm, an, cdv, ct, osl, rfl, lk, hcd, _, _⟩ := F.ex
  obtain ⟨c0, rfl⟩ := He.codeIn_ref hcd
  have ec : He.codeOf K (x, none) = c0 := He.codeOf_eq (p := (x, none)) lk rfl
  subst ec
  have stands := fun b o (e : base.get? b = some o) => (e0.bs b o e).1
  have inK : K.In s.heap := e0.mod.kin.keeps stands
  have size_ := len _ _ _ _ hsp
  have params : ∀ y ∈ ps.zip us, (defScope st).names.lookup y.1 = some .local ∨
      ((defScope st).names.lookup y.1 = some .cell ∧ ((cellsFrom (s.heap.objs.size + 1) (defScope st).names []).lookup y.1).isSome = true) := by
    rintro ⟨n, v⟩ hy
    exact (S.par n (List.of_mem_zip hy).1).imp id fun q => ⟨q, PySem.W.cellsFrom_some _ _ _ (Or.inl q)⟩
  refine codeAny_call_function hr.depth (inK _ _ lk) rfl S.co S.gen rfl
    (PySem.W.codeRec_of inK hcd) (hb _ _ _ _ (wpAny_newFunctionEnv_cells S.kind params ?_))
  intro env he s1 x
  subst he
  obtain ⟨t, ht, hq⟩ := body A outer s H vs Q E hgd (hr.deeper _) hsp
  have I := inv_start (CX := CX0) (E := E) (qual := _) S hr.hd e0 size_ r x
  refine ⟨(e0.mod.nolimit.keeps stands).keeps x.toInCall.keep, codeAny_func (wpAny_mono (ht.run [] s1 _ H _ I hq) ?_ fun _ _ z => z)⟩
  intro fl s' hs
  match fl, hs with
  | .ret u, ⟨v, σ', H', J, rv, q⟩ => exact ⟨v, H', J.os, J.bare, J.base, J.hok, rv, q⟩
  | .next, ⟨σ', H', J, q⟩ => exact ⟨V.non, H', J.os, J.bare, J.base, J.hok, rfl, q⟩
  | .brk, ⟨_, _, _, q⟩ => exact q.elim
  | .cont, ⟨_, _, _, q⟩ => exact q.elim
theorem Kp.ext {H H' : Hp} (k : ExtN H H') : Kp H H' := ⟨fun b xs e => k b _ e (fun _ z => nomatch z), fun b o u e => k b _ e (fun _ z => nomatch z)⟩
abbrev NgT : List Str := ["_law_one", "_law_other", "_law_bad", "_law_due", "_law_value"]
theorem scTwo : FnScope NgT ["_law_one", "_law_other"] (defScope (top 29)) := ⟨rfl, rfl, rfl, by decide +kernel, rfl, by decide +kernel, by decide +kernel⟩
def GoodX (d : PyData) : Prop := goodB (.tuple [.str "NoDocument", d]) = true
def pTwo : He.Defn := ("_law_two_right", none)
def qTwo : Str := (envOfC "_law_two_right" (defScope (top 29)) 0 0 .none).qual ++ "<lambda>"
def spTwo (P : Program) (w : World) (T : List (Addr × Str)) : Sp := fun vs H Q _ => ∃ (x y : V) (d e : PyData), vs = [x, y] ∧ Da P w H x d ∧ Da P w H y e ∧ Sm d ∧ Sm e ∧ d.depth < 7 ∧ e.depth < 7 ∧ cnt d ≤ 500000 ∧ cnt e ≤ 500000 ∧
  (isOne d = false → GoodX d) ∧ (isOne e = false → GoodX e) ∧ Tabs T H ∧ ∀ H', ExtN H H' → Tabs T H' → Q (.bl true) H'
section
variable {P : Program} {w : World} {K : PySem.W.Frag} {mg : Str → Option Value} {base : Heap} {g1 g2 g3 gH C CT fI : Addr} {fd gd1 gd2 gd3 dH : FuncData} {T : List (Addr × Str)}
theorem ok_two (F : FnD K "_law_two_right" 29 (He.ga K "_law_two_right") fd) (B : Bl mg) (S : SysD K)
    (G1 : FnOk P w K mg base CX0 7 g1 gd1 ["_law_value"] (spOne P w 7)) (b1 : Binds K gd1 ["_law_value"] []) (k1 : PySem.W.keepIn K (.ref g1) = true) (m1 : mg "_law_is_one" = some (.ref g1))
    (GI : FnOk P w K mg base CX0 7 g2 gd2 ["_law_document"] (spInk P w 7)) (bI : Binds K gd2 ["_law_document"] []) (kI : PySem.W.keepIn K (.ref g2) = true) (mI : mg "_law_ink" = some (.ref g2))
    (GS : FnOk P w K mg base (L2.CX P w) 4 g3 gd3 ["one", "other"] (spSame P w C)) (bS : Binds K gd3 ["one", "other"] []) (kS : PySem.W.keepIn K (.ref g3) = true) (mS : mg "same" = some (.ref g3))
    (FH : FnD K "_law_heard" 24 gH dH) (bH : Binds K dH ["_law_call"] []) (mH : mg "_law_heard" = some (.ref gH)) (HB : HeB K mg C CT fI)
    (TB : TabB base mg (He.cT K pTwo).1 (He.cT K pTwo).2) (hT : ((He.cT K pTwo).2, qTwo) ∈ T) (hu : ∀ p ∈ T, p.1 = (He.cT K pTwo).2 → p.2 = qTwo) :
    FnG P w K mg base 8 (He.ga K "_law_two_right") fd ["_law_one", "_law_other"] (spTwo P w T) := by
  have kH := FH.kp
  obtain ⟨oc, od, dV, kV, doc, pm, an, cdH, ct, osl, rfl, lkH, hcdH, _, _⟩ := FH.ex
  refine fnG_ofC F scTwo (fun vs H Q E h => ?_) (fun A outer s H vs Q E hgd hr h => ?_)
  · obtain ⟨x, y, d, e, rfl, _⟩ := h
    rfl
  obtain ⟨x, y, d, e, rfl, hd, he, sd, se, nd, ne, cd, ce, gd, ge, tT, q⟩ := h
  have hr7 : Room 7 _ := hr
  have hr6 : Room 6 _ := hr.mono (by decide)
  have hu50 : A.units + 3 + 50 < cLine := by
    have z : A.units + 3 + 16 * 7 + 200 < cLine := hr.un
    omega
  have hu0 : A.units + 3 < cLine := by omega
  refine ⟨_, PSs.nox (pss_cons (ps_par (i := 2) (j := 3) rfl scTwo.nd rfl rfl (by decide) rfl rfl (pa_cons
        (pe_lc (own := [("_law_value", 4)]) (g := gName 4) rfl scTwo.nd (pi_tup (pe_tup (pa_cons (pv 0) (pa_cons (pv 1) pa_nil)))) (blkOk_by (N := NgT) (sc := defScope (top 29)) (by decide +kernel))
          (fun _ _ _ _ _ => pg_name (i := 4) scTwo.nd rfl (Or.inl rfl)) (fun _ _ _ _ _ => pts_one (pt_not (pt_val (pe_call G1 hr7 rfl m1 k1 b1 .nil pass0 (pa_cons (pv 4) pa_nil))))) (fun _ _ _ _ _ => pv 4))
        (pa_cons (pe_tup (pa_cons pe_str (pa_cons pe_non pa_nil))) pa_nil)) (by rfl))
    (pss_cons (ps_if (pt_cmpR (op_neNil hu0) (pv 2) (pe_lst pa_nil) (nomark _)) (pss_one (ps_set (i := 3) scTwo.nd rfl (Or.inl rfl) (pe_tup (pa_cons pe_str (pa_cons (pe_ix ix_list (pv 2) pe_int (fun _ _ => rfl)) pa_nil)))))
        (pss_one (ps_set (i := 3) scTwo.nd rfl (Or.inl rfl) (pe_tup (pa_cons pe_str (pa_cons (pe_cmpR (op_eqD hr.units) (pe_call GI hr7 rfl mI kI bI .nil pass0 (pa_cons (pv 0) pa_nil)) (pe_call GI hr7 rfl mI kI bI .nil pass0 (pa_cons (pv 1) pa_nil)) (nomark _)) pa_nil))))))
    (pss_one (ps_ret (pe_cmpR op_eq
      (pe_callB (call_reprD S hgd hu50) (by rfl) B.repr (by decide +kernel) (pa_cons
        (pe_lamcallE (T := T) (TT := TTh C) (k := 4) (Ng := NgH) (c := (He.cT K pTwo).1) (P := (He.cT K pTwo).2) (t := fun E => tCall (spSame P w C) [] E (tCons (tVar 0) (tCons (tVar 1) tNil))) rfl mH kH lkH hcdH bH scHeard rfl (Or.inl rfl) (heard_gives HB) TB rfl hT hu hr6 (lamS_by (sc := defScope (top 29)) (by decide +kernel)) rfl (fun _ _ _ _ _ => rfl)
          (fun A' outer' s' H' E' f c' hr2 => pe_call GS hr2 rfl mS kS bS .nil (passes_call (takes_of rfl rfl rfl rfl) (fun _ _ _ _ z => z)) (pa_cons (pv 0) (pa_cons (pv 1) pa_nil)))) pa_nil))
      (pe_callB (call_reprD S hgd hu50) (by rfl) B.repr (by decide +kernel) (pa_cons (pv 3) pa_nil)) (nomark _)))))), ?_⟩
  have two : (2 : Nat) ≤ sizeLine := by decide
  refine ⟨_, rfl, _, rfl, two, fun t0 ht0 => ⟨t0, rfl, ⟨_, SqT.of upd_same⟩, fun D hD => ?_⟩⟩
  have k1 : Same H (upd H t0 (.tup [x, y])) := same_new ht0 _
  let ps : List (V × PyData) := [(x, d), (y, e)]
  let badV : Nat → List V := fun i => ((ps.take i).filter fun p => !isOne p.2).map (·.1)
  have key : ∀ (i : Nat) (v : V), ([x, y] : List V)[i]? = some v → ∃ dv, ps[i]? = some (v, dv) ∧ Da P w H v dv ∧ Sm dv ∧ dv.depth < 7 := fun i v hv => by
    match i, hv with
    | 0, hv => cases hv; exact ⟨d, rfl, hd, sd, nd⟩
    | 1, hv => cases hv; exact ⟨e, rfl, he, se, ne⟩
    | i + 2, hv => simp at hv
  have badS : ∀ (i : Nat) (v : V) (dv : PyData), ps[i]? = some (v, dv) → badV (i + 1) = badV i ++ (if isOne dv = true then [] else [v]) := fun i v dv h => by
    show ((ps.take (i + 1)).filter fun p => !isOne p.2).map (·.1) = _
    rw [List.take_succ, h]
    cases o : isOne dv <;> simp [badV, o]
  have badL : ∀ i, (badV i).length ≤ 2 := fun i => by
    show (((ps.take i).filter fun p => !isOne p.2).map (·.1)).length ≤ 2
    rw [List.length_map]
    refine Nat.le_trans (List.length_filter_le _ _) ?_
    rw [List.length_take]
    exact Nat.min_le_right _ _
  have alt : (∃ v dv rest, badV 2 = v :: rest ∧ Da P w H v dv ∧ GoodX dv ∧ ∀ (H0 : Hp) (R : VK) (E : XK), Da P w H0 x d → Da P w H0 y e → (∀ dd H', Same H0 H' → H' dd = some (.xd [(("value" : Str), v)]) → E (.ref C) (some dd) H') → spSame P w C [x, y] H0 R E) ∨ (badV 2 = [] ∧ isOne d = true ∧ isOne e = true) := by
    cases od : isOne d with
    | false =>
      refine .inl ⟨x, d, (([(y, e)] : List (V × PyData)).filter fun p => !isOne p.2).map (·.1), ?_, hd, gd od, fun H0 R E a1 a2 hx => ⟨x, y, d, e, rfl, a1, a2, sd, se, cd, ce, fun _ => hx, fun z => ?_, fun z => ?_⟩⟩
      · show (([(x, d), (y, e)] : List (V × PyData)).filter fun p => !isOne p.2).map (·.1) = _
        rw [List.filter_cons_of_pos (by rw [od]; rfl), List.map_cons]
      · rw [od] at z; cases z
      · rw [od] at z; cases z
    | true =>
      cases oe : isOne e with
      | false =>
        refine .inl ⟨y, e, [], ?_, he, ge oe, fun H0 R E a1 a2 hx => ⟨x, y, d, e, rfl, a1, a2, sd, se, cd, ce, fun z => ?_, fun _ _ => hx, fun _ z => ?_⟩⟩
        · show ((ps.take 2).filter fun p => !isOne p.2).map (·.1) = _
          simp only [ps, List.take, List.filter, od, oe]
          rfl
        · rw [od] at z; cases z
        · rw [oe] at z; cases z
      | true =>
        refine .inr ⟨?_, rfl, rfl⟩
        show ((ps.take 2).filter fun p => !isOne p.2).map (·.1) = _
        simp only [ps, List.take, List.filter, od, oe]
        rfl
  refine lc_it (walk_tup (K := K) (a := t0) (xs := [x, y])) (fun i H2 => Same (upd H t0 (.tup [x, y])) H2 ∧ H2 D = some (.lst (badV i))) ⟨same_new hD _, upd_same⟩ (fun _ H2 _ z => SqT.of (z.1 _ _ upd_same)) ?turn ?after
  case turn =>
    rintro i v H2 H2' hi ⟨k2, hD2⟩ ⟨rfl, hv⟩
    obtain ⟨dv, hdv, hda, hsm, hdep⟩ := key i v hv
    have eS := badS i v dv hdv
    refine ⟨rfl, ?_⟩
    refine ⟨_, rfl, v, dv, rfl, hda.kp (.same (k1.trans k2)), hsm, hdep, fun H3 k3 => ⟨_, rfl, ?_⟩⟩
    cases o : isOne dv with
    | true =>
      refine iteF ⟨k2.trans k3, ?_⟩
      rw [eS, o]
      show H3 D = some (.lst (badV i ++ []))
      rw [List.append_nil]
      exact k3 _ _ hD2
    | false =>
      refine iteT ⟨_, rfl, _, k3 _ _ hD2, small1000 (Nat.le_trans (badL i) (by decide)), fun b o' z => ?_, ?_⟩
      · have nb : b ≠ D := ne_of_none z hD
        rw [upd_ne nb]
        exact k3 _ _ (k2 _ _ z)
      · rw [upd_same, eS, o]
        rfl
  case after =>
    rintro H2 ⟨k2, hD2⟩
    refine ⟨two, fun td htd => ⟨_, _, rfl, _, rfl, Nat.zero_le _, fun l0 hl0 => ⟨D, l0, badV 2, rfl, rfl, SqL.of ((same_new hl0 _) _ _ ((same_new htd _) _ _ hD2)), SqL.of upd_same, _, rfl, ?_⟩⟩⟩
    have k3 := ((k1.trans k2).trans (same_new htd (.tup [V.str "fine", V.non]))).trans (same_new hl0 (.lst []))
    have hD3 := (same_new hl0 (.lst [])) _ _ ((same_new htd (.tup [V.str "fine", V.non])) _ _ hD2)
    rcases alt with ⟨v, dv, rest, eb, hv, hg, hS⟩ | ⟨eb, od, oe⟩
    · refine ite_t (by rw [eb]; rfl) ?_
      refine ⟨_, rfl, D, badV 2, 0, v, rfl, rfl, SqL.of hD3, (by rw [eb]; exact atI_nat (xs := v :: rest) (j := 0) rfl), two, fun tt htt => ?_⟩
      have k4 := k3.trans (same_new htt (.tup [.str "NoDocument", v]))
      refine ⟨tT.ext k4, fun H5 k5 T5 => fun H6 E6 R6 k6 herr hfine => ⟨_, rfl, _, rfl, ?_⟩⟩
      have e6 : ExtN H H6 := ((ExtN.of k4).trans k5).trans (.of k6)
      refine hS H6 R6 E6 (hd.kp (.ext e6)) (he.kp (.ext e6)) fun dd H7 k7 hdd => herr dd v H7 hdd fun t H8 k8 ht => ?_
      have k78 := k7.trans k8
      have e8 : ExtN H H8 := e6.trans (.of k78)
      have hvv := hv.kp (.ext e8)
      have htt8 : H8 tt = some (.tup [.str "NoDocument", v]) := k78 _ _ (k6 _ _ (k5 _ _ upd_same fun _ z => nomatch z))
      refine ⟨_, .tuple [.str "NoDocument", dv], rfl, .tup ht (.cons (.str _) (.cons hvv .nil)), hg, ?_⟩
      refine ⟨_, rfl, _, .tuple [.str "NoDocument", dv], rfl, .tup htt8 (.cons (.str _) (.cons hvv .nil)), hg, rfl, ?_⟩
      rw [decide_eq_true rfl]
      exact q H8 e8 (T5.ext (k6.trans k78))
    · refine ite_f (by rw [eb]; rfl) ?_
      refine ⟨_, rfl, x, d, rfl, hd.kp (.same k3), sd, od, nd, fun t1 H5 k5 dt1 => ⟨_, rfl, y, e, rfl, he.kp (.same (k3.trans k5)), se, oe, ne, fun t2 H6 k6 dt2 => ?_⟩⟩
      refine ⟨inkD d, inkD e, dp_of (dt1.kp (.same k6)) (ink_pl d), dp_of dt2 (ink_pl e), ink_shaped sd od (by omega), ink_shaped se oe (by omega), two, fun tt htt => ?_⟩
      have k4 := ((k3.trans k5).trans k6).trans (same_new htt (.tup [.str "fine", .bl (PyData.eqv (inkD d) (inkD e))]))
      refine ⟨tT.ext k4, fun H7 k7 T7 => fun H8 E8 R8 k8 herr hfine => ⟨_, rfl, _, rfl, ?_⟩⟩
      have e8 : ExtN H H8 := ((ExtN.of k4).trans k7).trans (.of k8)
      refine ⟨x, y, d, e, rfl, hd.kp (.ext e8), he.kp (.ext e8), sd, se, cd, ce, fun z => ?_, fun _ z => ?_, fun _ _ b H9 k9 hb => hfine (.bl b) H9 fun t Ha ka ht => ?_⟩
      · rw [od] at z; cases z
      · rw [oe] at z; cases z
      have k9a := k9.trans ka
      have ea : ExtN H Ha := e8.trans (.of k9a)
      have eb2 : PyData.eqv (inkD d) (inkD e) = b := Bool.eq_iff_iff.mpr ((ink_eqv d e).trans hb.symm)
      have htt8 : Ha tt = some (.tup [.str "fine", .bl b]) := by
        rw [← eb2]
        exact k9a _ _ (k8 _ _ (k7 _ _ upd_same fun _ z => nomatch z))
      refine ⟨_, .tuple [.str "fine", .bool b], rfl, .tup ht (.cons (.str _) (.cons (.bl b) .nil)), good_bl b, ?_⟩
      refine ⟨_, rfl, _, .tuple [.str "fine", .bool b], rfl, .tup htt8 (.cons (.str _) (.cons (.bl b) .nil)), good_bl b, rfl, ?_⟩
      rw [decide_eq_true rfl]
      exact q Ha ea (T7.ext (k8.trans k9a))
end
end K00
set_option Elab.async false
set_option linter.all false
set_option maxRecDepth 100000
set_option maxHeartbeats 8000000
/-! K01K: _law_one_right. -/
namespace K00
open PySem PySem.Spec L2 LamX
open PyProof.Rows (envOfC sortedS)
/-- all but the tables and what stands at p stays -/
def ChX (p : Addr) (H H' : Hp) : Prop := ∀ b o, b ≠ p → H b = some o → (∀ ps, o ≠ .tbl ps) → H' b = some o
theorem ChX.trans {p : Addr} {H H1 H2 : Hp} (a : ChX p H H1) (b : ChX p H1 H2) : ChX p H H2 := fun c o n e t => b c o n (a c o n e t) t
theorem ChX.ch {p : Addr} {H H' : Hp} (k : Ch p H H') : ChX p H H' := fun b o n e _ => k b o n e
theorem ChX.ext {p : Addr} {H H' : Hp} (k : ExtN H H') : ChX p H H' := fun b o _ e t => k b o e t
theorem Kp.chx {p : Addr} {H H' : Hp} {xs : List V} (k : ChX p H H') (h : H p = some (.lst xs)) : Kp H H' :=
  ⟨fun b ys e => k b _ (fun z => by rw [z, h] at e; cases e) e (fun _ z => nomatch z), fun b o u e => k b _ (fun z => by rw [z, h] at e; cases e) e (fun _ z => nomatch z)⟩
theorem Tabs.ch {T : List (Addr × Str)} {p : Addr} {H H' : Hp} {xs : List V} (t : Tabs T H) (k : Ch p H H') (h : H p = some (.lst xs)) : Tabs T H' := fun q hq => by
  obtain ⟨ps, h1, h2, h3⟩ := t q hq
  refine ⟨ps, k _ _ (fun z => by rw [z, h] at h1; cases h1) h1, h2, fun pos cv hc => ?_⟩
  obtain ⟨c, e1, e2⟩ := h3 pos cv hc
  refine ⟨c, e1, k _ _ (fun z => ?_) e2⟩
  rw [z, h] at e2
  unfold CodeO at e2
  cases e2
theorem PotAt.ext {H H' : Hp} {p : Addr} {c : Nat} (h : PotAt H p c) (k : ExtN H H') : PotAt H' p c := by
  obtain ⟨a, b, j, e, r⟩ := h
  exact ⟨a, b, j, k _ _ e (fun _ z => nomatch z), r⟩
theorem cnt_le : ∀ (n : Nat) (d : PyData), SmN 5 d → d.depth ≤ n → cnt d ≤ 6 ^ n
  | n, .none, _, _ => Nat.pow_pos (by decide)
  | n, .bool _, _, _ => Nat.pow_pos (by decide)
  | n, .int _, _, _ => Nat.pow_pos (by decide)
  | n, .str _, _, _ => Nat.pow_pos (by decide)
  | n, .tuple _, _, _ => Nat.pow_pos (by decide)
  | 0, .list xs, _, h => by simp [PyData.depth] at h
  | 0, .dict ds, _, h => by simp [PyData.depth] at h
  | n + 1, .list xs, hs, h => by
    rw [cnt_kids]
    have h1 : ((kids (.list xs)).map cnt).sum ≤ ((kids (.list xs)).map cnt).length * 6 ^ n := sum_le fun y hy => by
      obtain ⟨x, hx, rfl⟩ := List.mem_map.mp hy
      have := depth_kids (d := .list xs) hx
      exact cnt_le n x (smNL_iff.mp hs.2 x hx) (by omega)
    rw [List.length_map] at h1
    have h3 : (kids (.list xs)).length = xs.length := rfl
    rw [h3] at h1
    have h2 : xs.length * 6 ^ n ≤ 5 * 6 ^ n := Nat.mul_le_mul_right _ hs.1
    have h4 : 1 ≤ 6 ^ n := Nat.pow_pos (by decide)
    have h5 : 6 ^ (n + 1) = 6 ^ n * 6 := Nat.pow_succ ..
    omega
  | n + 1, .dict ds, hs, h => by
    rw [cnt_kids]
    have h1 : ((kids (.dict ds)).map cnt).sum ≤ ((kids (.dict ds)).map cnt).length * 6 ^ n := sum_le fun y hy => by
      obtain ⟨x, hx, rfl⟩ := List.mem_map.mp hy
      have := depth_kids (d := .dict ds) hx
      obtain ⟨p, hp, rfl⟩ := List.mem_map.mp (show x ∈ ds.map (·.2) from hx)
      exact cnt_le n p.2 (smNK_iff.mp hs.2.2 p hp).2 (by omega)
    rw [List.length_map] at h1
    have h3 : (kids (.dict ds)).length = ds.length := by
      show (ds.map (·.2)).length = _
      rw [List.length_map]
    rw [h3] at h1
    have h2 : ds.length * 6 ^ n ≤ 5 * 6 ^ n := Nat.mul_le_mul_right _ hs.1
    have h4 : 1 ≤ 6 ^ n := Nat.pow_pos (by decide)
    have h5 : 6 ^ (n + 1) = 6 ^ n * 6 := Nat.pow_succ ..
    omega
theorem good_b : ∀ b : Bool, goodB (.bool b) = true := by decide +kernel
theorem same_frz {H : Hp} {l : Addr} {o : Obj} {xs : List V} (h : H l = none) : Same H (upd (upd H l (.lst xs)) l (.frz o (.lst xs))) := fun b u e => by
  have n := ne_of_none e h
  rw [upd_ne n, upd_ne n]
  exact e
abbrev NgO : List Str := ["_law_pot", "_law_value", "_law_is_one_here", "_law_due", "_law_bent_here"]
theorem scOneR : FnScope NgO ["_law_pot", "_law_value"] (defScope (top 30)) := ⟨rfl, rfl, rfl, by decide +kernel, rfl, by decide +kernel, by decide +kernel⟩
def pOne : He.Defn := ("_law_one_right", none)
def qOne : Str := (envOfC "_law_one_right" (defScope (top 30)) 0 0 .none).qual ++ "<lambda>"
def spOneR (P : Program) (w : World) (T : List (Addr × Str)) : Sp := fun vs H Q _ => ∃ (p : Addr) (c : Nat) (x : V) (d : PyData), vs = [.ref p, x] ∧ Da P w H x d ∧ Dr 4 94 1922 d ∧ PotAt H p c ∧ c + 45 ≤ 6000 ∧ Tabs T H ∧
  ∀ H', ChX p H H' → Tabs T H' → PotAt H' p (c + 45) → Q (.bl true) H'
section
variable {P : Program} {w : World} {K : PySem.W.Frag} {mg : Str → Option Value} {base : Heap} {g1 g2 g3 g4 g5 g6 g7 g8 g9 gH C CT fI : Addr} {fd gd1 gd2 gd3 gd4 gd5 gd6 gd7 gd8 gd9 dH : FuncData} {T : List (Addr × Str)}
theorem ok_oner (F : FnD K "_law_one_right" 30 (He.ga K "_law_one_right") fd) (B : Bl mg) (S : SysD K)
    (G1 : FnOk P w K mg base CX0 7 g1 gd1 ["_law_value"] (spOne P w 7)) (b1 : Binds K gd1 ["_law_value"] []) (k1 : PySem.W.keepIn K (.ref g1) = true) (m1 : mg "_law_is_one" = some (.ref g1))
    (GD : FnOk P w K mg base CX0 3 g2 gd2 ["value"] (spIsDoc P w)) (bD : Binds K gd2 ["value"] []) (kD : PySem.W.keepIn K (.ref g2) = true) (mD : mg "is_document" = some (.ref g2))
    (GP : FnOk P w K mg base CX0 7 g3 gd3 ["_law_document"] (spLParts P w 7)) (bP : Binds K gd3 ["_law_document"] []) (kP : PySem.W.keepIn K (.ref g3) = true) (mP : mg "_law_parts" = some (.ref g3))
    (GZ : FnOk P w K mg base (L2.CX P w) 4 g4 gd4 ["document"] (spSize P w C)) (bZ : Binds K gd4 ["document"] []) (kZ : PySem.W.keepIn K (.ref g4) = true) (mZ : mg "size" = some (.ref g4))
    (GB : FnOk P w K mg base CX0 11 g5 gd5 ["_law_pot", "_law_document"] (spBent P w 5)) (bB : Binds K gd5 ["_law_pot", "_law_document"] []) (kB : PySem.W.keepIn K (.ref g5) = true) (mB : mg "_law_bent" = some (.ref g5))
    (GT : FnG P w K mg base 8 g6 gd6 ["_law_one", "_law_other"] (spTwo P w T)) (bT : Binds K gd6 ["_law_one", "_law_other"] []) (kT : PySem.W.keepIn K (.ref g6) = true) (mT : mg "_law_two_right" = some (.ref g6))
    (GO : FnOk P w K mg base CX0 2 g7 gd7 ["_law_pot", "_law_some"] spOf) (bO : Binds K gd7 ["_law_pot", "_law_some"] []) (kO : PySem.W.keepIn K (.ref g7) = true) (mO : mg "_law_of" = some (.ref g7))
    (GU : FnOk P w K mg base CX0 7 g8 gd8 ["_law_document"] (spTurned P w 7)) (bU : Binds K gd8 ["_law_document"] []) (kU : PySem.W.keepIn K (.ref g8) = true) (mU : mg "_law_turned" = some (.ref g8))
    (GS : FnOk P w K mg base (L2.CX P w) 4 g9 gd9 ["one", "other"] (spSame P w C)) (bS : Binds K gd9 ["one", "other"] []) (kS : PySem.W.keepIn K (.ref g9) = true) (mS : mg "same" = some (.ref g9))
    (FH : FnD K "_law_heard" 24 gH dH) (bH : Binds K dH ["_law_call"] []) (mH : mg "_law_heard" = some (.ref gH)) (HB : HeB K mg C CT fI)
    (TB : TabB base mg (He.cT K pOne).1 (He.cT K pOne).2) (hT : ((He.cT K pOne).2, qOne) ∈ T) (hu : ∀ p ∈ T, p.1 = (He.cT K pOne).2 → p.2 = qOne) :
    FnG P w K mg base 12 (He.ga K "_law_one_right") fd ["_law_pot", "_law_value"] (spOneR P w T) := by
  have kH := FH.kp
  obtain ⟨oc, od, dV, kV, doc, pm, an, cdH, ct, osl, rfl, lkH, hcdH, _, _⟩ := FH.ex
  refine fnG_ofC F scOneR (fun vs H Q E h => ?_) (fun A outer s H vs Q E hgd hr h => ?_)
  · obtain ⟨p, c, x, d, rfl, _⟩ := h
    rfl
  obtain ⟨p, c, x, d, rfl, hd, dr, hp, hc, tT, q⟩ := h
  have hr11 : Room 11 _ := hr
  have hr8 : Room 8 _ := hr.mono (by decide)
  have hr7 : Room 7 _ := hr.mono (by decide)
  have hr6 : Room 6 _ := hr.mono (by decide)
  have hr4 : Room 4 _ := hr.mono (by decide)
  have hr3 : Room 3 _ := hr.mono (by decide)
  have hr2 : Room 2 _ := hr.mono (by decide)
  have hu50 : A.units + 3 + 50 < cLine := by
    have z : A.units + 3 + 16 * 11 + 200 < cLine := hr.un
    omega
  refine ⟨_, PSs.nox (pss_cons (ps_set (i := 2) scOneR.nd rfl (Or.inl rfl) (pe_call G1 hr7 rfl m1 k1 b1 .nil pass0 (pa_cons (pv 1) pa_nil)))
    (pss_cons (ps_if (pt_cmpR op_ne (pe_callB (call_reprD S hgd hu50) (by rfl) B.repr (by decide +kernel) (pa_cons (pe_call GD hr3 rfl mD kD bD .nil pass0 (pa_cons (pv 1) pa_nil)) pa_nil))
        (pe_callB (call_reprD S hgd hu50) (by rfl) B.repr (by decide +kernel) (pa_cons (pv 2) pa_nil)) (nomark _)) (pss_one (ps_ret pe_bl)) pss_nil)
    (pss_cons (ps_set (i := 3) scOneR.nd rfl (Or.inl rfl) (pe_ifExp (pt_val (pv 2)) (pe_tup (pa_cons pe_str (pa_cons (pe_call GP hr7 rfl mP kP bP .nil pass0 (pa_cons (pv 1) pa_nil)) pa_nil))) (pe_tup (pa_cons pe_str (pa_cons (pv 1) pa_nil)))))
    (pss_cons (ps_if (pt_cmpR op_ne (pe_callB (call_reprD S hgd hu50) (by rfl) B.repr (by decide +kernel) (pa_cons
        (pe_lamcallE (T := T) (TT := TTh C) (k := 4) (Ng := NgH) (c := (He.cT K pOne).1) (P := (He.cT K pOne).2) (t := fun E => tCall (spSize P w C) [] E (tCons (tVar 1) tNil)) rfl mH kH lkH hcdH bH scHeard rfl (Or.inl rfl) (heard_gives HB) TB rfl hT hu hr6 (lamS_by (sc := defScope (top 30)) (by decide +kernel)) rfl (fun _ _ _ _ _ => rfl)
          (fun A' outer' s' H' E' f c' hr2 => pe_call GZ hr2 rfl mZ kZ bZ .nil (passes_call (takes_of rfl rfl rfl rfl) (fun _ _ _ _ z => z)) (pa_cons (pv 1) pa_nil))) pa_nil))
        (pe_callB (call_reprD S hgd hu50) (by rfl) B.repr (by decide +kernel) (pa_cons (pv 3) pa_nil)) (nomark _)) (pss_one (ps_ret pe_bl)) pss_nil)
    (pss_cons (ps_if (pt_not (pt_val (pv 2))) (pss_one (ps_ret pe_bl)) pss_nil)
    (pss_cons (ps_set (i := 4) scOneR.nd rfl (Or.inl rfl) (pe_call GB hr11 rfl mB kB bB .nil pass0 (pa_cons (pv 0) (pa_cons (pv 1) pa_nil))))
    (pss_cons (ps_if (PW.pt (pw_or (pt_not (pt_val (pe_callG GT hgd hr8 mT kT bT (pa_cons (pv 1) (pa_cons (pv 4) pa_nil)))))
        (pw_or1 (pt_not (pt_val (pe_callG GT hgd hr8 mT kT bT (pa_cons (pe_fz (pe_lst (pa_cons pe_bl (pa_cons pe_int pa_nil)))) (pa_cons (pe_fz (pe_lst (pa_cons pe_int (pa_cons
          (pe_call GO hr2 rfl mO kO bO .nil pass0 (pa_cons (pv 0) (pa_cons (pe_lst (pa_cons pe_int (pa_cons pe_bl pa_nil))) pa_nil))) pa_nil)))) pa_nil)))))))) (pss_one (ps_ret pe_bl)) pss_nil)
    (pss_one (ps_ret (pe_cmpR op_isBl (pe_call GS hr4 rfl mS kS bS .nil (passes_call L2.takes0 (fun _ _ _ _ z => z)) (pa_cons (pv 1) (pa_cons (pe_call GU hr7 rfl mU kU bU .nil pass0 (pa_cons (pv 1) pa_nil)) pa_nil))) pe_bl (nomark _))))))))))), ?_⟩
  have two : (2 : Nat) ≤ sizeLine := by decide
  have sd : Sm d := dr.sm.sm (by decide)
  have nd : d.depth < 7 := Nat.lt_of_le_of_lt dr.dep (by decide)
  have cd : cnt d ≤ 94 := dr.cn
  refine ⟨_, rfl, x, d, rfl, hd, sd, nd, fun H1 k1 => ?_⟩
  refine ⟨_, rfl, x, d, rfl, hd.kp (.same k1), sd, by omega, fun H2 k2 => ?_⟩
  refine ⟨_, .bool (isOne d), rfl, .bl _, good_b _, _, rfl, _, .bool (isOne d), rfl, .bl _, good_b _, rfl, _, rfl, ?_⟩
  rw [decide_eq_true rfl]
  refine iteF ?_
  have k12 := k1.trans k2
  have bad : isOne d = false → GoodX d := fun _ => good_bad dr (by decide) (by decide)
  refine ⟨_, rfl, _, rfl, ?_⟩
  cases o : isOne d with
  | false =>
    refine iteF ⟨_, rfl, two, fun tt htt => ?_⟩
    have k3 := k12.trans (same_new htt (.tup [.str "NoDocument", x]))
    refine ⟨tT.ext k3, fun H5 k5 T5 => fun H6 E6 R6 k6 herr hfine => ⟨_, rfl, ?_⟩⟩
    have e6 : ExtN H H6 := ((ExtN.of k3).trans k5).trans (.of k6)
    refine ⟨x, d, rfl, hd.kp (.ext e6), sd, by omega, fun z => ?_, fun _ dd H7 k7 hdd => herr dd x H7 hdd fun t H8 k8 ht => ?_⟩
    · rw [o] at z; cases z
    have k78 := k7.trans k8
    have e8 : ExtN H H8 := e6.trans (.of k78)
    have hvv := hd.kp (.ext e8)
    have htt8 : H8 tt = some (.tup [.str "NoDocument", x]) := k78 _ _ (k6 _ _ (k5 _ _ upd_same fun _ z => nomatch z))
    refine ⟨_, .tuple [.str "NoDocument", d], rfl, .tup ht (.cons (.str _) (.cons hvv .nil)), bad o, ?_⟩
    refine ⟨_, rfl, _, .tuple [.str "NoDocument", d], rfl, .tup htt8 (.cons (.str _) (.cons hvv .nil)), bad o, rfl, _, rfl, ?_⟩
    rw [decide_eq_true rfl]
    refine iteF ⟨_, rfl, _, rfl, ?_⟩
    exact iteT (q H8 (.ext e8) (T5.ext (k6.trans k78)) ((hp.ext e8).mono (by omega)))
  | true =>
    refine iteT ⟨_, rfl, x, d, rfl, hd.kp (.same k12), sd, o, nd, fun H3 k3 => ⟨two, fun tt htt => ?_⟩⟩
    have k4 := (k12.trans k3).trans (same_new htt (.tup [.str "fine", .int (cnt d : Nat)]))
    refine ⟨tT.ext k4, fun H5 k5 T5 => fun H6 E6 R6 k6 herr hfine => ⟨_, rfl, ?_⟩⟩
    have e6 : ExtN H H6 := ((ExtN.of k4).trans k5).trans (.of k6)
    refine ⟨x, d, rfl, hd.kp (.ext e6), sd, by omega, fun _ H7 k7 => hfine (.int (cnt d : Nat)) H7 fun t H8 k8 ht => ?_, fun z => ?_⟩
    rotate_left
    · rw [o] at z; cases z
    have k78 := k7.trans k8
    have e8 : ExtN H H8 := e6.trans (.of k78)
    have htt8 : H8 tt = some (.tup [.str "fine", .int (cnt d : Nat)]) := k78 _ _ (k6 _ _ (k5 _ _ upd_same fun _ z => nomatch z))
    have gi := good_int (cnt d) (by omega)
    refine ⟨_, .tuple [.str "fine", .int (cnt d : Nat)], rfl, .tup ht (.cons (.str _) (.cons (.int _) .nil)), gi, ?_⟩
    refine ⟨_, rfl, _, .tuple [.str "fine", .int (cnt d : Nat)], rfl, .tup htt8 (.cons (.str _) (.cons (.int _) .nil)), gi, rfl, _, rfl, ?_⟩
    rw [decide_eq_true rfl]
    refine iteF ⟨_, rfl, _, rfl, iteF ?_⟩
    have T8 := T5.ext (k6.trans k78)
    have hp8 := hp.ext e8
    have hd8 := hd.kp (.ext e8)
    refine ⟨_, rfl, _, rfl, p, c, x, d, rfl, hd8, dr.sm, o, Nat.lt_of_le_of_lt dr.dep (by decide), hp8, (by show c + 44 ≤ 6000; omega), fun x' d' H9 pb hd' k9 hp9 => ?_⟩
    obtain ⟨ob, sb, db⟩ := pb
    obtain ⟨ys8, hl8⟩ := hp8.lst
    have T9 := K00.Tabs.ch T8 k9 hl8
    have hd9 := hd8.kp (.ch k9 hl8)
    have dep' : d'.depth ≤ 6 := Nat.le_trans db (by have := dr.dep; omega)
    have c' : cnt d' ≤ 46656 := cnt_le 6 d' sb dep'
    have no {z : PyData} (o : isOne z = true) : isOne z = false → GoodX z := fun f => by rw [o] at f; cases f
    refine ⟨_, rfl, _, rfl, x, x', d, d', rfl, hd9, hd', sd, sb.sm (by decide), nd, by omega, by omega, by omega, no o, no ob, T9, fun Ha ka Ta => ⟨_, rfl, ?_⟩⟩
    refine iteF ?_
    have hpa := hp9.ext ka
    refine ⟨two, fun la hla => ⟨la, _, rfl, upd_same, trivial, fun oa => ?_⟩⟩
    have kb := same_frz (o := oa) (xs := [.bl true, .int 0]) hla
    refine ⟨_, rfl, two, fun lb hlb => ?_⟩
    have kc := same_new hlb (.lst [.int 0, .bl false])
    have kbc := kb.trans kc
    have hpc := hpa.same kbc
    obtain ⟨ysc, hlc⟩ := hpc.lst
    have nbp : lb ≠ p := fun z => by
      obtain ⟨ys, hl⟩ := (hpa.same kb).lst
      rw [z, hl] at hlb
      cases hlb
    refine ⟨p, lb, [.int 0, .bl false], c + 44, rfl, upd_same, nbp, by decide, by decide, hpc, by omega, fun z Hd hz kd hpd => ?_⟩
    have hda : ∃ e, Da P w Hd z e ∧ isOne (.list [.int 1, e]) = true ∧ Sm (.list [.int 1, e]) ∧ (PyData.list [.int 1, e]).depth < 7 ∧ cnt (.list [.int 1, e]) ≤ 500000 := by
      rcases List.mem_cons.mp hz with rfl | hz
      · exact ⟨_, .int 0, rfl, ⟨by decide, trivial, trivial, trivial⟩, by decide, by decide⟩
      · rw [List.mem_singleton.mp hz]
        exact ⟨_, .bl false, rfl, ⟨by decide, trivial, trivial, trivial⟩, by decide, by decide⟩
    obtain ⟨e, he, oe, se, ne, ce⟩ := hda
    refine ⟨two, fun lc hlc' => ⟨lc, _, rfl, upd_same, trivial, fun oc => ?_⟩⟩
    have ke := same_frz (o := oc) (xs := [.int 1, z]) hlc'
    have Td := Tabs.ext (K00.Tabs.ch (Ta.ext kbc) kd hlc) ke
    have lla : (upd (upd Hd lc (.lst [.int 1, z])) lc (.frz oc (.lst [.int 1, z]))) la = some (.frz oa (.lst [.bl true, .int 0])) := ke _ _ (kd _ _ (fun z => by
      obtain ⟨ys, hl⟩ := hpa.lst
      rw [z, hl] at hla
      cases hla) (kc _ _ upd_same))
    refine ⟨.ref la, .ref lc, .list [.bool true, .int 0], .list [.int 1, e], rfl, .lst lla (.cons (.bl true) (.cons (.int 0) .nil)), .lst upd_same (.cons (.int 1) (.cons (he.kp (.same ke)) .nil)), ⟨by decide, trivial, trivial, trivial⟩, se, by decide, ne, by decide, ce, no rfl, no oe, Td, fun He' kf Tf => ⟨_, rfl, ?_⟩⟩
    refine iteF ?_
    have x1 : ChX p H He' := (((((ChX.ext e8).trans (.ch k9)).trans (.ext ka)).trans (.ch (.same kbc))).trans (.ch kd)).trans ((ChX.ch (.same ke)).trans (.ext kf))
    obtain ⟨ys0, hl0⟩ := hp.lst
    have hpf := (hpd.same ke).ext kf
    have hdf := hd.kp (.chx x1 hl0)
    refine ⟨_, rfl, _, rfl, x, d, rfl, hdf, sd, o, nd, fun xu du Hg kg hdu tn => ?_⟩
    obtain ⟨su, ou, iu, cu⟩ := tn
    refine ⟨x, xu, d, du, rfl, hdf.kp (.same kg), hdu, sd, su, by omega, by omega, fun z => ?_, fun _ z => ?_, fun _ _ b Hh kh hb => ?_⟩
    · rw [o] at z; cases z
    · rw [ou] at z; cases z
    have eb : b = true := hb.mpr iu.symm
    subst eb
    refine ⟨true, true, rfl, rfl, ?_⟩
    rw [decide_eq_true rfl]
    exact q Hh (x1.trans (.ch (.same (kg.trans kh)))) ((Tf.ext (kg.trans kh))) ((hpf.same (kg.trans kh)).mono (by omega))
end
end K00
set_option Elab.async false
set_option linter.all false
set_option maxRecDepth 100000
set_option maxHeartbeats 8000000
/-! K01L: the law's own def. -/
namespace K00
open PySem PySem.Spec L2 LamX
open PyProof.Rows (envOfC sortedS)
theorem turns_ok (l : Int) : 1 ≤ (if (if l < 3 then l else 3) > 1 then (if l < 3 then l else 3) else 1) ∧ (if (if l < 3 then l else 3) > 1 then (if l < 3 then l else 3) else 1) ≤ 3 := by
  by_cases h : l < 3
  · rw [if_pos h]
    by_cases h2 : l > 1
    · rw [if_pos h2]; omega
    · rw [if_neg h2]; omega
  · rw [if_neg h]
    decide
theorem seq_ext {K : PySem.W.Frag} {H H' : Hp} {a : Addr} {xs : List V} (h : SqL K H a xs) (k : ExtN H H') : SqL K H' a xs := by
  rcases h with (h | ⟨o, h⟩) | h
  · exact .inl (.inl (k _ _ h fun _ z => nomatch z))
  · exact .inl (.inr ⟨o, k _ _ h fun _ z => nomatch z⟩)
  · exact .inr h
abbrev NgL : List Str := ["_law_script", "_law_k", "_law_pot", "_law_some", "_law_turn", "_law_value", "_law_one", "_law_other"]
theorem scLaw : FnScope NgL ["_law_script"] (defScope (top 31)) := ⟨rfl, rfl, rfl, by decide +kernel, rfl, by decide +kernel, by decide +kernel⟩
def spLaw (K : PySem.W.Frag) (T : List (Addr × Str)) : Sp := fun vs H Q _ => ∃ (a : Addr) (ns : List Int), vs = [.ref a] ∧ SqL K H a (ns.map V.int) ∧ ns.length ≤ 63 ∧ Tabs T H ∧ ∀ H', Q (.bl true) H'
theorem Da.list {P : Program} {w : World} {H : Hp} {xs : List V} {ds : List PyData} (q : DaL P w H xs ds) {i : Nat} {x : V} (h : xs[i]? = some x) : ∃ d ∈ ds, Da P w H x d := by
  obtain ⟨d, e, r⟩ := q.get h
  exact ⟨d, List.mem_of_getElem? e, r⟩
section
variable {P : Program} {w : World} {K : PySem.W.Frag} {mg : Str → Option Value} {base : Heap} {f fO fR fT fP : Addr} {fd dO dR dT dP : FuncData} {T : List (Addr × Str)}
theorem ok_law (F : FnD K "law" 31 f fd) (B : Bl mg)
    (GP : FnOk P w K mg base CX0 1 fP dP ["_law_script", "_law_k"] (spPot K)) (bP : Binds K dP ["_law_script", "_law_k"] []) (kP : PySem.W.keepIn K (.ref fP) = true) (gP : mg "_law_pot_of" = some (.ref fP))
    (GO : FnOk P w K mg base CX0 9 fO dO ["_law_pot", "_law_deep"] (spOdd P w 3)) (bO : Binds K dO ["_law_pot", "_law_deep"] []) (kO : PySem.W.keepIn K (.ref fO) = true) (gO : mg "_law_odd" = some (.ref fO))
    (GR : FnG P w K mg base 12 fR dR ["_law_pot", "_law_value"] (spOneR P w T)) (bR : Binds K dR ["_law_pot", "_law_value"] []) (kR : PySem.W.keepIn K (.ref fR) = true) (gR : mg "_law_one_right" = some (.ref fR))
    (GT : FnG P w K mg base 8 fT dT ["_law_one", "_law_other"] (spTwo P w T)) (bT : Binds K dT ["_law_one", "_law_other"] []) (kT : PySem.W.keepIn K (.ref fT) = true) (gT : mg "_law_two_right" = some (.ref fT)) :
    FnG P w K mg base 13 f fd ["_law_script"] (spLaw K T) := by
  refine fnG_of F scLaw (fun vs H Q E h => ?_) (fun cdv A outer s H vs Q E hgd hr h => ?_)
  · obtain ⟨a, ns, rfl, _⟩ := h
    rfl
  obtain ⟨a, ns, rfl, hS, hn, tT, q⟩ := h
  have hr12 : Room 12 _ := hr
  have hr9 : Room 9 _ := hr.mono (by decide)
  have hr1 : Room 1 _ := hr.mono (by decide)
  have hr8 : Room 8 _ := hr.mono (by decide)
  refine ⟨_, PSs.nox (pss_cons (ps_for PassesOwn.never rfl (pi_range1 (by rfl) B.range (pa_cons (pe_callB (call_max2 rfl) (by rfl) B.max (by decide +kernel) (pa_cons pe_int (pa_cons (pe_callB (call_min2 rfl) (by rfl) B.min (by decide +kernel)
          (pa_cons pe_int (pa_cons (pe_callB call_len_seq (by rfl) B.len PySem.boot_len (pa_cons (pv 0) pa_nil)) pa_nil))) pa_nil))) pa_nil))
        (pg_name (i := 1) scLaw.nd rfl (Or.inl rfl))
      (pss_cons (ps_set (i := 2) scLaw.nd rfl (Or.inr rfl) (pe_call GP hr1 rfl gP kP bP .nil pass0 (pa_cons (pv 0) (pa_cons (pv 1) pa_nil))))
      (pss_cons (ps_setLc (i := 3) (own := [("_law_turn", 4)]) (g := gName 4) (tt := tYes) rfl scLaw.nd rfl rfl (sw_true rfl rfl rfl (by decide +kernel)) (pi_range1 (by rfl) B.range (pa_cons pe_int pa_nil)) (blkOk_by (N := NgL) (sc := defScope (top 31)) (by decide +kernel))
            (fun _ _ _ _ _ => pg_name (i := 4) scLaw.nd rfl (Or.inl rfl)) (fun _ _ _ _ _ => pts_nil) (fun _ _ _ _ _ => pe_call GO hr9 rfl gO kO bO .nil pass0 (pa_cons (pv 2) (pa_cons pe_int pa_nil))))
      (pss_cons (ps_if (pt_not (pt_val (pe_callB (cr_all rfl) (by rfl) B.all (by decide +kernel) (pa_cons
          (pe_lc (own := [("_law_value", 5)]) (g := gName 5) (tt := tYes) rfl scLaw.nd (pi_list (pv 3)) (blkOk_by (N := NgL) (sc := defScope (top 31)) (by decide +kernel))
            (fun _ _ _ _ _ => pg_name (i := 5) scLaw.nd rfl (Or.inl rfl)) (fun _ _ _ _ _ => pts_nil) (fun _ _ _ _ _ => pe_callG GR hgd hr12 gR kR bR (pa_cons (pv 2) (pa_cons (pv 5) pa_nil)))) pa_nil))))
        (pss_one (ps_ret pe_bl)) pss_nil)
      (pss_one (ps_if (pt_not (pt_val (pe_callB (cr_all rfl) (by rfl) B.all (by decide +kernel) (pa_cons
          (pe_lc (own := [("_law_one", 6), ("_law_other", 7)]) (g := gTup K 2 (gCons (gName 6) (gCons (gName 7) gNil))) (tt := tYes) rfl scLaw.nd (pi_zip (by rfl) B.zip (pa_cons (pv 3) (pa_cons (pe_slice sl_list (pv 3) (po_some pe_int) po_none) pa_nil)))
            (blkOk_by (N := NgL) (sc := defScope (top 31)) (by decide +kernel))
            (fun _ _ _ _ _ => pg_tup (by rfl) (pgs_cons (pg_name (i := 6) scLaw.nd rfl (Or.inl rfl)) (pgs_cons (pg_name (i := 7) scLaw.nd rfl (Or.inl rfl)) pgs_nil))) (fun _ _ _ _ _ => pts_nil)
            (fun _ _ _ _ _ => pe_callG GT hgd hr8 gT kT bT (pa_cons (pv 6) (pa_cons (pv 7) pa_nil)))) pa_nil))))
        (pss_one (ps_ret pe_bl)) pss_nil))))))
    (pss_one (ps_ret pe_bl))), ?_⟩
  have jb := turns_ok (((ns.map V.int).length : Nat) : Int)
  refine ⟨_, rfl, a, _, rfl, .inl hS, 3, _, rfl, 1, _, rfl, _, rfl, by omega, by omega, ?_⟩
  generalize (if (if (((ns.map V.int).length : Nat) : Int) < 3 then (((ns.map V.int).length : Nat) : Int) else 3) > 1 then (if (((ns.map V.int).length : Nat) : Int) < 3 then (((ns.map V.int).length : Nat) : Int) else 3) else 1) = j at jb
  refine for_range (lo := 0) (n := j.toNat) (fun _ σ H1 => (∃ kv pv' sv tv v5 v6 v7 : Option V, σ = [some (.ref a), kv, pv', sv, tv, v5, v6, v7]) ∧ ExtN H H1 ∧ Tabs T H1) ⟨⟨_, _, _, _, _, _, _, rfl⟩, ExtN.refl H, tT⟩ ?turn ?after
  case after =>
    rintro σ H1 ⟨⟨kv, pv', sv, tv, v5, v6, v7, rfl⟩, k1, _⟩
    exact q H1
  rintro i σ H1 hi ⟨⟨kv, pv', sv, tv, v5, v6, v7, rfl⟩, k1, T1⟩
  refine ⟨_, rfl, _, rfl, a, ns, 0 + (i : Int), rfl, seq_ext hS k1, by omega, by omega, fun p H2 k2 hpn hp => ?_⟩
  have T2 := T1.ext k2
  obtain ⟨ys, hys⟩ := hp.lst
  refine ⟨6, rfl, by decide, by decide, fun D hD => ?_⟩
  have nDp : D ≠ p := fun e => by
    rw [e, hys] at hD
    cases hD
  refine lc_range (lo := 0) (n := 6) (fun t H3 => Ch p H2 H3 ∧ PotAt H3 p (348 * t) ∧ ∃ xs ds, H3 D = some (.lst xs) ∧ xs.length = t ∧ DaL P w H3 xs ds ∧ ∀ d ∈ ds, Dr 4 94 1922 d) ⟨Ch.same (same_new hD _), hp.same (same_new hD _), [], [], upd_same, rfl, .nil, (fun _ z => nomatch z)⟩ ?_ ?_
  · rintro t H3 ht ⟨k3, hp3, xs, ds, hD3, hx, hda, hdr⟩
    refine ⟨rfl, ?_⟩
    simp only [tYes, if_true]
    refine ⟨_, rfl, p, 348 * t, rfl, hp3, (by show 348 * t + 348 ≤ 6000; omega), fun x d H4 dr dx k4 hp4 => ⟨xs, k4 _ _ nDp hD3, small1000 (by omega), fun b o nb e => ?_, ?_, xs ++ [x], ds ++ [d], upd_same, ?_, ?_, ?_⟩⟩
    · have nbD : b ≠ D := ne_of_none e hD
      rw [upd_ne nbD]
      exact k4 _ _ nb (k3 _ _ nb e)
    · obtain ⟨x1, x2, x3, e1, e2⟩ := hp4.mono (show 348 * t + potO 3 ≤ 348 * (t + 1) from Nat.le_refl _)
      exact ⟨x1, x2, x3, by rw [upd_ne (Ne.symm nDp)]; exact e1, e2⟩
    · rw [List.length_append, hx]
      rfl
    · obtain ⟨ys3, hl3⟩ := hp3.lst
      have kk : Kp H3 (upd H4 D (.lst (xs ++ [x]))) := (Kp.ch k4 hl3).trans (.lst (k4 _ _ nDp hD3) _)
      exact (hda.kp kk).append (.cons (dx.kp (.lst (k4 _ _ nDp hD3) _)) .nil)
    · intro d' hd'
      rcases List.mem_append.mp hd' with z | z
      · exact hdr d' z
      · rw [List.mem_singleton.mp z]
        exact dr
  rintro H3 ⟨k3, hp3, xs, ds, hD3, hx, hda, hdr⟩
  have T3 := K00.Tabs.ch T2 k3 hys
  obtain ⟨ys3, hl3⟩ := hp3.lst
  have hp3' : PotAt H3 p 2088 := hp3
  refine ⟨_, rfl, D, rfl, ⟨_, SqL.of hD3⟩, fun D2 hD2 => ?_⟩
  have nD2p : D2 ≠ p := fun e => by
    rw [e, hl3] at hD2
    cases hD2
  have nDD2 : D ≠ D2 := fun e => by
    rw [← e, hD3] at hD2
    cases hD2
  refine lc_it (walk_list (K := K) (a := D) (xs := xs)) (fun t H4 => ChX p H3 H4 ∧ Tabs T H4 ∧ PotAt H4 p (2088 + 45 * t) ∧ H4 D2 = some (.lst (List.replicate t (.bl true)))) ⟨.ch (.same (same_new hD2 _)), T3.ext (same_new hD2 _), hp3'.same (same_new hD2 _), upd_same⟩
    (fun _ H4 _ z => SqL.of (z.1 _ _ nDp hD3 fun _ y => nomatch y)) ?_ ?_
  · rintro t v H4 H4' ht ⟨k4, T4, hp4, hD4⟩ ⟨rfl, hv⟩
    obtain ⟨d, hm, hdv⟩ := Da.list hda hv
    refine ⟨rfl, ?_⟩
    simp only [tYes, if_true]
    refine ⟨_, rfl, _, rfl, p, 2088 + 45 * t, v, d, rfl, hdv.kp (.chx k4 hl3), hdr d hm, hp4, by omega, T4, fun H5 k5 T5 hp5 => ?_⟩
    have hD5 := k5 _ _ nD2p hD4 fun _ y => nomatch y
    refine ⟨_, hD5, ?_, fun b o nb e nt => ?_, ?_, ?_, ?_⟩
    · rw [List.length_replicate]
      exact small1000 (by omega)
    · have nbD : b ≠ D2 := ne_of_none e hD2
      rw [upd_ne nbD]
      exact k5 _ _ nb (k4 _ _ nb e nt) nt
    · exact K00.Tabs.ch T5 (p := D2) ch_upd hD5
    · obtain ⟨x1, x2, x3, e1, e2⟩ := hp5
      exact ⟨x1, x2, x3, by rw [upd_ne (Ne.symm nD2p)]; exact e1, by omega⟩
    · rw [upd_same, List.replicate_succ']
  rintro H4 ⟨k4, T4, hp4, hD4⟩
  rw [hx] at hD4
  refine ⟨D2, List.replicate 6 true, rfl, SqL.of hD4, _, rfl, iteF ?_⟩
  have hD5 := k4 _ _ nDp hD3 fun _ y => nomatch y
  refine ⟨_, rfl, _, rfl, _, rfl, D, xs, rfl, SqL.of hD5, fun l2 hl2 => ?_⟩
  have eC : cutV xs (some 1) none = xs.drop 1 := cut_from _ (by decide)
  rw [eC]
  have s2 := same_new hl2 (.lst (xs.drop 1))
  refine ⟨D, l2, xs, xs.drop 1, rfl, SqL.of (s2 _ _ hD5), SqL.of upd_same, fun D3 hD3' => ?_⟩
  have x4 : ExtN (upd H4 l2 (.lst (xs.drop 1))) (upd H4 l2 (.lst (xs.drop 1))) := ExtN.refl _
  refine lc_it (walk_zip (K := K) (a := D) (b := l2) (xs := xs) (ys := xs.drop 1) (n := 5) (by rw [List.length_drop, hx]; rfl)) (fun t H6 => ExtN (upd H4 l2 (.lst (xs.drop 1))) H6 ∧ Tabs T H6 ∧ H6 D3 = some (.lst (List.replicate t (.bl true))))
    ⟨ExtN.of (same_new hD3' _), (T4.ext s2).ext (same_new hD3' _), upd_same⟩ (fun _ H6 _ z => ⟨SqL.of (z.1 _ _ (s2 _ _ hD5) fun _ y => nomatch y), SqL.of (z.1 _ _ upd_same fun _ y => nomatch y)⟩) ?_ ?_
  · rintro t v H6 H6' ht ⟨k6, T6, hD6⟩ ⟨U, y, z, rfl, hU, rfl, hy, hz⟩
    have sU := same_new hU (.tup [y, z])
    have dz : (xs)[1 + t]? = some z := by
      have hz' : (xs.drop 1)[t]? = some z := hz
      rw [List.getElem?_drop] at hz'
      exact hz'
    obtain ⟨d, hm, hdy⟩ := Da.list hda hy
    obtain ⟨e, hme, hez⟩ := Da.list hda dz
    have kk : Kp H3 (upd H6 U (.tup [y, z])) := ((Kp.chx k4 hl3).trans (.same s2)).trans ((Kp.ext k6).trans (.same sU))
    have drd := hdr d hm
    have dre := hdr e hme
    refine ⟨U, _, rfl, SqT.of upd_same, rfl, _, [z], rfl, z, [], rfl, rfl, rfl, ?_⟩
    simp only [tYes, if_true]
    refine ⟨_, rfl, _, rfl, y, z, d, e, rfl, hdy.kp kk, hez.kp kk, drd.sm.sm (by decide), dre.sm.sm (by decide), Nat.lt_of_le_of_lt drd.dep (by decide), Nat.lt_of_le_of_lt dre.dep (by decide), Nat.le_trans drd.cn (by decide), Nat.le_trans dre.cn (by decide),
      (fun _ => good_bad drd (by decide) (by decide)), (fun _ => good_bad dre (by decide) (by decide)), T6.ext sU, fun H7 k7 T7 => ?_⟩
    have hD7 := k7 _ _ (sU _ _ hD6) fun _ y => nomatch y
    refine ⟨_, hD7, ?_, fun b o eb nt => ?_, ?_, ?_⟩
    · rw [List.length_replicate]
      exact small1000 (by omega)
    · have nbD : b ≠ D3 := ne_of_none eb hD3'
      rw [upd_ne nbD]
      exact k7 _ _ (sU _ _ (k6 _ _ eb nt)) nt
    · exact K00.Tabs.ch T7 (p := D3) ch_upd hD7
    · rw [upd_same, List.replicate_succ']
  rintro H6 ⟨k6, T6, hD6⟩
  refine ⟨D3, List.replicate 5 true, rfl, SqL.of hD6, _, rfl, iteF ?_⟩
  refine ⟨⟨_, _, _, _, _, _, _, rfl⟩, fun b o e nt => ?_, T6⟩
  have e1 := k1 _ _ e nt
  have e2 := k2 _ _ e1
  have nb : b ≠ p := ne_of_none e1 hpn
  exact k6 _ _ (s2 _ _ (k4 _ _ nb (k3 _ _ nb e2) nt)) nt
end
end K00
set_option Elab.async false
set_option linter.all false
set_option maxRecDepth 100000
set_option maxHeartbeats 4000000
/-! K01M: the end of a law with tables of code objects, whose def keeps a promise outside of every repr. -/
namespace K00
open PySem PySem.Spec L2 LamX
open PyProof.Rows (IntsAre AllBare)
abbrev scriptO (vs : List Value) : Obj := { cls := .type "list", data := .seq vs.toArray }
abbrev tabO : Obj := { cls := .none, data := .fields #[] }
/-- what the abstract heap tracks at the law's call: the tables, the script if the written part has it not -/
structure Seen (K : PySem.W.Frag) (cs : List (Addr × Addr)) (a : Addr) (H : Hp) : Prop where
  tab : ∀ p ∈ cs, H p.2 = some (.tbl #[])
  all : ∀ b u, H b = some u → (∃ p ∈ cs, p.2 = b) ∨ (b = a ∧ K.lookup a = none ∧ ∃ o xs, u = .frz o (.lst xs))
/-- how the heap stands at the law's call -/
structure Ends (K : PySem.W.Frag) (mg mb : Str → Option Value) (cs : List (Addr × Addr)) (a : Addr) (vs : List Value) (s : Shared) : Prop where
  kin : K.In s.heap
  glob : s.heap.Ns mainGlobals mg
  bltn : s.heap.Ns builtinsNs mb
  boot : ∀ y : Str, y ≠ "__name__" → mb y = bootBuiltins y
  lim : s.heap.NoLimit
  gens : s.gens = #[]
  mod : ∃ (m : Addr) (o : Obj), mg "__builtins__" = some (.ref m) ∧ m ≠ builtinsNs ∧ s.heap.get? m = some o ∧ o.cls = .type "module" ∧ o.dict = some builtinsNs ∧ o.data = .plain
  script : s.heap.get? a = some (scriptO vs)
  tabs : ∀ p ∈ cs, s.heap.get? p.2 = some tabO
  out : ∀ p ∈ cs, K.lookup p.2 = none
  code : ∀ p ∈ cs, PySem.W.CodeHd s.heap p.1 p.2
section
variable {P : Program} {w : World} {K : PySem.W.Frag} {mg mb : Str → Option Value} {k : Nat} {fa a : Addr} {cs : List (Addr × Addr)} {fd : FuncData} {x : Str} {sp : Sp} {s : Shared} {vs : List Value} {ns : List Int} {H : Hp}
theorem Ends.clear (N : Ends K mg mb cs a vs s) (S : Seen K cs a H) {b : Addr} {o : Obj} (e : s.heap.get? b = some o) (h1 : ∀ xs n, o.data ≠ .seq xs n) (h2 : o.data ≠ .fields #[]) : H b = none := by
  cases q : H b with
  | none => rfl
  | some u =>
    rcases S.all b u q with ⟨p, hp, z⟩ | ⟨z, _⟩
    · have e2 := N.tabs p hp
      rw [z, e] at e2
      exact (h2 (congrArg Obj.data (Option.some.inj e2))).elim
    · have e2 := N.script
      rw [← z, e] at e2
      exact (h1 _ _ (congrArg Obj.data (Option.some.inj e2))).elim
theorem Ends.see (N : Ends K mg mb cs a vs s) (S : Seen K cs a H) {b : Addr} {o : Obj} (e : s.heap.get? b = some o) (h1 : ∀ xs n, o.data ≠ .seq xs n) (h2 : o.data ≠ .fields #[]) : (hidT s.heap H).get? b = some o := hidT_get e (N.clear S e h1 h2)
theorem Ends.names (N : Ends K mg mb cs a vs s) (S : Seen K cs a H) {b : Addr} {m : Str → Option Value} (h : s.heap.Ns b m) : (hidT s.heap H).Ns b m := by
  obtain ⟨o, es, ep, e, d, r⟩ := h
  refine ⟨o, es, ep, N.see S e (fun _ _ z => ?_) (fun z => ?_), d, r⟩
  · rw [z] at d
    cases d
  · rw [z] at d
    cases d
theorem Ends.inK (N : Ends K mg mb cs a vs s) (S : Seen K cs a H) : K.In (hidT s.heap H) := fun b o e => by
  refine hidT_get (N.kin b o e) ?_
  cases q : H b with
  | none => rfl
  | some u =>
    rcases S.all b u q with ⟨p, hp, z⟩ | ⟨z, n, _⟩
    · have n := N.out p hp
      rw [z, e] at n
      cases n
    · rw [z, n] at e
      cases e
theorem Ends.tabB (N : Ends K mg mb cs a vs s) (S : Seen K cs a H) {p : Addr × Addr} (hp : p ∈ cs) : TabB (hidT s.heap H) mg p.1 p.2 := by
  have tp := N.tabs p hp
  constructor
  · obtain ⟨o, us, r⟩ := N.code p hp
    obtain ⟨u1, u2, u3, u4, u5, u6, u7, z1, z2, z3, z4, z5⟩ := r
    refine ⟨o, us, u1, u2, u3, u4, u5, u6, u7, N.see S z1 (fun _ _ z => ?_) (fun z => ?_), z2, z3, z4, z5⟩
    · rw [z] at z3
      cases z3
    · rw [z] at z3
      have z6 : us = #[] := (Data.fields.inj z3).symm
      rw [z6] at z4
      simp at z4
  · obtain ⟨m, o, g1, g2, g3, g4, g5, g6⟩ := N.mod
    have n1 : m ≠ mainGlobals := fun z => by
      obtain ⟨o', es, ep, e, d, _⟩ := N.glob
      rw [z] at g3
      rw [e] at g3
      rw [Option.some.inj g3, g6] at d
      cases d
    have n2 : m ≠ p.2 := fun z => by
      rw [z, tp] at g3
      rw [← Option.some.inj g3] at g6
      cases g6
    refine ⟨m, o, g1, g2, n1, n2, N.see S g3 (fun _ _ z => ?_) (fun z => ?_), g4, g5, g6⟩
    · rw [z] at g6
      cases g6
    · rw [z] at g6
      cases g6
  · intro z
    obtain ⟨o, es, ep, e, d, _⟩ := N.glob
    rw [z, tp] at e
    rw [← Option.some.inj e] at d
    cases d
theorem core_callT (N : Ends K mg mb cs a vs s) (S : Seen K cs a H) (hok : HOk P w H s.heap) (hr : Room k callerA)
    (F : ∀ base : Heap, K.In base → base.Ns mainGlobals mg → (∀ p ∈ cs, TabB base mg p.1 p.2) → FnG P w K mg base k fa fd [x] sp) (hbind : ∀ (s : Shared) (u : Value), BindsTo s fd ⟨[u], []⟩ [(x, u)])
    (hsp : sp [.ref a] H (fun v _ => v = .bl true) fun _ _ _ => False) :
    codeAny (model P w) callerA (.call (.ref fa) ⟨[.ref a], []⟩) (fun r s' => r = .ok (.ret (.bool true)) ∧ OldK s.heap s'.heap ∧ s'.os = s.os ∧ AllBare s'.gens) s := by
  obtain ⟨mc, l1, l2⟩ := N.lim
  have env : Env0 P w K mg (hidT s.heap H) callerA [] s H :=
    { frames := rfl, mod := ⟨N.inK S, N.names S N.glob, ⟨mb, N.names S N.bltn, N.boot⟩, ⟨mc, N.names S l1, l2⟩⟩, bs := fun b o e => of_hidT e, bsz := Nat.le_of_eq (hidT_size _ _), funs := trivial,
      frf := (fun b z => nomatch z), hok := hok, bare := PyProof.Rows.AllBare.of_eq N.gens }
  refine codeAny_mono ((F _ (N.inK S) (N.names S N.glob) fun p hp => N.tabB S hp).run callerA [] s H ⟨[.ref a], []⟩ [.ref a] [.ref a] _ _ rfl hr env (hbind s (.ref a)) (.cons rfl .nil) hsp) ?_
  intro r s' h
  match r, h with
  | .error e, h => exact h.elim
  | .ok .next, h => exact h.elim
  | .ok .brk, h => exact h.elim
  | .ok .cont, h => exact h.elim
  | .ok (.ret u), ⟨v, H', os, bare, un, hok', rv, q⟩ =>
    have q' : v = .bl true := q
    subst q'
    have eu : u = Value.bool true := rv
    subst eu
    have tell : ∀ b o, s.heap.get? b = some o → (s'.heap.get? b = some o) ∨ ∃ p ∈ cs, p.2 = b := by
      intro b o e
      cases z : H b with
      | none => exact .inl (un.keep b o e z (by intro q; cases q) (by intro q; cases q))
      | some u =>
        rcases S.all b u z with y | ⟨_, _, ob, xs, y⟩
        · exact .inr y
        · rw [y] at z
          obtain ⟨e1, _⟩ := hok b _ z
          obtain ⟨e2, _⟩ := hok' b _ (un.frzs b ob _ z)
          exact .inl (e2.trans (e1.symm.trans e))
    have grown : ∀ p ∈ cs, ∃ more : Array Value, s'.heap.get? p.2 = some { cls := .none, data := .fields more } := by
      intro p hp
      obtain ⟨more, z⟩ := un.tbls p.2 #[] (S.tab p hp)
      exact ⟨_, hok' p.2 _ z⟩
    refine ⟨rfl, ⟨fun b o e => ?_, fun b o e => ?_⟩, os, bare⟩
    · rcases tell b o e with z | ⟨p, hp, rfl⟩
      · exact .inl z
      · obtain ⟨more, hm⟩ := grown p hp
        have tp := N.tabs p hp
        rw [tp] at e
        cases e
        refine .inr (.inl ⟨((N.code p hp).tab tp).isCodeTable, rfl, #[], more, rfl, ?_⟩)
        rw [Array.empty_append]
        exact hm
    · rcases tell b o e with z | ⟨p, hp, rfl⟩
      · exact ⟨o, z⟩
      · obtain ⟨more, hm⟩ := grown p hp
        exact ⟨_, hm⟩
theorem law_callGT (N : Ends K mg mb cs a vs s) (hi : IntsAre vs ns) (hl : ns.length ≤ sizeLine) (hr : Room k callerA)
    (F : ∀ base : Heap, K.In base → base.Ns mainGlobals mg → (∀ p ∈ cs, TabB base mg p.1 p.2) → FnG P w K mg base k fa fd [x] sp) (hbind : ∀ (s : Shared) (u : Value), BindsTo s fd ⟨[u], []⟩ [(x, u)])
    (hsp : ∀ H : Hp, (∀ p ∈ cs, H p.2 = some (.tbl #[])) → SqL K H a (ns.map V.int) → sp [.ref a] H (fun v _ => v = .bl true) fun _ _ _ => False) :
    codeAny (model P w) callerA (.call (.ref fa) ⟨[.ref a], []⟩) (fun r s' => r = .ok (.ret (.bool true)) ∧ OldK s.heap s'.heap ∧ s'.os = s.os ∧ AllBare s'.gens) s := by
  have rv := vals_ints hi
  have aT : ∀ p ∈ cs, p.2 ≠ a := fun p hp z => by
    have e := N.tabs p hp
    rw [z, N.script] at e
    have e2 : Data.seq vs.toArray _ = Data.fields #[] := congrArg Obj.data (Option.some.inj e)
    cases e2
  let sc : Option HO := if K.lookup a = none then some (.frz (scriptO vs) (.lst (ns.map V.int))) else none
  let H : Hp := fun b => if b ∈ cs.map (·.2) then some (.tbl #[]) else if b = a then sc else none
  have Ht : ∀ p ∈ cs, H p.2 = some (.tbl #[]) := fun p hp => if_pos (List.mem_map.mpr ⟨p, hp, rfl⟩)
  have na : a ∉ cs.map (·.2) := fun z => by
    obtain ⟨p, hp, e⟩ := List.mem_map.mp z
    exact aT p hp e
  have Ha : H a = sc := (if_neg na).trans (if_pos rfl)
  have all : ∀ b u, H b = some u → (b ∈ cs.map (·.2) ∧ u = .tbl #[]) ∨ (b = a ∧ K.lookup a = none ∧ u = .frz (scriptO vs) (.lst (ns.map V.int))) := fun b u e => by
    by_cases h1 : b ∈ cs.map (·.2)
    · have e2 := (if_pos h1).symm.trans e
      exact .inl ⟨h1, (Option.some.inj e2).symm⟩
    · by_cases h2 : b = a
      · rw [h2, Ha] at e
        by_cases hk : K.lookup a = none
        · have e2 := (if_pos hk).symm.trans e
          exact .inr ⟨h2, hk, (Option.some.inj e2).symm⟩
        · have e2 := (if_neg hk).symm.trans e
          cases e2
      · have e2 := ((if_neg h1).trans (if_neg h2)).symm.trans e
        cases e2
  refine core_callT N (H := H) ⟨Ht, fun b u e => ?_⟩ (fun b u e => ?_) hr F hbind (hsp H Ht ?_)
  · rcases all b u e with ⟨h, _⟩ | ⟨h1, h2, h3⟩
    · obtain ⟨p, hp, z⟩ := List.mem_map.mp h
      exact .inl ⟨p, hp, z⟩
    · exact .inr ⟨h1, h2, _, _, h3⟩
  · rcases all b u e with ⟨h, rfl⟩ | ⟨h1, h2, rfl⟩
    · obtain ⟨p, hp, z⟩ := List.mem_map.mp h
      have t := N.tabs p hp
      rw [z] at t
      exact t
    · rw [h1]
      refine ⟨N.script, ?_, vs, _, rv, N.script⟩
      rw [List.length_map]
      exact hl
  · by_cases hk : K.lookup a = none
    · exact .inl (.inr ⟨scriptO vs, Ha.trans (if_pos hk)⟩)
    · obtain ⟨o, ho⟩ := Option.ne_none_iff_exists'.mp hk
      have e := N.kin a o ho
      rw [N.script] at e
      cases e
      refine .inr ⟨_, vs.toArray, _, ho, rfl, rfl, rfl, ?_, by simpa using rv⟩
      rw [List.size_toArray, ← rv.length, List.length_map]
      exact hl
end
theorem walkGT {l : PySem.W.OpenLaw} {n k : Nat} {q : Program} {loose : List Str} {XP : (Str → Option Value) → Heap → Prop} {YP : World → Heap → Prop} {d : DefRec} {x : Str}
    (hn : l.most = some n) (hn2 : n ≤ sizeLine) (hdf : d.params.defaults = []) (hr : Room k callerA)
    (F : ∀ (w : World) (mg : Str → Option Value) (fa : Addr) (h : Heap), YP w h → h.Ns mainGlobals mg → mg d.name = some (.ref fa) →
      ∃ (K : PySem.W.Frag) (cs : List (Addr × Addr)) (fd : FuncData) (sp : Sp), K.In h ∧ (∀ p ∈ cs, h.get? p.2 = some tabO) ∧ (∀ p ∈ cs, K.lookup p.2 = none) ∧ (∀ p ∈ cs, PySem.W.CodeHd h p.1 p.2) ∧ (∀ (s : Shared) (u : Value), BindsTo s fd ⟨[u], []⟩ [(x, u)]) ∧
        (∀ (H : Hp) (a : Addr) (ns : List Int), ns.length ≤ n → (∀ p ∈ cs, H p.2 = some (.tbl #[])) → SqL K H a (ns.map V.int) → sp [.ref a] H (fun v _ => v = .bl true) fun _ _ _ => False) ∧
        ∀ base : Heap, K.In base → base.Ns mainGlobals mg → (∀ p ∈ cs, TabB base mg p.1 p.2) → FnG l.prog w K mg base k fa fd [x] sp) :
    PySem.W.WalkO q loose XP YP l.row.toRowW d [] (fun f vs => PySem.call f vs) := by
  refine Att.attach_callB hn hdf ?_
  intro w s₀ s₁ mg mb fa o pm cd doc a vs ns G Y ho hd hcd hmg hobj hints hlen hbits hg
  obtain ⟨K, cs, fd, sp, KX, t1, t2, t3, hb, hsp, hF⟩ := F w mg fa _ Y G.T.g hmg
  exact law_callGT ⟨KX, G.T.g, G.T.b, G.T.builtins, G.T.nolimit, hg, G.T.bmain, hobj, t1, t2, t3⟩ hints (Nat.le_trans hlen hn2) hr hF hb fun H h1 h2 => hsp H a ns hlen h1 h2
end K00
set_option Elab.async false
set_option linter.all false
set_option maxRecDepth 100000
set_option maxHeartbeats 8000000
/-! K01N: what the head's look tells. -/
namespace K00
open PySem PySem.Spec L2 LamX
theorem eqB_ok {α : Type} [DecidableEq α] {a b : α} (h : eqB a b = true) : a = b := of_decide_eq_true h
theorem cls_of {K : PySem.W.Frag} {C : Addr} (h : clsB K C = true) :
    ∃ nm q N bs bm sn sub ab col dd k0 k1 k2 k3 k5, K.lookup C = some (excClassObj nm q C N bs bm true sn sub ab col dd k0 k1 k2 k3 k5 "ValueError.__new__") ∧ PySem.HandSPX.refsVE bm = true := by
  unfold clsB at h
  split at h
  · rename_i t dd cd sl ho
    split at h
    · rename_i C' bm k0 k1 k2 k3 n k5 hm hs
      obtain ⟨h1, h⟩ := He.ba h
      obtain ⟨h2, h⟩ := He.ba h
      obtain ⟨h3, h⟩ := He.ba h
      obtain ⟨h4, h⟩ := He.ba h
      obtain ⟨h5, h6⟩ := He.ba h
      have e1 := eqB_ok h1
      have e2 : C' = C := beq_iff_eq.mp h2
      have e3 : n = "ValueError.__new__" := beq_iff_eq.mp h3
      subst e1 e2 e3
      obtain ⟨nm, bs, mro, ns, qn, hd, sn, sub, ab, col, del⟩ := cd
      simp only at hm
      simp only [Bool.not_eq_true'] at h4
      have h5' : hd = true := h5
      subst hm h5'
      have h4' : del = false := h4
      subst h4'
      obtain ⟨l⟩ := sl
      simp only at hs
      subst hs
      exact ⟨nm, qn, ns, bs, bm, sn, sub, ab, col, dd, k0, k1, k2, k3, k5, ho, h6⟩
    · cases h
  · cases h
theorem errT_of {K : PySem.W.Frag} {x : Str} (h : errB K x = true) : ErrT K (He.ga K x) (fI K) ∧ PySem.W.nsIn K mainGlobals x = some (some (.ref (He.ga K x))) := by
  unfold errB at h
  obtain ⟨a1, h⟩ := He.ba h
  obtain ⟨a2, h⟩ := He.ba h
  obtain ⟨a3, h⟩ := He.ba h
  obtain ⟨a4, h⟩ := He.ba h
  obtain ⟨a5, h⟩ := He.ba h
  obtain ⟨a6, h⟩ := He.ba h
  obtain ⟨a7, h⟩ := He.ba h
  obtain ⟨a8, h⟩ := He.ba h
  obtain ⟨a9, h⟩ := He.ba h
  obtain ⟨a10, h⟩ := He.ba h
  obtain ⟨a11, h⟩ := He.ba h
  obtain ⟨a12, a13⟩ := He.ba h
  exact ⟨{ cls := cls_of a2, sa := He.eqO_ok a3, ga := He.eqO_ok a4, gg := He.eqO_ok a5, noN := He.eqO_ok a6, iC := He.eqO_ok a7, cl := He.eqO_ok a8, kC := a9, exC := eqB_ok a10, tyC := eqB_ok a11, hdC := a12, ob := eqB_ok a13 }, He.eqO_ok a1⟩
/-- the defs' code objects and their tables -/
def csK (K : PySem.W.Frag) : List (Addr × Addr) := [He.cT K pTwo, He.cT K pOne]
def tsK (K : PySem.W.Frag) : List (Addr × Str) := [((He.cT K pTwo).2, qTwo), ((He.cT K pOne).2, qOne)]
section
variable {P : Program} {w : World} {K : PySem.W.Frag} {h : Heap} {mg : Str → Option Value} {f : Addr}
theorem facts (X : K.In h) (G : h.Ns mainGlobals mg) (hfa : mg ("law" : Str) = some (.ref f)) (c : Says h K) :
    ∃ fd : FuncData, (∀ (s : Shared) (v : Value), BindsTo s fd ⟨[v], []⟩ [("_law_script", v)]) ∧ ∀ base : Heap, K.In base → base.Ns mainGlobals mg → (∀ p ∈ csK K, TabB base mg p.1 p.2) → FnG P w K mg base 13 f fd ["_law_script"] (spLaw K (tsK K)) := by
  have cs := c.d
  have ck := c.ck
  unfold ckB at ck
  obtain ⟨b1, ck⟩ := He.ba ck
  obtain ⟨b2, ck⟩ := He.ba ck
  obtain ⟨b3, ck⟩ := He.ba ck
  obtain ⟨b4, ck⟩ := He.ba ck
  obtain ⟨b5, ck⟩ := He.ba ck
  obtain ⟨b6, ck⟩ := He.ba ck
  obtain ⟨b7, b8⟩ := He.ba ck
  unfold kinB at b2
  obtain ⟨c1, b2⟩ := He.ba b2
  obtain ⟨c2, c3⟩ := He.ba b2
  have hnd : ("NoDocument" : Str) ∈ errs := by decide +kernel
  obtain ⟨TE, gE⟩ := errT_of (List.all_eq_true.mp b1 _ hnd)
  have gE := PySem.W.mg_of X G gE
  obtain ⟨fdI, FI⟩ := cs.def_ 25 rfl
  have II : InitT K (fI K) := by
    refine ⟨eqB_ok b4, eqB_ok b6, eqB_ok b7, ?_⟩
    obtain ⟨oc, od, dV, kV, doc, pm, an, cdv, ct, osl, rfl, lk, hcd, hd, _⟩ := FI.ex
    rcases hd with ⟨_, rfl⟩ | ⟨n, _⟩
    · exact ⟨oc, od, doc, pm, an, cdv, ct, osl, _, _, _, _, _, _, kV, lk, hcd⟩
    · exact absurd rfl n
  have SY : SysD K := by
    split at b8
    · rename_i t dd od sl ho
      exact ⟨_, ho, congrArg Value.type (eqB_ok b8)⟩
    · cases b8
  have fr : ∀ (i : Nat) (x : Str), fa[i]? = some (.free x) → mg x = none := fun i x e => He.free_ok X G (cs.fact i e)
  have gl : ∀ (i : Nat) (x : Str), fa[i]? = some (.glo x) → mg x = some (.ref (He.ga K x)) := fun i x e => He.glo_ok X G (cs.fact i e)
  have B : Bl mg := ⟨fr 25 _ rfl, fr 26 _ rfl, fr 27 _ rfl, fr 28 _ rfl, fr 29 _ rfl, fr 30 _ rfl, fr 31 _ rfl, fr 32 _ rfl, fr 33 _ rfl, fr 34 _ rfl, fr 35 _ rfl, fr 36 _ rfl, fr 37 _ rfl, fr 38 _ rfl, fr 39 _ rfl, fr 40 _ rfl, fr 41 _ rfl, fr 42 _ rfl⟩
  obtain ⟨t1, gLet⟩ := He.str_ok X G (cs.fact 43 (f := .str "LETTERS" "abcdefghijklmnopqrstuvwxyz") rfl)
  obtain ⟨t2, gLon⟩ := He.int_ok X G (cs.fact 44 (f := .int "LONGEST_NAME" 8) rfl)
  have HB : HeB K mg (He.ga K "NoDocument") (He.ga K "TaglessError") (fI K) :=
    { b := B, T := TE, T0 := II, gC := gE, gT := PySem.W.mg_of X G (He.eqO_ok b3), ex := eqB_ok b5, kC := (eqB_ok (List.all_eq_true.mp (List.all_eq_true.mp c1 _ hnd) _ hnd)).trans (by decide +kernel), kV := eqB_ok (List.all_eq_true.mp c3 _ hnd) }
  obtain ⟨d0, F0⟩ : ∃ fd, FnD K "is_name" 6 (He.ga K "is_name") fd := cs.def_ 0 rfl
  obtain ⟨d1, F1⟩ : ∃ fd, FnD K "sort_of" 7 (He.ga K "sort_of") fd := cs.def_ 1 rfl
  obtain ⟨d2, F2⟩ : ∃ fd, FnD K "inner_parts" 8 (He.ga K "inner_parts") fd := cs.def_ 2 rfl
  obtain ⟨d3, F3⟩ : ∃ fd, FnD K "parts_of" 9 (He.ga K "parts_of") fd := cs.def_ 3 rfl
  obtain ⟨d4, F4⟩ : ∃ fd, FnD K "is_document" 10 (He.ga K "is_document") fd := cs.def_ 4 rfl
  obtain ⟨d5, F5⟩ : ∃ fd, FnD K "alike" 11 (He.ga K "alike") fd := cs.def_ 5 rfl
  obtain ⟨d6, F6⟩ : ∃ fd, FnD K "paired_parts" 12 (He.ga K "paired_parts") fd := cs.def_ 6 rfl
  obtain ⟨d7, F7⟩ : ∃ fd, FnD K "same" 13 (He.ga K "same") fd := cs.def_ 7 rfl
  obtain ⟨d8, F8⟩ : ∃ fd, FnD K "size" 14 (He.ga K "size") fd := cs.def_ 8 rfl
  obtain ⟨d9, F9⟩ : ∃ fd, FnD K "_law_pot_of" 16 (He.ga K "_law_pot_of") fd := cs.def_ 9 rfl
  obtain ⟨d10, F10⟩ : ∃ fd, FnD K "_law_take" 17 (He.ga K "_law_take") fd := cs.def_ 10 rfl
  obtain ⟨d11, F11⟩ : ∃ fd, FnD K "_law_of" 18 (He.ga K "_law_of") fd := cs.def_ 11 rfl
  obtain ⟨d12, F12⟩ : ∃ fd, FnD K "_law_unlike" 19 (He.ga K "_law_unlike") fd := cs.def_ 12 rfl
  obtain ⟨d13, F13⟩ : ∃ fd, FnD K "_law_flat" 20 (He.ga K "_law_flat") fd := cs.def_ 13 rfl
  obtain ⟨d14, F14⟩ : ∃ fd, FnD K "_law_any" 21 (He.ga K "_law_any") fd := cs.def_ 14 rfl
  obtain ⟨d15, F15⟩ : ∃ fd, FnD K "_law_bent" 22 (He.ga K "_law_bent") fd := cs.def_ 15 rfl
  obtain ⟨d16, F16⟩ : ∃ fd, FnD K "_law_ink" 23 (He.ga K "_law_ink") fd := cs.def_ 16 rfl
  obtain ⟨d17, F17⟩ : ∃ fd, FnD K "_law_heard" 24 (He.ga K "_law_heard") fd := cs.def_ 17 rfl
  obtain ⟨d18, F18⟩ : ∃ fd, FnD K "_law_is_one" 25 (He.ga K "_law_is_one") fd := cs.def_ 18 rfl
  obtain ⟨d19, F19⟩ : ∃ fd, FnD K "_law_parts" 26 (He.ga K "_law_parts") fd := cs.def_ 19 rfl
  obtain ⟨d20, F20⟩ : ∃ fd, FnD K "_law_odd" 27 (He.ga K "_law_odd") fd := cs.def_ 20 rfl
  obtain ⟨d21, F21⟩ : ∃ fd, FnD K "_law_turned" 28 (He.ga K "_law_turned") fd := cs.def_ 21 rfl
  obtain ⟨d22, F22⟩ : ∃ fd, FnD K "_law_two_right" 29 (He.ga K "_law_two_right") fd := cs.def_ 22 rfl
  obtain ⟨d23, F23⟩ : ∃ fd, FnD K "_law_one_right" 30 (He.ga K "_law_one_right") fd := cs.def_ 23 rfl
  obtain ⟨d24, F24⟩ : ∃ fd, FnD K "law" 31 (He.ga K "law") fd := cs.def_ 24 rfl
  have e := hfa.symm.trans (gl 24 "law" rfl)
  cases e
  have k0 : Binds K d0 ["value"] [] := F0.bindsN fun _ _ _ _ _ _ us hl => match us, hl with | [_], _ => rfl
  have k1 : Binds K d1 ["value"] [] := F1.bindsN fun _ _ _ _ _ _ us hl => match us, hl with | [_], _ => rfl
  have k2 : Binds K d2 ["value"] [] := F2.bindsN fun _ _ _ _ _ _ us hl => match us, hl with | [_], _ => rfl
  have k3 : Binds K d3 ["value"] [] := F3.bindsN fun _ _ _ _ _ _ us hl => match us, hl with | [_], _ => rfl
  have k4 : Binds K d4 ["value"] [] := F4.bindsN fun _ _ _ _ _ _ us hl => match us, hl with | [_], _ => rfl
  have k5 : Binds K d5 ["one", "other"] [] := F5.bindsN fun _ _ _ _ _ _ us hl => match us, hl with | [_, _], _ => rfl
  have k6 : Binds K d6 ["one", "other"] [] := F6.bindsN fun _ _ _ _ _ _ us hl => match us, hl with | [_, _], _ => rfl
  have k7 : Binds K d7 ["one", "other"] [] := F7.bindsN fun _ _ _ _ _ _ us hl => match us, hl with | [_, _], _ => rfl
  have k8 : Binds K d8 ["document"] [] := F8.bindsN fun _ _ _ _ _ _ us hl => match us, hl with | [_], _ => rfl
  have k9 : Binds K d9 ["_law_script", "_law_k"] [] := F9.bindsN fun _ _ _ _ _ _ us hl => match us, hl with | [_, _], _ => rfl
  have k10 : Binds K d10 ["_law_pot", "_law_upto"] [] := F10.bindsN fun _ _ _ _ _ _ us hl => match us, hl with | [_, _], _ => rfl
  have k11 : Binds K d11 ["_law_pot", "_law_some"] [] := F11.bindsN fun _ _ _ _ _ _ us hl => match us, hl with | [_, _], _ => rfl
  have k12 : Binds K d12 ["_law_pot", "_law_some", "_law_many"] [] := F12.bindsN fun _ _ _ _ _ _ us hl => match us, hl with | [_, _, _], _ => rfl
  have k13 : Binds K d13 ["_law_pot"] [] := F13.bindsN fun _ _ _ _ _ _ us hl => match us, hl with | [_], _ => rfl
  have k14 : Binds K d14 ["_law_pot", "_law_deep"] [] := F14.bindsN fun _ _ _ _ _ _ us hl => match us, hl with | [_, _], _ => rfl
  have k15 : Binds K d15 ["_law_pot", "_law_document"] [] := F15.bindsN fun _ _ _ _ _ _ us hl => match us, hl with | [_, _], _ => rfl
  have k16 : Binds K d16 ["_law_document"] [] := F16.bindsN fun _ _ _ _ _ _ us hl => match us, hl with | [_], _ => rfl
  have k17 : Binds K d17 ["_law_call"] [] := F17.bindsN fun _ _ _ _ _ _ us hl => match us, hl with | [_], _ => rfl
  have k18 : Binds K d18 ["_law_value"] [] := F18.bindsN fun _ _ _ _ _ _ us hl => match us, hl with | [_], _ => rfl
  have k19 : Binds K d19 ["_law_document"] [] := F19.bindsN fun _ _ _ _ _ _ us hl => match us, hl with | [_], _ => rfl
  have k20 : Binds K d20 ["_law_pot", "_law_deep"] [] := F20.bindsN fun _ _ _ _ _ _ us hl => match us, hl with | [_, _], _ => rfl
  have k21 : Binds K d21 ["_law_document"] [] := F21.bindsN fun _ _ _ _ _ _ us hl => match us, hl with | [_], _ => rfl
  have k22 : Binds K d22 ["_law_one", "_law_other"] [] := F22.bindsN fun _ _ _ _ _ _ us hl => match us, hl with | [_, _], _ => rfl
  have k23 : Binds K d23 ["_law_pot", "_law_value"] [] := F23.bindsN fun _ _ _ _ _ _ us hl => match us, hl with | [_, _], _ => rfl
  have k24 := FunD.bindsA (ps := ["_law_script"]) F24 fun _ _ _ _ _ _ us hl => match us, hl with | [_], _ => rfl
  refine ⟨d24, fun s v => k24 s [v] rfl, fun base _ _ TB => ?_⟩
  have G0 : FnOk P w K mg base CX0 1 _ d0 ["value"] (spName P w) := ok_name F0 B gLet gLon
  have G1 : FnOk P w K mg base CX0 2 _ d1 ["value"] (spSort P w) := ok_sort F1 B G0 k0 F0.kp (gl 0 "is_name" rfl)
  have G2 : FnOk P w K mg base CX0 1 _ d2 ["value"] (spInner P w) := ok_inner F2 B
  have G3 : FnOk P w K mg base CX0 2 _ d3 ["value"] (spParts P w) := ok_parts F3 B G2 k2 F2.kp (gl 2 "inner_parts" rfl)
  have G4 : FnOk P w K mg base CX0 3 _ d4 ["value"] (spIsDoc P w) := ok_isdoc F4 B G3 k3 F3.kp (gl 3 "parts_of" rfl) G1 k1 F1.kp (gl 1 "sort_of" rfl)
  have G5 : FnOk P w K mg base CX0 3 _ d5 ["one", "other"] (spAlike P w) := ok_alike F5 B G1 k1 F1.kp (gl 1 "sort_of" rfl)
  have G6 : FnOk P w K mg base CX0 1 _ d6 ["one", "other"] (spPaired P w) := ok_paired F6 B
  have G7 : FnOk P w K mg base (L2.CX P w) 4 _ d7 ["one", "other"] (spSame P w (He.ga K "NoDocument")) := ok_same F7 B G4 k4 F4.kp (gl 4 "is_document" rfl) G5 k5 F5.kp (gl 5 "alike" rfl) G6 k6 F6.kp (gl 6 "paired_parts" rfl) TE II gE
  have G8 : FnOk P w K mg base (L2.CX P w) 4 _ d8 ["document"] (spSize P w (He.ga K "NoDocument")) := ok_size F8 B G4 k4 F4.kp (gl 4 "is_document" rfl) G3 k3 F3.kp (gl 3 "parts_of" rfl) TE II gE
  have G9 : FnOk P w K mg base CX0 1 _ d9 ["_law_script", "_law_k"] (spPot K) := ok_pot F9 B
  have G10 : FnOk P w K mg base CX0 1 _ d10 ["_law_pot", "_law_upto"] spTake := ok_take F10 B
  have G11 : FnOk P w K mg base CX0 2 _ d11 ["_law_pot", "_law_some"] spOf := ok_of F11 B G10 k10 F10.kp (gl 10 "_law_take" rfl)
  have G12 : FnOk P w K mg base CX0 2 _ d12 ["_law_pot", "_law_some", "_law_many"] spUnlike := ok_unlike F12 B G10 k10 F10.kp (gl 10 "_law_take" rfl)
  have G13 : FnOk P w K mg base CX0 3 _ d13 ["_law_pot"] (spFlat P w) := ok_flat F13 G11 k11 F11.kp (gl 11 "_law_of" rfl)
  have A0 : FnOk P w K mg base CX0 4 _ d14 ["_law_pot", "_law_deep"] (spAny P w 0) := ok_any0 F14 B G13 k13 F13.kp (gl 13 "_law_flat" rfl)
  have A1 : FnOk P w K mg base CX0 5 _ d14 ["_law_pot", "_law_deep"] (spAny P w 1) := ok_anyS (n := 0) F14 B G13 k13 F13.kp (gl 13 "_law_flat" rfl) G10 k10 F10.kp (gl 10 "_law_take" rfl) G12 k12 F12.kp (gl 12 "_law_unlike" rfl) A0 k14 (gl 14 "_law_any" rfl)
  have A2 : FnOk P w K mg base CX0 6 _ d14 ["_law_pot", "_law_deep"] (spAny P w 2) := ok_anyS (n := 1) F14 B G13 k13 F13.kp (gl 13 "_law_flat" rfl) G10 k10 F10.kp (gl 10 "_law_take" rfl) G12 k12 F12.kp (gl 12 "_law_unlike" rfl) A1 k14 (gl 14 "_law_any" rfl)
  have B0 : FnOk P w K mg base CX0 6 _ d15 ["_law_pot", "_law_document"] (spBent P w 0) := fn_no (f := He.ga K "_law_bent") fun vs H Q E ⟨_, _, _, d, _, _, _, _, z, _⟩ => Nat.not_lt_zero _ z
  have stepB : ∀ n, FnOk P w K mg base CX0 (n + 6) (He.ga K "_law_bent") d15 ["_law_pot", "_law_document"] (spBent P w n) → FnOk P w K mg base CX0 (n + 7) (He.ga K "_law_bent") d15 ["_law_pot", "_law_document"] (spBent P w (n + 1)) :=
    fun n hn => ok_bent F15 B G10 k10 F10.kp (gl 10 "_law_take" rfl) G11 k11 F11.kp (gl 11 "_law_of" rfl) A1 A2 k14 F14.kp (gl 14 "_law_any" rfl) hn k15 (gl 15 "_law_bent" rfl)
  have B5 : FnOk P w K mg base CX0 11 (He.ga K "_law_bent") d15 ["_law_pot", "_law_document"] (spBent P w 5) := stepB 4 (stepB 3 (stepB 2 (stepB 1 (stepB 0 B0))))
  have I0 : FnOk P w K mg base CX0 0 (He.ga K "_law_ink") d16 ["_law_document"] (spInk P w 0) := fn_no fun vs H Q E ⟨_, d, _, _, _, _, z, _⟩ => Nat.not_lt_zero _ z
  have stepI : ∀ n, FnOk P w K mg base CX0 n (He.ga K "_law_ink") d16 ["_law_document"] (spInk P w n) → FnOk P w K mg base CX0 (n + 1) (He.ga K "_law_ink") d16 ["_law_document"] (spInk P w (n + 1)) := fun n hn => ok_ink F16 B hn k16 (gl 16 "_law_ink" rfl)
  have I7 : FnOk P w K mg base CX0 7 (He.ga K "_law_ink") d16 ["_law_document"] (spInk P w 7) := stepI 6 (stepI 5 (stepI 4 (stepI 3 (stepI 2 (stepI 1 (stepI 0 I0))))))
  have O0 : FnOk P w K mg base CX0 0 (He.ga K "_law_is_one") d18 ["_law_value"] (spOne P w 0) := fn_no fun vs H Q E ⟨_, d, _, _, _, z, _⟩ => Nat.not_lt_zero _ z
  have stepO : ∀ n, FnOk P w K mg base CX0 n (He.ga K "_law_is_one") d18 ["_law_value"] (spOne P w n) → FnOk P w K mg base CX0 (n + 1) (He.ga K "_law_is_one") d18 ["_law_value"] (spOne P w (n + 1)) := fun n hn => ok_one F18 B hn k18 (gl 18 "_law_is_one" rfl)
  have O7 : FnOk P w K mg base CX0 7 (He.ga K "_law_is_one") d18 ["_law_value"] (spOne P w 7) := stepO 6 (stepO 5 (stepO 4 (stepO 3 (stepO 2 (stepO 1 (stepO 0 O0))))))
  have P0 : FnOk P w K mg base CX0 0 (He.ga K "_law_parts") d19 ["_law_document"] (spLParts P w 0) := fn_no fun vs H Q E ⟨_, d, _, _, _, _, z, _⟩ => Nat.not_lt_zero _ z
  have stepP : ∀ n, FnOk P w K mg base CX0 n (He.ga K "_law_parts") d19 ["_law_document"] (spLParts P w n) → FnOk P w K mg base CX0 (n + 1) (He.ga K "_law_parts") d19 ["_law_document"] (spLParts P w (n + 1)) := fun n hn => ok_lparts F19 B hn k19 (gl 19 "_law_parts" rfl)
  have P7 : FnOk P w K mg base CX0 7 (He.ga K "_law_parts") d19 ["_law_document"] (spLParts P w 7) := stepP 6 (stepP 5 (stepP 4 (stepP 3 (stepP 2 (stepP 1 (stepP 0 P0))))))
  have D0 : FnOk P w K mg base CX0 6 (He.ga K "_law_odd") d20 ["_law_pot", "_law_deep"] (spOdd P w 0) := ok_odd0 F20 B G10 k10 F10.kp (gl 10 "_law_take" rfl) G11 k11 F11.kp (gl 11 "_law_of" rfl) A1 k14 F14.kp (gl 14 "_law_any" rfl)
  have stepD : ∀ n, FnOk P w K mg base CX0 (n + 6) (He.ga K "_law_odd") d20 ["_law_pot", "_law_deep"] (spOdd P w n) → FnOk P w K mg base CX0 (n + 7) (He.ga K "_law_odd") d20 ["_law_pot", "_law_deep"] (spOdd P w (n + 1)) :=
    fun n hn => ok_oddS F20 B G10 k10 F10.kp (gl 10 "_law_take" rfl) G11 k11 F11.kp (gl 11 "_law_of" rfl) A1 k14 F14.kp (gl 14 "_law_any" rfl) G12 k12 F12.kp (gl 12 "_law_unlike" rfl) hn k20 (gl 20 "_law_odd" rfl)
  have D3 : FnOk P w K mg base CX0 9 (He.ga K "_law_odd") d20 ["_law_pot", "_law_deep"] (spOdd P w 3) := stepD 2 (stepD 1 (stepD 0 D0))
  have U0 : FnOk P w K mg base CX0 0 (He.ga K "_law_turned") d21 ["_law_document"] (spTurned P w 0) := fn_no fun vs H Q E ⟨_, d, _, _, _, _, z, _⟩ => Nat.not_lt_zero _ z
  have stepU : ∀ n, FnOk P w K mg base CX0 n (He.ga K "_law_turned") d21 ["_law_document"] (spTurned P w n) → FnOk P w K mg base CX0 (n + 1) (He.ga K "_law_turned") d21 ["_law_document"] (spTurned P w (n + 1)) := fun n hn => ok_turned F21 B hn k21 (gl 21 "_law_turned" rfl)
  have U7 : FnOk P w K mg base CX0 7 (He.ga K "_law_turned") d21 ["_law_document"] (spTurned P w 7) := stepU 6 (stepU 5 (stepU 4 (stepU 3 (stepU 2 (stepU 1 (stepU 0 U0))))))
  have ap : (He.cT K pTwo).2 ≠ (He.cT K pOne).2 := c.apart
  have T2 : FnG P w K mg base 8 _ d22 ["_law_one", "_law_other"] (spTwo P w (tsK K)) := ok_two F22 B SY O7 k18 F18.kp (gl 18 "_law_is_one" rfl) I7 k16 F16.kp (gl 16 "_law_ink" rfl) G7 k7 F7.kp (gl 7 "same" rfl) F17 k17 (gl 17 "_law_heard" rfl) HB
    (TB (He.cT K pTwo) (by simp [csK])) (by simp [tsK]) (fun p hp z => by
      simp only [tsK, List.mem_cons, List.not_mem_nil, or_false] at hp
      rcases hp with rfl | rfl
      · rfl
      · exact absurd z.symm ap)
  have T1 : FnG P w K mg base 12 _ d23 ["_law_pot", "_law_value"] (spOneR P w (tsK K)) := ok_oner F23 B SY O7 k18 F18.kp (gl 18 "_law_is_one" rfl) G4 k4 F4.kp (gl 4 "is_document" rfl) P7 k19 F19.kp (gl 19 "_law_parts" rfl) G8 k8 F8.kp (gl 8 "size" rfl) B5 k15 F15.kp (gl 15 "_law_bent" rfl)
    T2 k22 F22.kp (gl 22 "_law_two_right" rfl) G11 k11 F11.kp (gl 11 "_law_of" rfl) U7 k21 F21.kp (gl 21 "_law_turned" rfl) G7 k7 F7.kp (gl 7 "same" rfl) F17 k17 (gl 17 "_law_heard" rfl) HB
    (TB (He.cT K pOne) (by simp [csK])) (by simp [tsK]) (fun p hp z => by
      simp only [tsK, List.mem_cons, List.not_mem_nil, or_false] at hp
      rcases hp with rfl | rfl
      · exact absurd z ap
      · rfl)
  exact ok_law F24 B G9 k9 F9.kp (gl 9 "_law_pot_of" rfl) D3 k20 F20.kp (gl 20 "_law_odd" rfl) T1 k23 F23.kp (gl 23 "_law_one_right" rfl) T2 k22 F22.kp (gl 22 "_law_two_right" rfl)
end
end K00
set_option Elab.async false
set_option linter.all false
set_option maxRecDepth 100000
set_option maxHeartbeats 0
namespace K00
open PySem PySem.Spec PyProof.Rows L2
theorem run (w : World) : HandSHeadRun.RunEq R (PySem.W.view R.prog [31]) hk ob 3000 looseN w := by
  intro os
  kernel_rfl
end K00
set_option Elab.async false
set_option linter.all false
set_option maxRecDepth 100000
set_option maxHeartbeats 0
open PySem PySem.W PySem.Calls PyProof.Rows
theorem PySem.Challenge.cw_tagless_k00_documents_told_holds : PySem.Challenge.rw_tagless_k00_documents_told.Holds := by
  w_on; o_law
  refine HandSHeadRun.head_any (r := K00.R) (q := view (K00.R).prog [31]) (H := K00.hk) (ob := K00.ob) (M := 3000) (loose := K00.looseN) (d := HandSHeadRun.topDef (K00.R).prog 31) (kwd := []) K00.ob_eq
    (by kernel_rfl) (fun s => by kernel_rfl) K00.run (by kernel_rfl) (by kernel_rfl) (by kernel_rfl) (by rfl) (by first | assumption | decide +kernel) (by decide +kernel) ⟨rfl, rfl, rfl, rfl, rfl, by decide +kernel⟩ ?hw ?hc
  case hw => w_witness2
  case hc =>
    refine K00.walkGT (l := PySem.Challenge.rw_tagless_k00_documents_told) (n := 63) (k := 13) (x := "_law_script") rfl (by decide) (by kernel_rfl) ⟨rfl, by decide, by decide⟩ ?F
    intro w mg fa h Y G hmg0
    obtain ⟨K, KX, c⟩ := Y
    have hmg : mg ("law" : PySem.Str) = some (.ref fa) := by
      have e : (HandSHeadRun.topDef (K00.R).prog 31).name = ("law" : PySem.Str) := by kernel_rfl
      rw [← e]
      exact hmg0
    obtain ⟨fd, hb, hF⟩ := K00.facts (P := (PySem.Challenge.rw_tagless_k00_documents_told).prog) (w := w) KX G hmg c
    have mem : ∀ p ∈ K00.csK K, ∃ t ∈ K00.tf, p = He.cT K t := fun p hp => by
      simp only [K00.csK, List.mem_cons, List.not_mem_nil, or_false] at hp
      rcases hp with rfl | rfl
      · exact ⟨K00.pTwo, List.mem_cons_self, rfl⟩
      · exact ⟨K00.pOne, List.mem_cons_of_mem _ List.mem_cons_self, rfl⟩
    refine ⟨K, K00.csK K, fd, K00.spLaw K (K00.tsK K), KX, fun p hp => ?_, fun p hp => ?_, fun p hp => ?_, hb, fun H a ns hl hT hS => ⟨a, ns, rfl, hS, hl, fun q hq => ?_, fun _ => rfl⟩, hF⟩
    · obtain ⟨t, ht, rfl⟩ := mem p hp
      exact c.empty t ht
    · obtain ⟨t, ht, rfl⟩ := mem p hp
      exact c.out t ht
    · obtain ⟨t, ht, rfl⟩ := mem p hp
      exact PySem.W.codeHd_of_K KX (c.hd t ht)
    · simp only [K00.tsK, List.mem_cons, List.not_mem_nil, or_false] at hq
      rcases hq with rfl | rfl
      · exact LamX.TabS.nil (hT _ (by simp [K00.csK]))
      · exact LamX.TabS.nil (hT _ (by simp [K00.csK]))
