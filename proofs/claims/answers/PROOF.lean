import PyProof.Rows.All
import Wide.All
import OpenK.AllK
import Wide.FinOn
import PyProof.EqAt
import PyProof.EqKinds
import PyProof.TupleCall
import KE.BitLaws
import Open.SpecLaws
import KE.OsHead
import KE.OsGo
import KE.KSortTupG
import KE.KSortKey
import KE.KDictSum
import PyFlatLaws
import PySem.Challenge.RW_reagentstock_s01_answers
set_option Elab.async false
set_option linter.all false
set_option maxRecDepth 100000
section
set_option maxHeartbeats 0
/-! The run of the top, in the kernel, and what it leaves: first in the file, for the memory that it takes. -/
namespace Rs
open PySem PySem.W PySem.Calls PyProof.Rows
abbrev PRG : Program := PySem.Challenge.pw_reagentstock_s01_answers
def tp (i : Nat) : Stmt := PySem.Challenge.pw_reagentstock_s01_answers.main.body.getD i (.Pass ⟨0, 0, 0, 0⟩)
def tc (i j : Nat) : Stmt := match tp i with
  | .ClassDef _ _ _ body _ _ _ _ _ _ _ => body.getD j (.Pass ⟨0, 0, 0, 0⟩)
  | _ => .Pass ⟨0, 0, 0, 0⟩
def ADS : List Nat := [3, 27, 28, 30, 31, 48, 49, 51, 52, 69, 70, 72, 73, 81, 82, 88, 89, 93, 94, 100, 101, 107, 108, 114, 115, 121, 122, 128, 129, 135, 136, 140, 141, 145, 146, 150, 151, 157, 158, 162, 163, 167, 168, 174, 175, 181, 182, 188, 189, 195, 196, 202, 203, 209, 210, 214, 215, 221, 222, 228, 229, 235, 236, 242, 243, 249, 250, 256, 257, 263, 264, 270, 271, 277, 278, 284, 285, 291, 292, 298, 299, 305, 306, 312, 313, 317, 318, 322, 323, 329, 330, 336, 337, 338, 344, 345, 358, 359, 363, 364, 366, 367, 384, 385, 391, 392, 398, 399, 405, 406, 412, 413, 417, 418, 422, 423, 429, 430, 436, 437, 443, 444, 450, 451, 457, 458, 464, 465, 471, 472, 476, 477, 481, 482, 488, 489, 491, 492, 497, 503, 504, 510, 511]
def kOf (h : Heap) : Frag := ADS.filterMap fun a => (h.get? a).map fun o => (a, o)
theorem kOf_go {h : Heap} : ∀ (l : List Nat) {a : Addr} {o : Obj}, (l.filterMap fun a => (h.get? a).map fun o => (a, o)).lookup a = some o → h.get? a = some o
  | [], a, o, e => by cases e
  | b :: r, a, o, e => by
    rw [List.filterMap_cons] at e
    cases q : h.get? b with
    | none => rw [q] at e; exact kOf_go r e
    | some x =>
      rw [q] at e
      dsimp only [Option.map] at e
      rw [List.lookup_cons] at e
      by_cases hb : a = b
      · subst hb
        rw [beq_self_eq_true] at e
        exact q.trans e
      · rw [show (a == b) = false from beq_eq_false_iff_ne.mpr hb] at e
        exact kOf_go r e
theorem kOf_in (h : Heap) : (kOf h).In h := fun _ _ e => kOf_go ADS e
abbrev FKey := Str × Str × Option (Arguments × List Stmt × Scope) × Addr × List (Str × Addr) × Value × Addr
def fKey (f : FuncData) : FKey := (f.name, f.qualname, (match f.body with | .stmts b => some (f.params, b, f.scope) | _ => none), f.globals, f.closure, f.defaults, f.builtins)
def wKey (x q : Str) (st : Stmt) : FKey := (x, q, (match st with | .FunctionDef _ a b _ _ _ sc _ _ _ => some (a, b, sc) | _ => none), mainGlobals, [], .none, builtinsNs)
def fnAt (K : Frag) (q : Str) : Option (Option Value) → Option FKey
  | some (some (.ref f)) => (match K.lookup f with
    | some ⟨_, _, .func fd, _⟩ => if (codeIn K fd.code q && isFn K (.ref f) && keepIn K (.ref f)) = true then some (fKey fd) else none
    | _ => none)
  | _ => none
abbrev seqAt (K : Frag) (x : Str) : List Value := match nsIn K mainGlobals x with
  | some (some (.ref t)) => (match K.lookup t with
    | some ⟨.type "tuple", _, .seq its _, _⟩ => its.toList
    | _ => [])
  | _ => []
def intOf : Value → Option Int
  | .int n _ => some n
  | _ => none
def giAt : Option (Option Value) → Option Int
  | some (some v) => intOf v
  | _ => none
abbrev Da (x : Str) (s : Stmt) : Str × Stmt := (x, s)
abbrev Ma (C : Nat) (x q : Str) (s : Stmt) : Nat × Str × Str × Stmt := (C, x, q, s)
abbrev Ca (x : Str) (C : Nat) (l : List Str) : Str × Nat × List Str := (x, C, l)
abbrev nm (x : Str) : Str := x
abbrev Ga (x : Str) (n : Int) : Str × Int := (x, n)
def LOOSE : List Str := [nm "Lot", nm "Demand", nm "Share", nm "doses_of", nm "is_good_on", nm "is_good_on_one", nm "expiry", nm "turn", nm "what_is_left", nm "first_expired_first", nm "take_off", nm "plan_shares", nm "doses_served", nm "doses_lacking", nm "draws_on", nm "days_asking_too_much", nm "doses_asked_on", nm "doses_left_for", nm "days_of_opening", nm "MOST_LOTS", nm "MOST_DEMANDS", nm "LAST_ARTICLE", nm "LAST_DAY", nm "MOST_DOSES", nm "MOST_IN_VIAL", nm "LONGEST_LIFE", nm "LONGEST_ROW", nm "MOST_NEEDED", nm "OUT_OF_RANGE", nm "NO_ROOM", nm "BEFORE_TODAY", nm "NO_SUCH_DEMAND", nm "NOT_TODAY", nm "TOO_FEW_LEFT", nm "LACKS_MORE", nm "is_article", nm "is_day", nm "is_doses", nm "is_lot", nm "is_article_day_doses", nm "is_row", nm "answer_clear", nm "answer_lot", nm "answer_demand", nm "answer_cancel", nm "tell_taken", nm "answer_plan", nm "answer_told", nm "answer_tight", nm "answer_bears", nm "answer_spare", nm "answer_take", nm "answer_use", nm "answer_today", nm "answer_withdraw", nm "answer_used_from", nm "answer_waste", nm "answer_vials", nm "answer_counts", nm "ANSWERING", nm "answer_call", nm "Use", nm "Stock", nm "VIALS", nm "WHOLE_NUMBERS", nm "cut_calls"]
abbrev DEFS : List (Str × Stmt) := [Da "doses_of" (tp 4), Da "is_good_on" (tp 5), Da "is_good_on_one" (tp 6), Da "expiry" (tp 7), Da "turn" (tp 8), Da "what_is_left" (tp 9), Da "first_expired_first" (tp 10), Da "take_off" (tp 11), Da "plan_shares" (tp 12), Da "doses_served" (tp 13), Da "doses_lacking" (tp 14), Da "draws_on" (tp 15), Da "days_asking_too_much" (tp 16), Da "doses_asked_on" (tp 17), Da "doses_left_for" (tp 18), Da "days_of_opening" (tp 20), Da "is_article" (tp 38), Da "is_day" (tp 39), Da "is_doses" (tp 40), Da "is_lot" (tp 41), Da "is_article_day_doses" (tp 42), Da "is_row" (tp 43), Da "tell_taken" (tp 48), Da "answer_clear" (tp 44), Da "answer_lot" (tp 45), Da "answer_demand" (tp 46), Da "answer_cancel" (tp 47), Da "answer_plan" (tp 49), Da "answer_told" (tp 50), Da "answer_tight" (tp 51), Da "answer_bears" (tp 52), Da "answer_spare" (tp 53), Da "answer_take" (tp 54), Da "answer_use" (tp 55), Da "answer_today" (tp 56), Da "answer_withdraw" (tp 57), Da "answer_used_from" (tp 58), Da "answer_waste" (tp 59), Da "answer_vials" (tp 60), Da "answer_counts" (tp 61), Da "answer_call" (tp 63), Da "cut_calls" (tp 70), Da "answers" (tp 71)]
abbrev MTHS : List (Nat × Str × Str × Stmt) := [Ma 31 "__init__" "Lot.__init__" (tc 1 0), Ma 52 "__init__" "Demand.__init__" (tc 2 0), Ma 73 "__init__" "Share.__init__" (tc 3 0), Ma 367 "__init__" "Use.__init__" (tc 65 0), Ma 492 "__init__" "Stock.__init__" (tc 66 0), Ma 492 "lots_of" "Stock.lots_of" (tc 66 5), Ma 492 "demands_of" "Stock.demands_of" (tc 66 6), Ma 492 "shares_of" "Stock.shares_of" (tc 66 7), Ma 492 "lack_if" "Stock.lack_if" (tc 66 8), Ma 492 "lack_of" "Stock.lack_of" (tc 66 9), Ma 492 "lack_more_with" "Stock.lack_more_with" (tc 66 10), Ma 492 "lack_more_without" "Stock.lack_more_without" (tc 66 11), Ma 492 "takeable_now" "Stock.takeable_now" (tc 66 12), Ma 367 "doses_from" "Use.doses_from" (tc 65 1), Ma 492 "begin" "Stock.begin" (tc 66 1), Ma 492 "add_lot" "Stock.add_lot" (tc 66 2), Ma 492 "next_demand" "Stock.next_demand" (tc 66 3), Ma 492 "add_demand" "Stock.add_demand" (tc 66 4), Ma 492 "withdraw_lot" "Stock.withdraw_lot" (tc 66 16), Ma 492 "add_use" "Stock.add_use" (tc 66 13), Ma 492 "throw_away_before" "Stock.throw_away_before" (tc 66 14), Ma 492 "drop_demands_before" "Stock.drop_demands_before" (tc 66 15)]
abbrev CLSS : List (Str × Nat × List Str) := [Ca "Lot" 31 ["number", "article", "comes", "last", "left", "had"], Ca "Demand" 52 ["number", "article", "day", "doses"], Ca "Share" 73 ["demand", "taken", "lacks"], Ca "Use" 367 ["number", "article", "day", "taken"], Ca "Stock" 492 ["today", "lots", "demands", "demands_told", "uses", "thrown_away", "withdrawn"]]
abbrev NNS : List Str := ["sum", "any", "sorted", "min", "len", "dict", "enumerate", "all"]
abbrev GIS : List (Str × Int) := [Ga "MOST_LOTS" 40, Ga "MOST_DEMANDS" 40, Ga "LAST_ARTICLE" 8, Ga "LAST_DAY" 400, Ga "MOST_DOSES" 1000, Ga "MOST_IN_VIAL" 100, Ga "LONGEST_LIFE" 60, Ga "LONGEST_ROW" 40, Ga "MOST_NEEDED" 100, Ga "OUT_OF_RANGE" (-1), Ga "NO_ROOM" (-2), Ga "BEFORE_TODAY" (-3), Ga "NO_SUCH_DEMAND" (-4), Ga "NOT_TODAY" (-5), Ga "TOO_FEW_LEFT" (-7), Ga "LACKS_MORE" (-9), Ga "VIALS" 15]
abbrev ANSA : List Nat := [222, 229, 236, 243, 257, 264, 271, 278, 285, 292, 299, 306, 313, 318, 323, 330, 337]
abbrev ANSN : List Str := ["answer_clear", "answer_lot", "answer_demand", "answer_cancel", "answer_plan", "answer_told", "answer_tight", "answer_bears", "answer_spare", "answer_take", "answer_use", "answer_today", "answer_withdraw", "answer_used_from", "answer_waste", "answer_vials", "answer_counts"]
abbrev WHS : List Nat := [0, 4, 3, 1, 1, 1, 1, 3, 2, 1, 2, 1, 1, 1, 1, 2, 0]
def lookA (K : Frag) := DEFS.map (fun d => fnAt K d.1 (nsIn K mainGlobals d.1))
def wantA := DEFS.map (fun d => some (wKey d.1 d.1 d.2))
def lookB (K : Frag) := (MTHS.map (fun d => fnAt K d.2.2.1 (findIn K (.ref d.1) d.2.1)),
  CLSS.map (fun d => (nsIn K mainGlobals d.1, plainGet K d.2.1 Str.empty && hasDictIn K d.2.1 && plainOver K d.2.1 && makesIn K d.2.1 && keepIn K (.ref d.2.1), findIn K (.ref d.2.1) "__setattr__", d.2.2.map fun x => findIn K (.ref d.2.1) x)),
  NNS.map (fun x => nsIn K mainGlobals x), GIS.map (fun p => giAt (nsIn K mainGlobals p.1)), seqAt K "ANSWERING", ANSN.map (fun x => nsIn K mainGlobals x), (seqAt K "WHOLE_NUMBERS").map intOf)
def wantB := (MTHS.map (fun d => some (wKey d.2.1 d.2.2.1 d.2.2.2)),
  CLSS.map (fun d => ((some (some (.ref d.2.1)) : Option (Option Value)), true, (some (some (.builtin "object.__setattr__")) : Option (Option Value)), d.2.2.map fun _ => (some none : Option (Option Value)))),
  NNS.map (fun _ => (some none : Option (Option Value))), GIS.map (fun p => some p.2), ANSA.map Value.ref, ANSA.map (fun a => (some (some (.ref a)) : Option (Option Value))), WHS.map (fun (n : Nat) => some (n : Int)))
noncomputable abbrev topEnd (w : World) (os : OsState) : Option Shared := topRun treeTable PRG w (boot_heap w.params).objs.size ((boot_heap w.params).nsMap mainGlobals "__annotations__") 6712 ⟨boot_heap w.params, Array.mk [], boot_drawn, boot_toks, os⟩ (topStub PRG)
end Rs
lay_quick PySem.Challenge.pw_reagentstock_s01_answers
lay_quick Rs.wantA
lay_quick Rs.wantB
lay_quick Rs.LOOSE
namespace Rs
open PySem PySem.W PySem.Calls PyProof.Rows
theorem run1 : ∀ (w : World) (os : OsState), (topEnd w os).map (fun s => (staticsOk (importedModules PRG.main.body) (boot_heap w.params) s.heap && namesBound PRG s.heap && gensDone s && laidKept (boot_heap w.params) s.heap, openSeen (view PRG [71]) LOOSE (importedModules PRG.main.body) (fun _ => true) true s)) = some (true, openGood (view PRG [71]) LOOSE) := by
  intro w os
  unfold topEnd PRG
  rw [Fast.te14082659384304107361, Fast.te14364793385576792824, Fast.te16449376110707975605, Fast.te8920871248978507458, Fast.te10094530719547559810]
  simp only [Fast.te4187177175401517315, Fast.te5923862056798008813]
  kernel_rfl
theorem run2 : ∀ (w : World) (os : OsState), (topEnd w os).map (fun s => lookA (kOf s.heap)) = some wantA := by
  intro w os
  unfold topEnd PRG
  rw [Fast.te14082659384304107361, Fast.te14364793385576792824, Fast.te16449376110707975605, Fast.te8920871248978507458, Fast.te15978382679073830141]
  kernel_rfl
theorem run3 : ∀ (w : World) (os : OsState), (topEnd w os).map (fun s => lookB (kOf s.heap)) = some wantB := by
  intro w os
  unfold topEnd PRG
  rw [Fast.te14082659384304107361, Fast.te14364793385576792824, Fast.te16449376110707975605, Fast.te8920871248978507458, Fast.te773187332122848270]
  kernel_rfl
theorem left_of_boot {p q : Program} {loose : List Str} {Xt : Shared → Bool} {A B : Type} {f : Shared → A} {g : Shared → B} {a : A} {b : B} {N : Nat} {g0 : Bool} (e : opening p = plainProg p.main.scope.names) (hN : Nat.ble 600 N = true) (hf : ∀ s, fenceModules? p s = some s)
    (hb : ∀ w : World, (boot_heap w.params).isNs mainGlobals = true) {run : World → OsState → Option Shared}
    (hr : ∀ (w : World) (os : OsState), run w os = topRun treeTable p w (boot_heap w.params).objs.size ((boot_heap w.params).nsMap mainGlobals "__annotations__") N ⟨boot_heap w.params, Array.mk [], boot_drawn, boot_toks, os⟩ (topStub p))
    (r1 : ∀ (w : World) (os : OsState), (run w os).map (fun s => (staticsOk (importedModules p.main.body) (boot_heap w.params) s.heap && namesBound p s.heap && gensDone s && laidKept (boot_heap w.params) s.heap, openSeen q loose (importedModules p.main.body) Xt g0 s)) = some (true, openGood q loose))
    (r2 : ∀ (w : World) (os : OsState), (run w os).map f = some a) (r3 : ∀ (w : World) (os : OsState), (run w os).map g = some b) :
    LeftO p q loose Xt (fun s => (f s, g s)) (fun _ => (a, b)) N g0 := fun w => by
  obtain ⟨⟨H, gs, d, k, os⟩, hs, hv⟩ := Option.map_eq_some_iff.mp (boot_open e hN hf w)
  obtain ⟨rfl, hv⟩ := Prod.mk.inj hv
  obtain ⟨rfl, hv⟩ := Prod.mk.inj hv
  obtain ⟨rfl, rfl⟩ := Prod.mk.inj hv
  obtain ⟨s1, h1, h2⟩ := Option.map_eq_some_iff.mp (r1 w os)
  obtain ⟨c1, h2⟩ := Prod.mk.inj h2
  have h3 := r2 w os
  have h4 := r3 w os
  rw [h1] at h3 h4
  rw [hr] at h1
  have hg : ((boot_heap w.params).isNs mainGlobals && (Array.mk [] : Array GenState).size == 0) = true := by rw [hb w]; rfl
  unfold openEnds
  rw [hs]
  show (topFrom treeTable p w N _).map _ = _
  unfold topFrom
  dsimp only
  rw [hg]
  dsimp only
  rw [h1]
  show ((match _ with | true => some s1 | false => none) : Option Shared).map _ = _
  rw [c1]
  show some (openSeen q loose (importedModules p.main.body) Xt g0 s1, f s1, g s1) = _
  rw [h2, Option.some.inj h3, Option.some.inj h4]
theorem bootNs : ∀ w : World, (boot_heap w.params).isNs mainGlobals = true := fun w => by kernel_rfl
theorem left_top : LeftO PRG (view PRG [71]) LOOSE (fun _ => true) (fun s => (lookA (kOf s.heap), lookB (kOf s.heap))) (fun _ => (wantA, wantB)) 6712 :=
  left_of_boot (by kernel_rfl) (by decide) (fun s => by kernel_rfl) bootNs (run := topEnd) (fun _ _ => rfl) run1 run2 run3
end Rs
end
section
-- CHANGE: your row's module here, as the last of these rows
namespace L2
open PySem PySem.Spec PyProof.Rows
abbrev Key := Sum Int Str
def keyIs : Key → Value → Bool
  | .inl k, v => Value.isInt k v
  | .inr x, v => Value.isStrOf x v
def keyH (w : World) : Key → Int
  | .inl k => hashInt k
  | .inr x => hashStr w x
theorem keyIs_shape : ∀ {k : Key} {v : Value}, keyIs k v = true → (∃ i t, k = Sum.inl i ∧ v = Value.int i t) ∨ (∃ x t, k = Sum.inr x ∧ v = Value.str x t)
  | .inl i, v, h => by
    obtain ⟨t, e⟩ := Value.isInt_shape (k := i) (v := v) h
    exact .inl ⟨i, t, rfl, e⟩
  | .inr x, v, h => by
    obtain ⟨t, e⟩ := Value.isStrOf_shape (x := x) (v := v) h
    exact .inr ⟨x, t, rfl, e⟩
theorem keyIs_int (i : Int) (t : Tok) : keyIs (.inl i) (.int i t) = true := by simp [keyIs, Value.isInt]
theorem keyIs_str (x : Str) (t : Tok) : keyIs (.inr x) (.str x t) = true := by simp [keyIs, Value.isStrOf]
theorem key_ll (a b : Int) : decide ((Sum.inl a : Key) = Sum.inl b) = (a == b) := by
  by_cases e : a = b
  · subst e; simp
  · have h : ¬ (Sum.inl a : Key) = Sum.inl b := fun q => e (Sum.inl.inj q)
    rw [decide_eq_false h]
    exact (beq_eq_false_iff_ne.mpr e).symm
theorem key_rr (a b : Str) : decide ((Sum.inr a : Key) = Sum.inr b) = decide (a = b) := by
  by_cases e : a = b
  · subst e; simp
  · have h : ¬ (Sum.inr a : Key) = Sum.inr b := fun q => e (Sum.inr.inj q)
    rw [decide_eq_false h, decide_eq_false e]
theorem key_lr (a : Int) (b : Str) : decide ((Sum.inl a : Key) = Sum.inr b) = false := decide_eq_false (fun q => nomatch q)
theorem key_rl (a : Str) (b : Int) : decide ((Sum.inr a : Key) = Sum.inl b) = false := decide_eq_false (fun q => nomatch q)
def mixKind (prog : Program) (w : World) : PySem.KeyKind prog w Key where
  is := keyIs
  hash := keyH w
  inj := fun v a b ha hb => by
    rcases keyIs_shape ha with ⟨i, t, rfl, rfl⟩ | ⟨x, t, rfl, rfl⟩
    · rcases keyIs_shape hb with ⟨j, u, rfl, e⟩ | ⟨y, u, rfl, e⟩
      · injection e with e1 _; rw [e1]
      · exact nomatch e
    · rcases keyIs_shape hb with ⟨j, u, rfl, e⟩ | ⟨y, u, rfl, e⟩
      · exact nomatch e
      · injection e with e1 _; rw [e1]
  byValue := fun k v h => by
    rcases keyIs_shape h with ⟨i, t, rfl, rfl⟩ | ⟨x, t, rfl, rfl⟩ <;> rfl
  pyHash := fun hv h => by
    rcases keyIs_shape hv with ⟨i, t, rfl, rfl⟩ | ⟨x, t, rfl, rfl⟩
    · exact wpAny_pyHash_int h
    · exact wpAny_pyHash_str h
  eqBool := fun hu hv h => by
    rcases keyIs_shape hu with ⟨i, t, rfl, rfl⟩ | ⟨x, t, rfl, rfl⟩
    · rcases keyIs_shape hv with ⟨j, u, rfl, rfl⟩ | ⟨y, u, rfl, rfl⟩
      · rw [key_ll] at h; exact wpAny_eqBool_int h
      · rw [key_lr] at h; exact SeqAt.EqAt.int_str i t y u _ _ _ _ h
    · rcases keyIs_shape hv with ⟨j, u, rfl, rfl⟩ | ⟨y, u, rfl, rfl⟩
      · rw [key_rl] at h; exact SeqAt.EqAt.str_int x t j u _ _ _ _ h
      · rw [key_rr] at h; exact wpAny_eqBool_str h
  «strs» := fun k x t v h => by
    rcases keyIs_shape h with ⟨i, u, rfl, e⟩ | ⟨y, u, rfl, e⟩
    · exact nomatch e
    · injection e with e1 _
      subst e1
      cases v <;> rfl
theorem mixKind_int (prog : Program) (w : World) (i : Int) (t : Tok) : (mixKind prog w).is (.inl i) (.int i t) = true := keyIs_int i t
theorem mixKind_str (prog : Program) (w : World) (x : Str) (t : Tok) : (mixKind prog w).is (.inr x) (.str x t) = true := keyIs_str x t
end L2
namespace L2
open PySem PySem.Spec PyProof.Rows
inductive V where
  | non | bl (b : Bool) | int (i : Int) | str (x : Str) | byt (b : Array UInt8) | flt (b : UInt64) | ref (a : Addr) | ty (n : String)
  deriving DecidableEq
def RelV : V → Value → Prop
  | .non, u => u = Value.none
  | .bl b, u => u = Value.bool b
  | .int i, u => ∃ t, u = Value.int i t
  | .str x, u => ∃ t, u = Value.str x t
  | .byt b, u => ∃ t, u = Value.bytes b t
  | .flt b, u => ∃ t, u = Value.float b t
  | .ref a, u => u = Value.ref a
  | .ty n, u => u = Value.type n
abbrev Vals : List V → List Value → Prop := Paired RelV
theorem Vals.length {xs : List V} {us : List Value} (r : Vals xs us) : xs.length = us.length := Paired.length r
theorem Vals.get : ∀ {xs : List V} {us : List Value} {i : Nat} {x : V}, Vals xs us → xs[i]? = some x → ∃ u, us[i]? = some u ∧ RelV x u
  | _, _, _, _, .nil, e => by simp at e
  | _, _, 0, _, .cons r _, e => by simp at e; subst e; exact ⟨_, rfl, r⟩
  | _, _, i + 1, x, .cons _ t, e => by
    obtain ⟨u, h1, h2⟩ := Vals.get (i := i) (x := x) t (by simpa using e)
    exact ⟨u, by simpa using h1, h2⟩
theorem Vals.append : ∀ {xs ys : List V} {us ws : List Value}, Vals xs us → Vals ys ws → Vals (xs ++ ys) (us ++ ws)
  | _, _, _, _, .nil, s => s
  | _, _, _, _, .cons r t, s => .cons r (Vals.append t s)
theorem Vals.take : ∀ {xs : List V} {us : List Value} (n : Nat), Vals xs us → Vals (xs.take n) (us.take n)
  | _, _, 0, _ => .nil
  | _, _, _ + 1, .nil => .nil
  | _, _, n + 1, .cons r t => .cons r (Vals.take n t)
theorem Vals.drop : ∀ {xs : List V} {us : List Value} (n : Nat), Vals xs us → Vals (xs.drop n) (us.drop n)
  | _, _, 0, r => r
  | _, _, _ + 1, .nil => .nil
  | _, _, n + 1, .cons _ t => Vals.drop n t
def RelO : Option V → Option Value → Prop
  | some v, some u => RelV v u
  | none, none => True
  | _, _ => False
def KV {κ : Type} : List (κ × V) → List (κ × Value) → Prop := Paired fun (p : κ × V) (q : κ × Value) => p.1 = q.1 ∧ RelV p.2 q.2
def kV : Key → V
  | .inl i => .int i
  | .inr x => .str x
inductive HO where
  /-- a list -/
  | lst (xs : List V)
  /-- a tuple (never changes) -/
  | tup (xs : List V)
  /-- a dict whose keys are ints and texts; one whose keys are tuples of ints and texts (the empty one is both) -/
  | dK (kvs : List (Key × V)) | dT (kvs : List (List Key × V))
  /-- a set of ints: its members, its size -/
  | set (S : Int → Bool) (n : Nat)
  /-- an instance of the class at C, its dict at dx, its attributes -/
  | ins (C dx : Addr) (fs : List (Str × V))
  /-- the dict of the instance at x -/
  | own (x : Addr)
  /-- the dict of an exception -/
  | xd (fs : List (Str × V))
  /-- a bound method, f of x -/
  | met (f x : Addr)
  /-- a range object lo, lo + 1, .. below hi -/
  | rng (lo hi : Int)
  /-- a thing that is known to the object (the script; a dict while a loop walks it): read, never written while it is so -/
  | frz (o : Obj) (u : HO)
  /-- a code object's table -/
  | tbl (ps : Array Value)
  /-- any other thing, by what is true of its one object (a def of one's own: SetO a S n := HO.ext fun h => ..) -/
  | ext (φ : Heap → Prop)
abbrev Hp := Addr → Option HO
def upd (H : Hp) (a : Addr) (o : HO) : Hp := fun b => if b = a then some o else H b
theorem upd_same {H : Hp} {a : Addr} {o : HO} : upd H a o a = some o := by unfold upd; rw [if_pos rfl]
theorem upd_ne {H : Hp} {a b : Addr} {o : HO} (h : b ≠ a) : upd H a o b = H b := by unfold upd; rw [if_neg h]
theorem upd_upd {H : Hp} {a : Addr} {o u : HO} : upd (upd H a o) a u = upd H a u := by
  funext b; unfold upd; split <;> rfl
theorem ne_of {H : Hp} {a b : Addr} {o u : HO} (h : H a = some o) (h' : H b = some u) (d : o ≠ u) : a ≠ b := by
  intro e; subst e; rw [h] at h'; exact d (Option.some.inj h')
theorem ne_of_none {H : Hp} {a b : Addr} {o : HO} (h : H a = some o) (h' : H b = none) : a ≠ b := by
  intro e; subst e; rw [h] at h'; cases h'
section
variable (P : Program) (w : World)
def ObjOk (H : Hp) (h : Heap) (a : Addr) : HO → Prop
  | .lst xs => xs.length ≤ sizeLine ∧ ∃ (its : List Value) (n : Nat), Vals xs its ∧ h.get? a = some { cls := .type "list", data := .seq its.toArray n }
  | .tup xs => xs.length ≤ sizeLine ∧ ∃ its : List Value, Vals xs its ∧ IsTup h a its.toArray
  | .dK kvs => kvs.length ≤ sizeLine ∧ (a == sysModules) = false ∧ ∃ vs, KV kvs vs ∧ h.DictOf (mixKind P w) a vs
  | .dT kvs => kvs.length ≤ sizeLine ∧ (a == sysModules) = false ∧ ∃ xs : List (List Key × Addr × Value),
      Paired (fun (p : List Key × V) (q : List Key × Addr × Value) => p.1 = q.1 ∧ H q.2.1 = some (.tup (p.1.map kV)) ∧ RelV p.2 q.2.2) kvs xs ∧
      ∃ o es ep, h.get? a = some o ∧ o.ExactDict ∧ o.data = .dict es ep ∧ es.toList = xs.map (entryOfKey (tupleKind (mixKind P w))) ∧ (xs.map (·.1)).Nodup
  | .set S n => h.SetOf (intKind P w) a S n
  | .ins C dx fs => H dx = some (.own a) ∧ fs.length ≤ 1000 ∧ dx ≠ a ∧ h.get? a = some (PySem.W.instObj C dx) ∧
      ∃ mA, h.Ns1 dx mA ∧ (∀ f, RelO (fs.lookup f) (mA f)) ∧ PySem.Within mA (fs.map (·.1))
  | .own _ => ∃ o, h.get? a = some o
  | .xd fs => ∃ mA, h.Ns1 a mA ∧ ∀ f, RelO (fs.lookup f) (mA f)
  | .rng lo hi => ∃ t u v, h.get? a = some { cls := .type "range", data := .fields #[.int lo t, .int hi u, .int 1 v] }
  | .frz o u => h.get? a = some o ∧ ObjOk H h a u
  | .tbl ps => h.get? a = some { cls := .none, data := .fields ps }
  | .met f x => h.get? a = some (PySem.W.methodObj (.ref f) (.ref x))
  | .ext φ => φ h ∧ (∃ o, h.get? a = some o) ∧ ∀ h1 h2 : Heap, φ h1 → (∀ o, h1.get? a = some o → h2.get? a = some o) → φ h2
def HOk (H : Hp) (h : Heap) : Prop := ∀ a o, H a = some o → ObjOk P w H h a o
end
section
variable {P : Program} {w : World} {H H' : Hp} {h h' : Heap} {a : Addr} {o : HO}
theorem ObjOk.lt (x : ObjOk P w H h a o) : a < h.objs.size := by
  cases o with
  | lst xs => obtain ⟨_, _, _, _, e⟩ := x; exact Heap.lt_size e
  | tup xs => obtain ⟨_, _, _, p⟩ := x; exact p.lt
  | dK kvs => obtain ⟨_, _, _, _, o, _, _, e, _⟩ := x; exact Heap.lt_size e
  | dT kvs => obtain ⟨_, _, _, _, o, _, _, e, _⟩ := x; exact Heap.lt_size e
  | set S n => obtain ⟨o, _, _, _, e, _⟩ := x; exact Heap.lt_size e
  | ins C dx fs => obtain ⟨_, _, _, e, _⟩ := x; exact Heap.lt_size e
  | own y => obtain ⟨_, e⟩ := x; exact Heap.lt_size e
  | xd fs => obtain ⟨_, ⟨_, _, _, e, _⟩, _⟩ := x; exact Heap.lt_size e
  | rng lo hi => obtain ⟨_, _, _, e⟩ := x; exact Heap.lt_size e
  | frz ob u => obtain ⟨e, _⟩ := x; exact Heap.lt_size e
  | tbl ps => exact Heap.lt_size (show h.get? a = some _ from x)
  | met f y => exact Heap.lt_size (show h.get? a = some _ from x)
  | ext φ => obtain ⟨_, ⟨_, e⟩, _⟩ := x; exact Heap.lt_size e
theorem Paired.mapP {α β : Type} {F G : α → β → Prop} : ∀ {l₁ : List α} {l₂ : List β}, Paired F l₁ l₂ → (∀ a b, F a b → G a b) → Paired G l₁ l₂
  | _, _, .nil, _ => .nil
  | _, _, .cons r t, f => .cons (f _ _ r) (Paired.mapP t f)
theorem ObjOk.stay (x : ObjOk P w H h a o) (k : ∀ b u, (b = a ∨ H b = some (.own a)) → h.get? b = some u → h'.get? b = some u)
    (ho : ∀ b, H b = some (.own a) → H' b = some (.own a)) (ht : ∀ b xs, H b = some (.tup xs) → H' b = some (.tup xs)) : ObjOk P w H' h' a o := by
  induction o with
  | lst xs => obtain ⟨z, its, n, r, e⟩ := x; exact ⟨z, its, n, r, k _ _ (.inl rfl) e⟩
  | tup xs => obtain ⟨z, its, r, ob, e, c⟩ := x; exact ⟨z, its, r, ob, k _ _ (.inl rfl) e, c⟩
  | dK kvs => obtain ⟨z, y, vs, r, ob, es, ep, e, c⟩ := x; exact ⟨z, y, vs, r, ob, es, ep, k _ _ (.inl rfl) e, c⟩
  | dT kvs =>
    obtain ⟨z, y, xs, r, ob, es, ep, e, c⟩ := x
    exact ⟨z, y, xs, Paired.mapP r fun p q z => ⟨z.1, ht _ _ z.2.1, z.2.2⟩, ob, es, ep, k _ _ (.inl rfl) e, c⟩
  | set S n => obtain ⟨ob, es, ep, t, e, c⟩ := x; exact ⟨ob, es, ep, t, k _ _ (.inl rfl) e, c⟩
  | ins C dx fs =>
    obtain ⟨d, z, ne, e, mA, ⟨od, es, ep, e2, c⟩, r⟩ := x
    exact ⟨ho _ d, z, ne, k _ _ (.inl rfl) e, mA, ⟨od, es, ep, k _ _ (.inr d) e2, c⟩, r⟩
  | own y => obtain ⟨ob, e⟩ := x; exact ⟨ob, k _ _ (.inl rfl) e⟩
  | xd fs => obtain ⟨mA, ⟨od, es, ep, e, c⟩, r⟩ := x; exact ⟨mA, ⟨od, es, ep, k _ _ (.inl rfl) e, c⟩, r⟩
  | rng lo hi => obtain ⟨t, u, v, e⟩ := x; exact ⟨t, u, v, k _ _ (.inl rfl) e⟩
  | frz ob u ih => obtain ⟨e, q⟩ := x; exact ⟨k _ _ (.inl rfl) e, ih q⟩
  | tbl ps =>
    have e : h.get? a = some { cls := .none, data := .fields ps } := x
    show h'.get? a = some { cls := .none, data := .fields ps }
    exact k a _ (.inl rfl) e
  | met f y =>
    have e : h.get? a = some (PySem.W.methodObj (.ref f) (.ref y)) := x
    show h'.get? a = some (PySem.W.methodObj (.ref f) (.ref y))
    exact k a _ (.inl rfl) e
  | ext φ => obtain ⟨p, ⟨o, e⟩, st⟩ := x; exact ⟨st _ _ p fun o q => k _ _ (.inl rfl) q, ⟨o, k _ _ (.inl rfl) e⟩, st⟩
theorem HOk.lt (x : HOk P w H h) (e : H a = some o) : a < h.objs.size := (x a o e).lt
theorem HOk.fresh (x : HOk P w H h) (e : h.objs.size ≤ a) : H a = none := by
  cases q : H a with
  | none => rfl
  | some u => exact absurd (Nat.lt_of_lt_of_le (x.lt q) e) (Nat.lt_irrefl _)
theorem HOk.kept (x : HOk P w H h) (k : ∀ b u, h.get? b = some u → h'.get? b = some u) : HOk P w H h' := fun a o e =>
  (x a o e).stay (fun b u _ q => k b u q) (fun _ q => q) fun _ _ q => q
theorem HOk.laid (x : HOk P w H h) (k : ∀ b u, h.get? b = some u → h'.get? b = some u) (hp : h.objs.size ≤ a) (new : ObjOk P w (upd H a o) h' a o) : HOk P w (upd H a o) h' := fun b u e => by
  have hn := x.fresh hp
  by_cases hb : b = a
  · subst hb; rw [upd_same] at e; cases e; exact new
  · rw [upd_ne hb] at e
    exact (x b u e).stay (fun c v _ q => k c v q) (fun c q => by rw [upd_ne (ne_of_none q hn)]; exact q) fun c xs q => by rw [upd_ne (ne_of_none q hn)]; exact q
end
def Rd (H : Hp) (a : Addr) (u : HO) : Prop := H a = some u ∨ ∃ o, H a = some (.frz o u)
theorem Rd.ok {P : Program} {w : World} {H : Hp} {h : Heap} {a : Addr} {u : HO} (r : Rd H a u) (x : HOk P w H h) : ObjOk P w H h a u := by
  rcases r with r | ⟨o, r⟩
  · exact x a u r
  · obtain ⟨_, q⟩ := x a _ r
    exact q
def Mut : Option HO → Prop
  | some (.lst _) => True
  | some (.dK _) => True
  | some (.dT _) => True
  | some (.set _ _) => True
  | some (.ins _ _ _) => True
  | some (.ext _) => True
  | _ => False
section
variable {P : Program} {w : World} {H : Hp} {h h' : Heap} {x e : Addr} {o' : HO}
theorem HOk.write (ok : HOk P w H h) (mu : Mut (H x)) (he : e = x ∨ H e = some (.own x)) (k : ∀ b u, b ≠ e → h.get? b = some u → h'.get? b = some u) (heo : ∃ u, h'.get? e = some u)
    (new : ObjOk P w (upd H x o') h' x o') : HOk P w (upd H x o') h' := fun b u q => by
  have nown : ∀ c y, H c = some (.own y) → c ≠ x := fun c y r z => by subst z; rw [r] at mu; exact mu
  have ntup : ∀ c xs, H c = some (.tup xs) → c ≠ x := fun c xs r z => by subst z; rw [r] at mu; exact mu
  by_cases hb : b = x
  · subst hb; rw [upd_same] at q; cases q; exact new
  · rw [upd_ne hb] at q
    by_cases hbe : b = e
    · have q' : H b = some (.own x) := by
        rcases he with z | z
        · exact absurd (hbe.trans z) hb
        · rw [hbe]; exact z
      rw [q] at q'; cases q'
      obtain ⟨v, hv⟩ := heo
      exact ⟨v, by rw [hbe]; exact hv⟩
    · refine (ok b u q).stay (fun c v hc r => k c v ?_ r) (fun c r => by rw [upd_ne (nown c b r)]; exact r) fun c xs r => by rw [upd_ne (ntup c xs r)]; exact r
      rcases hc with rfl | hc
      · exact hbe
      · rintro rfl
        rcases he with z | z
        · exact nown c b hc z
        · rw [hc] at z; cases z; exact hb rfl
end
structure Un (fs ex : List Addr) (H H' : Hp) (h h' : Heap) : Prop where
  keep : ∀ b o, h.get? b = some o → H b = none → b ∉ fs → b ∉ ex → h'.get? b = some o
  slot : ∀ b o, h.get? b = some o → H b = none → b ∈ fs → b ∉ ex → ∃ sl, h'.get? b = some { o with slots := sl }
  free : ∀ b o, h.get? b = some o → H b = none → b ∉ ex → H' b = none
  there : ∀ b o, h.get? b = some o → b ∉ ex → ∃ o', h'.get? b = some o'
  tups : ∀ b xs, H b = some (.tup xs) → H' b = some (.tup xs)
  frzs : ∀ b o u, H b = some (.frz o u) → H' b = some (.frz o u)
  tbls : ∀ b ps, H b = some (.tbl ps) → ∃ more, H' b = some (.tbl (ps ++ more))
section
variable {fs fs' ex ex' : List Addr} {H H1 H2 : Hp} {h h1 h2 h' : Heap} {a x e : Addr} {o : HO}
theorem Un.any (u : Un fs ex H H1 h h1) {b : Addr} {ob : Obj} (q : h.get? b = some ob) (n : H b = none) (hx : b ∉ ex) : ∃ sl, h1.get? b = some { ob with slots := sl } := by
  by_cases hb : b ∈ fs
  · exact u.slot b ob q n hb hx
  · exact ⟨ob.slots, u.keep b ob q n hb hx⟩
theorem Un.kept (k : ∀ b u, h.get? b = some u → h'.get? b = some u) : Un fs ex H H h h' :=
  ⟨fun b ob q _ _ _ => k b ob q, fun b ob q _ _ _ => ⟨ob.slots, k b ob q⟩, fun _ _ _ n _ => n, fun b ob q _ => ⟨ob, k b ob q⟩, fun _ _ q => q, fun _ _ _ q => q, fun _ ps q => ⟨#[], by rw [q]; simp⟩⟩
theorem Un.refl : Un fs ex H H h h := Un.kept fun _ _ q => q
theorem Un.laid (k : ∀ b u, h.get? b = some u → h'.get? b = some u) (hp : h.objs.size ≤ a) (hn : H a = none) : Un fs ex H (upd H a o) h h' where
  keep := fun b u q _ _ _ => k b u q
  slot := fun b u q _ _ _ => ⟨u.slots, k b u q⟩
  free := fun b u q n _ => by rw [upd_ne (Nat.ne_of_lt (Nat.lt_of_lt_of_le (Heap.lt_size q) hp))]; exact n
  there := fun b u q _ => ⟨u, k b u q⟩
  tups := fun b xs q => by rw [upd_ne (ne_of_none q hn)]; exact q
  frzs := fun b u xs q => by rw [upd_ne (ne_of_none q hn)]; exact q
  tbls := fun b ps q => ⟨#[], by rw [upd_ne (ne_of_none q hn), q]; simp⟩
theorem Un.write (mu : Mut (H x)) (he : e = x ∨ H e = some (.own x)) (k : ∀ b u, b ≠ e → h.get? b = some u → h'.get? b = some u) (heo : ∃ u, h'.get? e = some u) : Un fs ex H (upd H x o) h h' := by
  have hx : ∀ b, H b = none → b ≠ x := fun b n z => by subst z; rw [n] at mu; exact mu
  have hb : ∀ b, H b = none → b ≠ e := fun b n z => by
    subst z
    rcases he with r | r
    · exact hx b n r
    · rw [n] at r; cases r
  have hm : ∀ b u, H b = some u → ¬ Mut (some u) → b ≠ x := fun b u q nm z => by subst z; rw [q] at mu; exact nm mu
  refine ⟨fun b u q n _ _ => k b u (hb b n) q, fun b u q n _ _ => ⟨u.slots, k b u (hb b n) q⟩, fun b u q n _ => by rw [upd_ne (hx b n)]; exact n, fun b u q _ => ?_,
    fun b xs q => by rw [upd_ne (hm b _ q fun z => z)]; exact q, fun b u xs q => by rw [upd_ne (hm b _ q fun z => z)]; exact q, fun b ps q => ⟨#[], by rw [upd_ne (hm b _ q fun z => z), q]; simp⟩⟩
  by_cases hbe : b = e
  · subst hbe; exact heo
  · exact ⟨u, k b u hbe q⟩
end
def trk (h : Heap) (H : Hp) : List Addr := (List.range h.objs.size).filter fun a => (H a).isSome
def hidT (h : Heap) (H : Hp) : Heap := PySem.W.hideAll h (trk h H)
theorem hidT_size (h : Heap) (H : Hp) : (hidT h H).objs.size = h.objs.size := PySem.W.hideAll_size _ _
theorem hidT_get {h : Heap} {H : Hp} {b : Addr} {o : Obj} (e : h.get? b = some o) (n : H b = none) : (hidT h H).get? b = some o :=
  PySem.W.hideAll_get _ e fun hm => by
    have q : (H b).isSome = true := (List.mem_filter.mp hm).2
    rw [n] at q; simp at q
theorem of_hidT {h : Heap} {H : Hp} {b : Addr} {o : Obj} (e : (hidT h H).get? b = some o) : h.get? b = some o ∧ H b = none := by
  have e' : h.get? b = some o := PySem.W.of_hideAll (trk h H) e
  refine ⟨e', ?_⟩
  cases q : H b with
  | none => rfl
  | some x =>
    have hm : b ∈ trk h H := List.mem_filter.mpr ⟨List.mem_range.mpr (Heap.lt_size e'), by simp [q]⟩
    have z : (hidT h H).get? b = none := PySem.W.hideAll_none (trk h H) hm
    rw [z] at e; cases e
end L2
namespace L2
open PySem PySem.Spec PyProof.Rows
structure Mod (K : PySem.W.Frag) (mg : Str → Option Value) (base : Heap) : Prop where
  kin : K.In base
  glob : base.Ns mainGlobals mg
  blt : ∃ mb, base.Ns builtinsNs mb ∧ ∀ x : Str, x ≠ "__name__" → mb x = bootBuiltins x
  nolimit : base.NoLimit
/-- the context: a def's body (or a comprehension's block) running. base: fixed through the whole law; s₀, H₀: the entry; outer: the frames whose slots others may change (a def's callers); stack: all frames that run;
   ex: iterators that were made ahead of the entry and are walked here (a comprehension's); fn: the names whose cells were made at the entry (a def: all; a comprehension's block: its own); calm: not within an except suite; pn: pins that every state bears; xe: what is wanted of an exception that leaves the code -/
structure Cx where
  prog : Program
  w : World
  K : PySem.W.Frag
  mg : Str → Option Value
  base : Heap
  A : Around
  N : List Str
  s_0 : Shared
  H_0 : Hp
  env : Env
  outer : List Env
  stack : List Env
  ex : List Addr
  fn : Str → Bool
  calm : Bool
  pn : List (Addr × Obj)
  xe : Value → Shared → Prop
def frs (l : List Env) : List Addr := l.filterMap (·.frame)
abbrev Cx.fs (X : Cx) : List Addr := frs X.outer
def Vis (sc : Scope) (x : Str) : Prop := sc.names.lookup x = some .local ∨ sc.names.lookup x = some .cell ∨ sc.names.lookup x = some .free
def Loc (sc : Scope) (x : Str) : Prop := sc.names.lookup x = some .local ∨ sc.names.lookup x = some .cell
def Look (env : Env) (h : Heap) (m : Str → Option Value) (x : Str) (u : Value) : Prop :=
  (env.kindOf x = some .local ∧ m x = some u) ∨ ((env.kindOf x = some .cell ∨ env.kindOf x = some .free) ∧ ∃ c, env.cells.lookup x = some c ∧ h.IsCell c (some u))
structure Cx.Ok (X : Cx) : Prop where
  mod : Mod X.K X.mg X.base
  kind : X.env.scope.kind = .function
  glob : X.env.globals = mainGlobals
  blt : X.env.builtins = builtinsNs
  above : X.s_0.heap.objs.size ≤ X.env.locals
  inj : ∀ x y c, X.env.cells.lookup x = some c → X.env.cells.lookup y = some c → x = y
  has : ∀ x, (X.env.kindOf x = some .cell ∨ X.env.kindOf x = some .free) → ∃ c, X.env.cells.lookup x = some c
  cab : ∀ x c, X.fn x = true → X.env.cells.lookup x = some c → X.s_0.heap.objs.size ≤ c
  hd : X.calm = true → X.A.handled = none
  frames : X.A.frames = some X.stack
  stk : X.stack = X.outer ∨ (X.stack = X.env :: X.outer ∧ X.env.frame = some X.env.locals)
  exf : ∀ b ∈ X.ex, b ≠ X.env.locals ∧ ∀ x c, X.env.cells.lookup x = some c → c ≠ b
  bs : ∀ b o, X.base.get? b = some o → X.s_0.heap.get? b = some o ∧ X.H_0 b = none
  bsz : X.base.objs.size ≤ X.s_0.heap.objs.size
  noex : ∀ b o, X.base.get? b = some o → b ∉ X.ex
  exfs : ∀ b ∈ X.ex, b ∉ X.fs
  funs : X.s_0.heap.FunFrames X.base X.outer
  frf : ∀ b ∈ X.fs, X.H_0 b = none
structure Inv (X : Cx) (pins : List (Addr × Obj)) (σ : List (Option V)) (H : Hp) (s : Shared) : Prop where
  ok : X.Ok
  os : s.os = X.s_0.os
  bare : AllBare s.gens
  base : Un X.fs X.ex X.H_0 H X.s_0.heap s.heap
  loc : ∃ m, s.heap.Ns X.env.locals m ∧ ∀ (i : Nat) (x : Str) (v : V), X.N[i]? = some x → σ[i]? = some (some v) → Vis X.env.scope x → ∃ u, RelV v u ∧ Look X.env s.heap m x u
  cell : ∀ x c, X.env.cells.lookup x = some c → ∃ v, s.heap.IsCell c v
  free : H X.env.locals = none
  freeC : ∀ x c, X.env.cells.lookup x = some c → H c = none
  pin : ∀ p ∈ X.pn ++ pins, s.heap.get? p.1 = some p.2 ∧ H p.1 = none ∧ p.1 ≠ X.env.locals ∧ p.1 ∉ X.fs ∧ ∀ v, p.2.data ≠ .cell v
  hok : HOk X.prog X.w H s.heap
  len : σ.length = X.N.length
section
variable {X : Cx} {pins : List (Addr × Obj)} {σ : List (Option V)} {H H' : Hp} {s : Shared} {h' : Heap}
theorem Cx.Ok.nofr (ok : X.Ok) {b : Addr} {o : Obj} (e : X.base.get? b = some o) : b ∉ X.fs := fun hb => by
  have := (ok.funs.mem hb).1
  rw [e] at this; cases this
theorem Inv.bs (I : Inv X pins σ H s) : ∀ b o, X.base.get? b = some o → s.heap.get? b = some o ∧ H b = none := fun b o e =>
  ⟨I.base.keep b o (I.ok.bs b o e).1 (I.ok.bs b o e).2 (I.ok.nofr e) (I.ok.noex b o e), I.base.free b o (I.ok.bs b o e).1 (I.ok.bs b o e).2 (I.ok.noex b o e)⟩
theorem Inv.bk (I : Inv X pins σ H s) : ∀ b o, X.base.get? b = some o → s.heap.get? b = some o := fun b o e => (I.bs b o e).1
theorem Inv.mod (I : Inv X pins σ H s) : Mod X.K X.mg X.base := I.ok.mod
theorem Inv.kIn (I : Inv X pins σ H s) : X.K.In s.heap := I.ok.mod.kin.keeps I.bk
theorem Inv.lt (I : Inv X pins σ H s) : X.env.locals < s.heap.objs.size := let ⟨_, hn, _⟩ := I.loc; hn.lt
theorem Inv.sz (I : Inv X pins σ H s) : X.s_0.heap.objs.size ≤ s.heap.objs.size := Nat.le_trans I.ok.above (Nat.le_of_lt I.lt)
theorem Inv.nofs (I : Inv X pins σ H s) {a : Addr} (h : s.heap.objs.size ≤ a) : a ∉ X.fs := fun hb => by
  obtain ⟨_, o, ho, _⟩ := I.ok.funs.mem hb
  exact absurd (Nat.lt_of_lt_of_le (Heap.lt_size ho) (Nat.le_trans I.sz h)) (Nat.lt_irrefl _)
theorem Inv.cne (I : Inv X pins σ H s) : ∀ x c, X.env.cells.lookup x = some c → c ≠ X.env.locals := fun x c e z => by
  obtain ⟨v, o, ho, hd⟩ := I.cell x c e
  obtain ⟨m, ⟨o', es, ep, ho', hd', _⟩, _⟩ := I.loc
  rw [z, ho'] at ho; cases ho; rw [hd'] at hd; cases hd
theorem Inv.funs (I : Inv X pins σ H s) : s.heap.FunFrames X.base X.outer := by
  have all : ∀ (l : List Env), (∀ b ∈ frs l, b ∈ X.fs) → X.s_0.heap.FunFrames X.base l → s.heap.FunFrames X.base l := by
    intro l
    induction l with
    | nil => intro _ _; trivial
    | cons env r ih =>
      intro hs hl
      obtain ⟨hk, ⟨L, o, hf, hn, ho, hd⟩, hr⟩ := hl
      have hL : L ∈ X.fs := hs L (by unfold frs; rw [List.filterMap_cons, hf]; exact List.mem_cons_self)
      obtain ⟨sl, e⟩ := I.base.slot L o ho (I.ok.frf L hL) hL fun z => I.ok.exfs L z hL
      exact ⟨hk, ⟨L, _, hf, hn, e, hd⟩, ih (fun b hb => hs b (by unfold frs; rw [List.filterMap_cons, hf]; exact List.mem_cons_of_mem _ hb)) hr⟩
  exact all X.outer (fun _ hb => hb) I.ok.funs
theorem Inv.stack (I : Inv X pins σ H s) : s.heap.FunFrames X.base X.stack := by
  rcases I.ok.stk with e | ⟨e, hf⟩
  · rw [e]; exact I.funs
  · rw [e]
    obtain ⟨m, hn, _⟩ := I.loc
    refine .cons (by rw [I.ok.kind]; decide) hf hn ?_ I.funs
    exact Heap.get?_none_of_le (Nat.le_trans I.ok.bsz I.ok.above)
theorem Inv.stkSub (I : Inv X pins σ H s) : ∀ b ∈ frs X.stack, b ∈ X.env.locals :: X.fs := fun b hb => by
  rcases I.ok.stk with e | ⟨e, hf⟩
  · rw [e] at hb; exact List.mem_cons_of_mem _ hb
  · rw [e] at hb
    unfold frs at hb
    rw [List.filterMap_cons, hf] at hb
    exact hb
theorem Inv.stkFree (I : Inv X pins σ H s) : ∀ b ∈ frs X.stack, H b = none := fun b hb => by
  rcases List.mem_cons.mp (I.stkSub b hb) with e | hb
  · rw [e]; exact I.free
  · obtain ⟨_, o, ho, _⟩ := I.ok.funs.mem hb
    exact I.base.free b o ho (I.ok.frf b hb) fun z => I.ok.exfs b z hb
theorem Inv.step {g' : Array GenState} {t' : Nat} {d' : Drawn} {ch : List Addr} (I : Inv X pins σ H s)
    (hch : ∀ b ∈ ch, (b ∈ X.ex ∨ X.s_0.heap.objs.size ≤ b) ∧ b ≠ X.env.locals ∧ (∀ x c, X.env.cells.lookup x = some c → c ≠ b) ∧ ∀ p ∈ X.pn ++ pins, p.1 ≠ b)
    (keep : ∀ b o, b ≠ X.env.locals → b ∉ X.fs → b ∉ ch → s.heap.get? b = some o → H b = none → h'.get? b = some o)
    (slot : ∀ b o, b ≠ X.env.locals → b ∈ X.fs → b ∉ ch → s.heap.get? b = some o → H b = none → ∃ sl, h'.get? b = some { o with slots := sl }) (free : ∀ b o, b ∉ ch → s.heap.get? b = some o → H b = none → H' b = none)
    (there : ∀ b o, b ∉ ch → s.heap.get? b = some o → ∃ o', h'.get? b = some o')
    (tups : ∀ b xs, H b = some (.tup xs) → H' b = some (.tup xs)) (frzs : ∀ b o u, H b = some (.frz o u) → H' b = some (.frz o u)) (tbls : ∀ b ps, H b = some (.tbl ps) → ∃ more, H' b = some (.tbl (ps ++ more)))
    (ns : ∀ m, s.heap.Ns X.env.locals m → h'.Ns X.env.locals m) (hok : HOk X.prog X.w H' h') (hg : AllBare g') :
    Inv X pins σ H' { s with heap := h', gens := g', drawn := d', toks := t' } := by
  have neL : ∀ b o, X.s_0.heap.get? b = some o → b ≠ X.env.locals := fun b o e => Nat.ne_of_lt (Nat.lt_of_lt_of_le (Heap.lt_size e) I.ok.above)
  have neC : ∀ b o, X.s_0.heap.get? b = some o → b ∉ X.ex → b ∉ ch := fun b o e hx hb => by
    rcases (hch b hb).1 with z | z
    · exact hx z
    · exact absurd (Nat.lt_of_lt_of_le (Heap.lt_size e) z) (Nat.lt_irrefl _)
  have cellK : ∀ x c, X.env.cells.lookup x = some c → ∀ v, s.heap.IsCell c v → h'.IsCell c v := fun x c e v ⟨o, ho, hd⟩ => by
    have nch : c ∉ ch := fun z => (hch c z).2.2.1 x c e rfl
    by_cases hc : c ∈ X.fs
    · obtain ⟨sl, q⟩ := slot c o (I.cne x c e) hc nch ho (I.freeC x c e)
      exact ⟨_, q, hd⟩
    · exact ⟨o, keep c o (I.cne x c e) hc nch ho (I.freeC x c e), hd⟩
  refine ⟨I.ok, I.os, hg, ⟨fun b o e n hb hx => ?_, fun b o e n hb hx => ?_, fun b o e n hx => ?_, fun b o e hx => ?_, fun b xs e => tups b xs (I.base.tups b xs e), fun b o xs e => frzs b o xs (I.base.frzs b o xs e), fun b ps e => ?_⟩, ?_, fun x c e => ?_, ?_, fun x c e => ?_, fun p hp => ?_, hok, I.len⟩
  · exact keep b o (neL b o e) hb (neC b o e hx) (I.base.keep b o e n hb hx) (I.base.free b o e n hx)
  · obtain ⟨sl, e1⟩ := I.base.slot b o e n hb hx
    obtain ⟨sl', e2⟩ := slot b _ (neL b o e) hb (neC b o e hx) e1 (I.base.free b o e n hx)
    exact ⟨sl', e2⟩
  · obtain ⟨o', e1⟩ := I.base.there b o e hx
    exact free b o' (neC b o e hx) e1 (I.base.free b o e n hx)
  · obtain ⟨o', e1⟩ := I.base.there b o e hx
    exact there b o' (neC b o e hx) e1
  · obtain ⟨m1, e1⟩ := I.base.tbls b ps e
    obtain ⟨m2, e2⟩ := tbls b _ e1
    exact ⟨m1 ++ m2, by rw [e2, Array.append_assoc]⟩
  · obtain ⟨m, hn, hl⟩ := I.loc
    refine ⟨m, ns m hn, fun i x v e1 e2 e3 => ?_⟩
    obtain ⟨u, r, l⟩ := hl i x v e1 e2 e3
    refine ⟨u, r, ?_⟩
    rcases l with l | ⟨k, c, e, z⟩
    · exact .inl l
    · exact .inr ⟨k, c, e, cellK x c e _ z⟩
  · obtain ⟨v, z⟩ := I.cell x c e
    exact ⟨v, cellK x c e v z⟩
  · obtain ⟨m, ⟨o, _, _, ho, _⟩, _⟩ := I.loc
    exact free _ o (fun z => (hch _ z).2.1 rfl) ho I.free
  · obtain ⟨v, o, ho, hd⟩ := I.cell x c e
    exact free c o (fun z => (hch c z).2.2.1 x c e rfl) ho (I.freeC x c e)
  · obtain ⟨e, n, ne, nf, d⟩ := I.pin p hp
    have nch : p.1 ∉ ch := fun z => (hch p.1 z).2.2.2 p hp rfl
    exact ⟨keep p.1 p.2 ne nf nch e n, free p.1 p.2 nch e n, ne, nf, d⟩
theorem Inv.un {t' : Nat} (I : Inv X pins σ H s) (u : Un X.fs [] H H' s.heap h') (hok : HOk X.prog X.w H' h') : Inv X pins σ H' { s with heap := h', toks := t' } := by
  obtain ⟨m, ⟨o, es, ep, ho, r⟩, _⟩ := id I.loc
  obtain ⟨sl, hL⟩ := u.any ho I.free (by simp)
  exact I.step (g' := s.gens) (d' := s.drawn) (ch := []) (fun _ z => nomatch z) (fun b o _ hb _ e n => u.keep b o e n hb (by simp)) (fun b o _ hb _ e n => u.slot b o e n hb (by simp)) (fun b o _ e n => u.free b o e n (by simp)) (fun b o _ e => u.there b o e (by simp)) u.tups u.frzs u.tbls (fun m' hm => by
    obtain ⟨o', es', ep', ho', r'⟩ := hm
    rw [ho] at ho'; cases ho'
    exact ⟨_, es', ep', hL, r'⟩) hok I.bare
theorem Inv.call {g' : Array GenState} {t' : Nat} {d' : Drawn} {ch : List Addr} (I : Inv X pins σ H s) (u : Un (frs X.stack) ch H H' s.heap h') (hok : HOk X.prog X.w H' h') (hg : AllBare g')
    (hch : ∀ b ∈ ch, (b ∈ X.ex ∨ X.s_0.heap.objs.size ≤ b) ∧ b ≠ X.env.locals ∧ (∀ x c, X.env.cells.lookup x = some c → c ≠ b) ∧ ∀ p ∈ X.pn ++ pins, p.1 ≠ b) :
    Inv X pins σ H' { s with heap := h', gens := g', drawn := d', toks := t' } := by
  obtain ⟨m, ⟨o, es, ep, ho, r⟩, _⟩ := id I.loc
  obtain ⟨sl, hL⟩ := u.any ho I.free fun z => (hch _ z).2.1 rfl
  exact I.step (ch := ch) hch (fun b o hL hb hc e n => u.keep b o e n (fun z => (List.mem_cons.mp (I.stkSub b z)).elim hL hb) hc) (fun b o _ _ hc e n => u.any e n hc) (fun b o hc e n => u.free b o e n hc) (fun b o hc e => u.there b o e hc) u.tups u.frzs u.tbls (fun m' hm => by
    obtain ⟨o', es', ep', ho', r'⟩ := hm
    rw [ho] at ho'; cases ho'
    exact ⟨_, es', ep', hL, r'⟩) hok hg
theorem Inv.turned {t' : Nat} {it : Addr} (I : Inv X pins σ H s) (k : ∀ b o, b ≠ it → s.heap.get? b = some o → h'.get? b = some o) (hn : H it = none) (hL : it ≠ X.env.locals)
    (h1 : it ∈ X.ex ∨ X.s_0.heap.objs.size ≤ it) (h2 : ∀ x c, X.env.cells.lookup x = some c → c ≠ it) (h3 : ∀ p ∈ X.pn ++ pins, p.1 ≠ it) : Inv X pins σ H { s with heap := h', toks := t' } := by
  have nit : ∀ b u, H b = some u → b ≠ it := fun b u e z => by rw [z, hn] at e; cases e
  refine I.step (g' := s.gens) (d' := s.drawn) (ch := [it]) (fun b hb => ?_) (fun b o _ _ hc e _ => k b o (fun z => hc (by simp [z])) e) (fun b o _ _ hc e _ => ⟨o.slots, k b o (fun z => hc (by simp [z])) e⟩) (fun _ _ _ _ n => n)
    (fun b o hc e => ⟨o, k b o (fun z => hc (by simp [z])) e⟩) (fun _ _ e => e) (fun _ _ _ e => e) (fun b ps e => ⟨#[], by rw [e]; simp⟩) (fun m hm => ?_) (fun b u e => ?_) I.bare
  · have e : b = it := by simpa using hb
    subst e
    exact ⟨h1, hL, h2, h3⟩
  · obtain ⟨o, es, ep, ho, r⟩ := hm
    exact ⟨o, es, ep, k _ o (Ne.symm hL) ho, r⟩
  · refine (I.hok b u e).stay (fun c v hc q => k c v ?_ q) (fun _ q => q) fun _ _ q => q
    rcases hc with z | z
    · rw [z]; exact nit b u e
    · exact nit c _ z
theorem Inv.tok (I : Inv X pins σ H s) (t : Nat) : Inv X pins σ H { s with toks := t } := I.un (h' := s.heap) (t' := t) Un.refl I.hok
theorem Inv.kept {t' : Nat} (I : Inv X pins σ H s) (k : ∀ b u, s.heap.get? b = some u → h'.get? b = some u) : Inv X pins σ H { s with heap := h', toks := t' } := I.un (Un.kept k) (I.hok.kept k)
theorem Inv.laid {a : Addr} {o : HO} {t' : Nat} (I : Inv X pins σ H s) (k : ∀ b u, s.heap.get? b = some u → h'.get? b = some u) (hp : s.heap.objs.size ≤ a) (new : ObjOk X.prog X.w (upd H a o) h' a o) :
    Inv X pins σ (upd H a o) { s with heap := h', toks := t' } := I.un (Un.laid k hp (I.hok.fresh hp)) (I.hok.laid k hp new)
theorem Inv.write {x e : Addr} {o : HO} {t' : Nat} (I : Inv X pins σ H s) (mu : Mut (H x)) (he : e = x ∨ H e = some (.own x)) (k : ∀ b u, b ≠ e → s.heap.get? b = some u → h'.get? b = some u) (heo : ∃ u, h'.get? e = some u)
    (new : ObjOk X.prog X.w (upd H x o) h' x o) : Inv X pins σ (upd H x o) { s with heap := h', toks := t' } := I.un (Un.write mu he k heo) (I.hok.write mu he k heo new)
theorem Inv.weak {σ' : List (Option V)} (I : Inv X pins σ H s) (hl : σ'.length = σ.length) (w : ∀ (i : Nat) v, σ'[i]? = some (some v) → σ[i]? = some (some v)) : Inv X pins σ' H s :=
  ⟨I.ok, I.os, I.bare, I.base, let ⟨m, hn, hl'⟩ := I.loc; ⟨m, hn, fun i x v e1 e2 e3 => hl' i x v e1 (w i v e2) e3⟩, I.cell, I.free, I.freeC, I.pin, I.hok, hl.trans I.len⟩
theorem Inv.pins_of {pins' : List (Addr × Obj)} (I : Inv X pins σ H s) (h : ∀ p ∈ pins', s.heap.get? p.1 = some p.2 ∧ H p.1 = none ∧ p.1 ≠ X.env.locals ∧ p.1 ∉ X.fs ∧ ∀ v, p.2.data ≠ .cell v) : Inv X pins' σ H s :=
  ⟨I.ok, I.os, I.bare, I.base, I.loc, I.cell, I.free, I.freeC, fun p hp => (List.mem_append.mp hp).elim (fun z => I.pin p (List.mem_append_left _ z)) (h p), I.hok, I.len⟩
theorem nodup_ix {N : List Str} (hN : N.Nodup) {i j : Nat} {x : Str} (a : N[i]? = some x) (b : N[j]? = some x) : i = j := by
  obtain ⟨h1, e1⟩ := List.getElem?_eq_some_iff.mp a
  obtain ⟨h2, e2⟩ := List.getElem?_eq_some_iff.mp b
  exact (List.getElem_inj hN).mp (e1.trans e2.symm)
theorem store_ok2 {M : Model} {A : Around} {E : Value → Shared → Prop} {i : Nat} {x : Str} {v : V} {u : Value} {Q : Unit → Shared → Prop} (I : Inv X pins σ H s) (hN : X.N.Nodup) (hi : X.N[i]? = some x) (hx : Loc X.env.scope x) (r : RelV v u)
    (h : ∀ s', Inv X pins (σ.set i (some v)) H s' → (∃ a, Heap.SameBut a s.heap s'.heap ∧ (a = X.env.locals ∨ X.env.cells.lookup x = some a)) → Q () s') (hf : X.fn x = true ∨ X.env.scope.names.lookup x = some .local := by first | exact .inl rfl | exact .inr rfl | assumption) : wpAny M A (storeName X.env x u) Q E s := by
  obtain ⟨m, hn, hl⟩ := id I.loc
  have hcls : (X.env.scope.kind == .class || (X.env.scope.kind == .module && X.env.locals != X.env.globals)) = false := by rw [I.ok.kind]; rfl
  have hiσ : i < σ.length := by rw [I.len]; exact (List.getElem?_eq_some_iff.mp hi).1
  have cne := I.cne
  have tracked : ∀ {a : Addr} {h' : Heap}, (∃ o, s.heap.get? a = some o ∧ H a = none) → Heap.SameBut a s.heap h' → HOk X.prog X.w H h' := fun {a h'} ha hs b ob e => by
    obtain ⟨_, _, hfree⟩ := ha
    refine (I.hok b ob e).stay (fun c w' hc q => (hs.2 c ?_).trans q) (fun _ q => q) fun _ _ q => q
    rintro rfl
    rcases hc with rfl | hc
    · rw [hfree] at e; cases e
    · rw [hfree] at hc; cases hc
  rcases hx with hk | hk
  · refine wpAny_storeName_local hk hn (fun h' hn' hs => ?_) hcls
    obtain ⟨oL, _, _, hoL, _⟩ := id hn
    refine h _ ⟨I.ok, I.os, I.bare, ⟨fun b o e n hb hx => ?_, fun b o e n hb hx => ?_, I.base.free, fun b o e hx => ?_, I.base.tups, I.base.frzs, I.base.tbls⟩, ⟨_, hn', fun j y v' e1 e2 e3 => ?_⟩, fun y c e => ?_, I.free, I.freeC, fun p hp => ?_, tracked ⟨oL, hoL, I.free⟩ hs, by simpa using I.len⟩ ⟨_, hs, .inl rfl⟩
    · exact (hs.2 b (Nat.ne_of_lt (Nat.lt_of_lt_of_le (Heap.lt_size e) I.ok.above))).trans (I.base.keep b o e n hb hx)
    · obtain ⟨sl, e1⟩ := I.base.slot b o e n hb hx
      exact ⟨sl, (hs.2 b (Nat.ne_of_lt (Nat.lt_of_lt_of_le (Heap.lt_size e) I.ok.above))).trans e1⟩
    · obtain ⟨o', e1⟩ := I.base.there b o e hx
      exact ⟨o', (hs.2 b (Nat.ne_of_lt (Nat.lt_of_lt_of_le (Heap.lt_size e) I.ok.above))).trans e1⟩
    · by_cases hj : j = i
      · subst hj
        rw [hi] at e1; cases e1
        rw [List.getElem?_set_self hiσ] at e2
        cases e2
        exact ⟨u, r, .inl ⟨hk, by simp⟩⟩
      · rw [List.getElem?_set_ne (Ne.symm hj)] at e2
        obtain ⟨u', r', q⟩ := hl j y v' e1 e2 e3
        refine ⟨u', r', ?_⟩
        rcases q with ⟨k, e⟩ | ⟨k, c, e, z⟩
        · refine .inl ⟨k, ?_⟩
          have : y ≠ x := fun e => hj (nodup_ix hN e1 (e ▸ hi))
          simp [this, e]
        · exact .inr ⟨k, c, e, z.sameBut hs (cne y c e)⟩
    · obtain ⟨w', z⟩ := I.cell y c e
      exact ⟨w', z.sameBut hs (cne y c e)⟩
    · obtain ⟨e, n, ne, nf, d⟩ := I.pin p hp
      exact ⟨(hs.2 p.1 ne).trans e, n, ne, nf, d⟩
  · have hfn : X.fn x = true := by
      rcases hf with z | z
      · exact z
      · rw [z] at hk; cases hk
    obtain ⟨c, hc⟩ := I.ok.has x (.inl hk)
    obtain ⟨w', z⟩ := I.cell x c hc
    refine wpAny_storeName_cell I.ok.kind hk hc z (fun h' hc' hs => ?_)
    obtain ⟨oc, hoc, hocd⟩ := id z
    refine h { s with heap := h' } ⟨I.ok, I.os, I.bare, ⟨fun b o e n hb hx => ?_, fun b o e n hb hx => ?_, I.base.free, fun b o e hx => ?_, I.base.tups, I.base.frzs, I.base.tbls⟩, ⟨m, hn.sameBut hs (Ne.symm (cne x c hc)), fun j y v' e1 e2 e3 => ?_⟩, fun y c' e => ?_, I.free, I.freeC, fun p hp => ?_, tracked ⟨oc, hoc, I.freeC x c hc⟩ hs, by simpa using I.len⟩ ⟨c, hs, .inr hc⟩
    · exact (hs.2 b (Nat.ne_of_lt (Nat.lt_of_lt_of_le (Heap.lt_size e) (I.ok.cab x c hfn hc)))).trans (I.base.keep b o e n hb hx)
    · obtain ⟨sl, e1⟩ := I.base.slot b o e n hb hx
      exact ⟨sl, (hs.2 b (Nat.ne_of_lt (Nat.lt_of_lt_of_le (Heap.lt_size e) (I.ok.cab x c hfn hc)))).trans e1⟩
    · obtain ⟨o', e1⟩ := I.base.there b o e hx
      exact ⟨o', (hs.2 b (Nat.ne_of_lt (Nat.lt_of_lt_of_le (Heap.lt_size e) (I.ok.cab x c hfn hc)))).trans e1⟩
    · by_cases hj : j = i
      · subst hj
        rw [hi] at e1; cases e1
        rw [List.getElem?_set_self hiσ] at e2
        cases e2
        exact ⟨u, r, .inr ⟨.inl hk, c, hc, hc'⟩⟩
      · rw [List.getElem?_set_ne (Ne.symm hj)] at e2
        obtain ⟨u', r', q⟩ := hl j y v' e1 e2 e3
        refine ⟨u', r', ?_⟩
        rcases q with q | ⟨k, c', e, z'⟩
        · exact .inl q
        · refine .inr ⟨k, c', e, z'.sameBut hs ?_⟩
          rintro rfl
          exact hj (nodup_ix hN e1 (I.ok.inj _ _ _ e hc ▸ hi))
    · by_cases hcc : c' = c
      · subst hcc; exact ⟨_, hc'⟩
      · obtain ⟨w2, z2⟩ := I.cell y c' e
        exact ⟨w2, z2.sameBut hs hcc⟩
    · obtain ⟨e, n, ne, nf, d⟩ := I.pin p hp
      refine ⟨(hs.2 p.1 ?_).trans e, n, ne, nf, d⟩
      intro q
      rw [q, hoc] at e
      have q' : oc = p.2 := Option.some.inj e
      exact d w' (by rw [← q']; exact hocd)
theorem store_ok {M : Model} {A : Around} {E : Value → Shared → Prop} {i : Nat} {x : Str} {v : V} {u : Value} {Q : Unit → Shared → Prop} (I : Inv X pins σ H s) (hN : X.N.Nodup) (hi : X.N[i]? = some x) (hx : Loc X.env.scope x) (r : RelV v u)
    (h : ∀ s', Inv X pins (σ.set i (some v)) H s' → Q () s') (hf : X.fn x = true ∨ X.env.scope.names.lookup x = some .local := by first | exact .inl rfl | exact .inr rfl | assumption) : wpAny M A (storeName X.env x u) Q E s :=
  store_ok2 I hN hi hx r (fun s' I' _ => h s' I') hf
theorem Inv.call' {s' : Shared} {ch : List Addr} (I : Inv X pins σ H s) (ho : s'.os = s.os) (u : Un (frs X.stack) ch H H' s.heap s'.heap) (hok : HOk X.prog X.w H' s'.heap) (hg : AllBare s'.gens)
    (hch : ∀ b ∈ ch, (b ∈ X.ex ∨ X.s_0.heap.objs.size ≤ b) ∧ b ≠ X.env.locals ∧ (∀ x c, X.env.cells.lookup x = some c → c ≠ b) ∧ ∀ p ∈ X.pn ++ pins, p.1 ≠ b) : Inv X pins σ H' s' := by
  obtain ⟨h', g', d', t', o'⟩ := s'
  have e : o' = s.os := ho
  subst e
  exact I.call (g' := g') (t' := t') (d' := d') u hok hg hch
end
abbrev XK := Value → Option Addr → Hp → Prop
abbrev St := List (Option V)
abbrev VK := V → Hp → Prop
abbrev TE := St → Hp → VK → Prop
abbrev TT := St → Hp → (Bool → Hp → Prop) → Prop
abbrev TA := St → Hp → (List V → Hp → Prop) → Prop
structure Ends where
  nx : St → Hp → Prop
  rt : VK
  bk : St → Hp → Prop := fun _ _ => False
  ct : St → Hp → Prop := fun _ _ => False
abbrev TS := Ends → St → Hp → Prop
def EP (X : Cx) (pins : List (Addr × Obj)) (σ : St) (Q : VK) (u : Value) (s' : Shared) : Prop := ∃ v H', Inv X pins σ H' s' ∧ RelV v u ∧ Q v H'
def TP (X : Cx) (pins : List (Addr × Obj)) (σ : St) (Q : Bool → Hp → Prop) (b : Bool) (s' : Shared) : Prop := ∃ H', Inv X pins σ H' s' ∧ Q b H'
def AP (X : Cx) (pins : List (Addr × Obj)) (σ : St) (Q : List V → Hp → Prop) (us : List Value) (s' : Shared) : Prop := ∃ vs H', Inv X pins σ H' s' ∧ Vals vs us ∧ Q vs H'
def SP (X : Cx) (pins : List (Addr × Obj)) (D : Ends) (f : Flow) (s' : Shared) : Prop :=
  match f with
  | .next => ∃ σ' H', Inv X pins σ' H' s' ∧ D.nx σ' H'
  | .brk => ∃ σ' H', Inv X pins σ' H' s' ∧ D.bk σ' H'
  | .cont => ∃ σ' H', Inv X pins σ' H' s' ∧ D.ct σ' H'
  | .ret u => ∃ v σ' H', Inv X pins σ' H' s' ∧ RelV v u ∧ D.rt v H'
def PE (X : Cx) (e : Expr) (t : TE) : Prop :=
  ∀ (pins : List (Addr × Obj)) (s : Shared) (σ : St) (H : Hp) (Q : VK), Inv X pins σ H s → t σ H Q → wpAny (model X.prog X.w) X.A (eval e X.env) (EP X pins σ Q) X.xe s
def PT (X : Cx) (e : Expr) (t : TT) : Prop :=
  ∀ (pins : List (Addr × Obj)) (s : Shared) (σ : St) (H : Hp) (Q : Bool → Hp → Prop), Inv X pins σ H s → t σ H Q → wpAny (model X.prog X.w) X.A (isTrue e X.env (eval e X.env)) (TP X pins σ Q) X.xe s
def PW (X : Cx) (e : Expr) (t : TT) : Prop :=
  ∀ (whole : Sem Value) (pins : List (Addr × Obj)) (s : Shared) (σ : St) (H : Hp) (Q : Bool → Hp → Prop), Inv X pins σ H s → t σ H Q → wpAny (model X.prog X.w) X.A (isTrue e X.env whole) (TP X pins σ Q) X.xe s
theorem PW.pt {X : Cx} {e : Expr} {t : TT} (h : PW X e t) : PT X e t := h _
def PA (X : Cx) (es : List Expr) (t : TA) : Prop :=
  ∀ (pos : Pos) (pins : List (Addr × Obj)) (s : Shared) (σ : St) (H : Hp) (Q : List V → Hp → Prop), Inv X pins σ H s → t σ H Q → wpAny (model X.prog X.w) X.A (spliced (backTo pos (starEach es X.env))) (AP X pins σ Q) X.xe s
def PS (X : Cx) (st : Stmt) (t : TS) : Prop :=
  ∀ (pins : List (Addr × Obj)) (s : Shared) (σ : St) (H : Hp) (D : Ends), Inv X pins σ H s → t D σ H → wpAny (model X.prog X.w) X.A (exec st X.env) (SP X pins D) X.xe s
def PSs (X : Cx) (st : List Stmt) (t : TS) : Prop :=
  ∀ (pins : List (Addr × Obj)) (s : Shared) (σ : St) (H : Hp) (D : Ends), Inv X pins σ H s → t D σ H → wpAny (model X.prog X.w) X.A (execs st X.env) (SP X pins D) X.xe s
theorem thn {α : Type} {t : Sem α} {Q Q' : α → Shared → Prop} {M : Model} {A : Around} {E : Value → Shared → Prop} {s : Shared} (h : wpAny M A t Q E s) (hQ : ∀ a s, Q a s → Q' a s) : wpAny M A t Q' E s := wpAny_mono h hQ fun _ _ x => x
end L2
namespace L2
open PySem PySem.Spec PyProof.Rows
section
variable {X : Cx}
def tVar (i : Nat) : TE := fun σ H Q => ∃ v, σ[i]? = some (some v) ∧ Q v H
def tC (v : V) : TE := fun _ H Q => Q v H
theorem pe_var {i : Nat} {x : Str} {pos : Pos} (hN : X.N[i]? = some x) (hv : Vis X.env.scope x) (hd : (x == ("__debug__" : Str)) = false := by decide) (hcd : (x == ("__classdict__" : Str)) = false := by decide) : PE X (.Name x pos) (tVar i) := by
  intro pins s σ H Q I h
  obtain ⟨v, e, h⟩ := h
  obtain ⟨m, hn, hl⟩ := I.loc
  obtain ⟨u, r, l⟩ := hl i x v hN e hv
  have fin : EP X pins σ Q u s := ⟨v, H, I, r, h⟩
  rcases l with ⟨hk, hm⟩ | ⟨hk, c, hc, hcell⟩
  · exact wpAny_Name (wpAny_loadName_local I.ok.kind hk hn hm fin) hd
  · rcases hk with hk | hk
    · exact wpAny_Name (wpAny_loadName_cell I.ok.kind hk hc hcell fin) hd
    · exact wpAny_Name (wpAny_loadName_free I.ok.kind hk hc hcell fin hcd) hd
theorem pe_int {i j pos} : PE X (.Constant (.int i) j pos) (tC (.int i)) := fun _ _ _ H _ I h => wpAny_Constant_int ⟨.int i, H, I.tok _, ⟨_, rfl⟩, h⟩
theorem pe_bl {b j pos} : PE X (.Constant (.bool b) j pos) (tC (.bl b)) := fun _ _ _ H _ I h => Constant_bool ⟨.bl b, H, I, rfl, h⟩
def Gl (X : Cx) (x : Str) : Prop := X.env.kindOf x = some .globalImplicit
theorem ld_glob {E : Value → Shared → Prop} {pins : List (Addr × Obj)} {s : Shared} {σ : St} {H : Hp} {x : Str} {u : Value} {pos : Pos} {Q : Value → Shared → Prop} (I : Inv X pins σ H s) (hg : Gl X x) (hm : X.mg x = some u) (h : Q u s)
    (hd : (x == ("__debug__" : Str)) = false := by decide) : wpAny (model X.prog X.w) X.A (eval (.Name x pos) X.env) Q E s :=
  Calls.Name_function_global I.ok.kind hg (Calls.loadGlobal_global (by rw [I.ok.glob]; exact I.mod.glob.keeps I.bk) hm h) hd
theorem ld_blt {E : Value → Shared → Prop} {pins : List (Addr × Obj)} {s : Shared} {σ : St} {H : Hp} {x : Str} {u : Value} {pos : Pos} {Q : Value → Shared → Prop} (I : Inv X pins σ H s) (hg : Gl X x) (hm : X.mg x = none) (hv : bootBuiltins x = some u) (h : Q u s)
    (hn : x ≠ "__name__" := by decide) (hd : (x == ("__debug__" : Str)) = false := by decide) : wpAny (model X.prog X.w) X.A (eval (.Name x pos) X.env) Q E s := by
  obtain ⟨mb, h1, h2⟩ := I.mod.blt
  exact Calls.Name_function_global I.ok.kind hg (Calls.loadGlobal_builtin (by rw [I.ok.glob]; exact I.mod.glob.keeps I.bk) hm (by rw [I.ok.blt]; exact h1.keeps I.bk) ((h2 x hn).trans hv) h) hd
theorem pe_glob {x : Str} {v : V} {u : Value} {pos : Pos} (hg : Gl X x) (hm : X.mg x = some u) (r : RelV v u) (hd : (x == ("__debug__" : Str)) = false := by decide) : PE X (.Name x pos) (tC v) :=
  fun _ _ _ H _ I h => ld_glob I hg hm ⟨v, H, I, r, h⟩ hd
variable {a b : Expr} {ta tb : TE} {pos : Pos}
def PC (X : Cx) (op : CmpOp) (a b : Expr) (t : TE) : Prop :=
  ∀ (pins : List (Addr × Obj)) (s : Shared) (σ : St) (H : Hp) (Q : VK), Inv X pins σ H s → t σ H Q →
    wpAny (model X.prog X.w) X.A (eval a X.env) (fun v s₁ => wpAny (model X.prog X.w) X.A (eval b X.env) (fun u s₂ => wpAny (model X.prog X.w) X.A (compareOp op v u) (EP X pins σ Q) X.xe s₂) X.xe s₁) X.xe s
def tB (t : TE) : TT := fun σ H Q => t σ H fun x H1 => ∃ c, x = .bl c ∧ Q c H1
theorem pt_cmp {op : CmpOp} {t : TE} (h : PC X op a b t) (h1 : behindInMarks op b = false := by first | exact nobehind _ (by decide) (by decide) | rfl) : PT X (.Compare a [op] [b] pos) (tB t) := by
  intro pins s σ H Q I hw
  refine wpAny_isTrue_Compare1 (thn (h pins s σ H _ I hw) fun v s1 h1 => thn h1 fun u s2 h2 => thn h2 fun c s3 ⟨x, H1, I1, r1, q1⟩ => ?_) h1
  obtain ⟨d, rfl, q⟩ := q1
  cases r1
  exact wpAny_truthy_bool ⟨H1, I1, q⟩
theorem pt_val {e : Expr} {t : TE} (h : PE X e t) (he : ∀ whole, isTrue e X.env whole = (do let v ← whole; standAt e.pos; holding [v] (truthy v)) := by intro _; rfl) : PT X e (tB t) := by
  intro pins s σ H Q I hw
  refine isTrue_plain (thn (h pins s σ H _ I hw) fun v s1 ⟨x, H1, I1, r1, q1⟩ => ?_) (he _)
  obtain ⟨d, rfl, q⟩ := q1
  cases r1
  exact wpAny_truthy_bool ⟨H1, I1, q⟩
variable {tA tB' : TT} {rest : List Expr}
def tAnd (t u : TT) : TT := fun σ H Q => t σ H fun c H1 => if c = true then u σ H1 Q else Q false H1
def tNot (t : TT) : TT := fun σ H Q => t σ H fun c H1 => Q (!c) H1
theorem pw_and1 (ha : PT X a tA) : PW X (.BoolOp .And [a] pos) tA := by
  intro wh pins s σ H Q I h
  refine isTrue_and (thn (ha pins s σ H Q I h) fun c s1 e => ?_)
  cases c with
  | true => exact isTrue_and_nil e
  | false => exact e
theorem pw_and (ha : PT X a tA) (hb : PW X (.BoolOp .And (b :: rest) pos) tB') : PW X (.BoolOp .And (a :: b :: rest) pos) (tAnd tA tB') := by
  intro wh pins s σ H Q I h
  refine isTrue_and (thn (ha pins s σ H _ I h) fun c s1 ⟨H1, I1, q1⟩ => ?_)
  cases c with
  | true => exact hb wh pins s1 σ H1 Q I1 q1
  | false => exact ⟨H1, I1, q1⟩
theorem pt_not (ha : PT X a tA) : PT X (.UnaryOp .Not a pos) (tNot tA) := by
  intro pins s σ H Q I h
  exact isTrue_not (ha pins s σ H (fun c H1 => Q (!c) H1) I h)
def tAndV (ta tb : TE) : TE := fun σ H Q => ta σ H fun x H1 => ∃ c, x = .bl c ∧ if c = true then tb σ H1 Q else Q (.bl false) H1
theorem pe_one {op} {t : TE} (h : PE X a t) : PE X (.BoolOp op [a] pos) t := fun pins s σ H Q I hw => BoolOp_one (h pins s σ H Q I hw)
theorem pe_and (ha : PE X a ta) (hb : PE X (.BoolOp .And (b :: rest) pos) tb) : PE X (.BoolOp .And (a :: b :: rest) pos) (tAndV ta tb) := by
  intro pins s σ H Q I h
  refine BoolOp_and (thn (ha pins s σ H _ I h) fun v s1 ⟨x, H1, I1, r1, q1⟩ => ?_)
  obtain ⟨c, rfl, q1⟩ := q1
  cases r1
  refine wpAny_truthy_bool ?_
  cases c with
  | true => exact hb pins s1 σ H1 Q I1 q1
  | false => exact ⟨.bl false, H1, I1, rfl, q1⟩
def tIf (t : TT) (ta tb : TE) : TE := fun σ H Q => t σ H fun c H1 => if c = true then ta σ H1 Q else tb σ H1 Q
theorem pe_ifExp {c : Expr} (hc : PT X c tA) (ha : PE X a ta) (hb : PE X b tb) : PE X (.IfExp c a b pos) (tIf tA ta tb) := by
  intro pins s σ H Q I h
  refine wpAny_IfExp (thn (hc pins s σ H _ I h) fun d s1 ⟨H1, I1, q1⟩ => ?_)
  cases d with
  | true => exact ha pins s1 σ H1 Q I1 q1
  | false => exact hb pins s1 σ H1 Q I1 q1
end
end L2
namespace L2
open PySem PySem.Spec PyProof.Rows
def SqL (K : PySem.W.Frag) (H : Hp) (a : Addr) (xs : List V) : Prop :=
  Rd H a (.lst xs) ∨
    ∃ (o : Obj) (its : Array Value) (n : Nat), K.lookup a = some o ∧ o.cls = .type "list" ∧ o.dict = none ∧ o.data = .seq its n ∧ its.size ≤ sizeLine ∧ Vals xs its.toList
def SqT (K : PySem.W.Frag) (H : Hp) (a : Addr) (xs : List V) : Prop :=
  Rd H a (.tup xs) ∨
    ∃ (o : Obj) (its : Array Value) (n : Nat), K.lookup a = some o ∧ o.cls = .type "tuple" ∧ o.data = .seq its n ∧ its.size ≤ sizeLine ∧ Vals xs its.toList
def absV : Value → Option V
  | .none => some .non
  | .bool b => some (.bl b)
  | .int i _ => some (.int i)
  | .str x _ => some (.str x)
  | .bytes b _ => some (.byt b)
  | .float b _ => some (.flt b)
  | .ref a => some (.ref a)
  | .type n => some (.ty n)
  | _ => none
theorem RelV.abs {x : V} {u : Value} (r : RelV x u) : absV u = some x := by
  cases x with
  | non => cases r; rfl
  | bl _ => cases r; rfl
  | int _ => obtain ⟨t, rfl⟩ := r; rfl
  | str _ => obtain ⟨t, rfl⟩ := r; rfl
  | byt _ => obtain ⟨t, rfl⟩ := r; rfl
  | flt _ => obtain ⟨t, rfl⟩ := r; rfl
  | ref _ => cases r; rfl
  | ty _ => cases r; rfl
theorem RelV.inj {x y : V} {u : Value} (r : RelV x u) (q : RelV y u) : x = y := Option.some.inj (r.abs.symm.trans q.abs)
theorem Vals.inj : ∀ {xs ys : List V} {us : List Value}, Vals xs us → Vals ys us → xs = ys
  | _, _, _, .nil, .nil => rfl
  | _, _, _, .cons r t, .cons r' t' => by rw [r.inj r', Vals.inj t t']
section
variable {X : Cx} {pins : List (Addr × Obj)} {σ : St} {H : Hp} {s : Shared} {a : Addr} {xs ys : List V}
theorem SqL.of {K : PySem.W.Frag} (h : H a = some (.lst xs)) : SqL K H a xs := .inl (.inl h)
theorem SqT.of {K : PySem.W.Frag} (h : H a = some (.tup xs)) : SqT K H a xs := .inl (.inl h)
theorem Inv.list (I : Inv X pins σ H s) (h : SqL X.K H a xs) : ∃ its : List Value, Vals xs its ∧ PlainL s.heap a its.toArray ∧ xs.length ≤ sizeLine := by
  rcases h with h | ⟨o, its, n, hk, hc, hd, hs, hz, r⟩
  · obtain ⟨z, its, n, r, e⟩ := h.ok I.hok
    exact ⟨its, r, ⟨_, n, e, rfl, rfl, rfl⟩, z⟩
  · refine ⟨its.toList, r, ⟨o, n, I.kIn a o hk, hc, hd, by simpa using hs⟩, ?_⟩
    have e := r.length
    simp only [Array.length_toList] at e
    omega
theorem Inv.tuple (I : Inv X pins σ H s) (h : SqT X.K H a xs) : ∃ its : List Value, Vals xs its ∧ IsTup s.heap a its.toArray ∧ xs.length ≤ sizeLine := by
  rcases h with h | ⟨o, its, n, hk, hc, hs, hz, r⟩
  · obtain ⟨z, its, r, p⟩ := h.ok I.hok
    exact ⟨its, r, p, z⟩
  · refine ⟨its.toList, r, ⟨o, I.kIn a o hk, hc, n, by simpa using hs⟩, ?_⟩
    have e := r.length
    simp only [Array.length_toList] at e
    omega
theorem Inv.list_inj (I : Inv X pins σ H s) (h : SqL X.K H a xs) (h' : SqL X.K H a ys) : xs = ys := by
  obtain ⟨its, r, ⟨o, n, e, _, _, d⟩, _⟩ := I.list h
  obtain ⟨its', r', ⟨o', n', e', _, _, d'⟩, _⟩ := I.list h'
  rw [e] at e'; cases e'
  rw [d] at d'
  injection d' with d1 _
  have : its = its' := by simpa using congrArg Array.toList d1
  subst this
  exact r.inj r'
end
abbrev Cx.wish (X : Cx) (E : Value → Shared → Prop) : Cx := { X with xe := E }
abbrev Cx.nox (X : Cx) : Cx := X.wish fun _ _ => False
theorem Cx.Ok.wish {X : Cx} (ok : X.Ok) (E : Value → Shared → Prop) : (X.wish E).Ok :=
  ⟨ok.mod, ok.kind, ok.glob, ok.blt, ok.above, ok.inj, ok.has, ok.cab, ok.hd, ok.frames, ok.stk, ok.exf, ok.bs, ok.bsz, ok.noex, ok.exfs, ok.funs, ok.frf⟩
theorem Cx.Ok.unwish {X : Cx} {E : Value → Shared → Prop} (ok : (X.wish E).Ok) : X.Ok :=
  ⟨ok.mod, ok.kind, ok.glob, ok.blt, ok.above, ok.inj, ok.has, ok.cab, ok.hd, ok.frames, ok.stk, ok.exf, ok.bs, ok.bsz, ok.noex, ok.exfs, ok.funs, ok.frf⟩
section
variable {X : Cx} {pins : List (Addr × Obj)} {σ : St} {H : Hp} {s : Shared} {E : Value → Shared → Prop}
theorem Inv.wish (I : Inv X pins σ H s) (E : Value → Shared → Prop) : Inv (X.wish E) pins σ H s := ⟨I.ok.wish E, I.os, I.bare, I.base, I.loc, I.cell, I.free, I.freeC, I.pin, I.hok, I.len⟩
theorem Inv.unwish (I : Inv (X.wish E) pins σ H s) : Inv X pins σ H s := ⟨I.ok.unwish, I.os, I.bare, I.base, I.loc, I.cell, I.free, I.freeC, I.pin, I.hok, I.len⟩
theorem SP.unwish {D : Ends} {f : Flow} {s' : Shared} (h : SP (X.wish E) pins D f s') : SP X pins D f s' := by
  cases f with
  | next => obtain ⟨σ', H', I, q⟩ := h; exact ⟨σ', H', I.unwish, q⟩
  | brk => obtain ⟨σ', H', I, q⟩ := h; exact ⟨σ', H', I.unwish, q⟩
  | cont => obtain ⟨σ', H', I, q⟩ := h; exact ⟨σ', H', I.unwish, q⟩
  | ret u => obtain ⟨v, σ', H', I, r, q⟩ := h; exact ⟨v, σ', H', I.unwish, r, q⟩
theorem PSs.nox {st : List Stmt} {t : TS} (h : PSs X.nox st t) : PSs X st t := fun pins s σ H D I hw =>
  wpAny_mono (h pins s σ H D (I.wish _) hw) (fun _ _ q => q.unwish) fun _ _ z => False.elim z
end
section
variable {X : Cx} {st : Stmt} {rest : List Stmt} {t u : TS} {e : Expr} {te : TE} {pos : Pos}
def tNext : TS := fun D σ H => D.nx σ H
def tSeq (t u : TS) : TS := fun D σ H => t { D with nx := u D } σ H
theorem pss_nil : PSs X [] tNext := fun _ _ σ H _ I h => wpAny_execs_nil ⟨σ, H, I, h⟩
theorem pss_cons (h1 : PS X st t) (h2 : PSs X rest u) : PSs X (st :: rest) (tSeq t u) := by
  intro pins s σ H D I h
  refine wpAny_execs_cons (thn (h1 pins s σ H { D with nx := u D } I h) fun f s1 q => ?_)
  cases f with
  | next =>
    obtain ⟨σ', H', I', q⟩ := q
    exact h2 pins s1 σ' H' D I' q
  | ret v => exact q
  | brk => exact q
  | cont => exact q
theorem pss_one (h1 : PS X st t) : PSs X [st] t := by
  intro pins s σ H D I h
  refine wpAny_execs_cons (thn (h1 pins s σ H D I h) fun f s1 q => ?_)
  cases f with
  | next => exact wpAny_execs_nil q
  | ret v => exact q
  | brk => exact q
  | cont => exact q
theorem Inv.quiet {pins : List (Addr × Obj)} {σ : St} {H : Hp} {s : Shared} (I : Inv X pins σ H s) : interactive X.env = false := by simp [interactive, I.ok.kind]
def tDrop (te : TE) : TS := fun D σ H => te σ H fun _ H1 => D.nx σ H1
theorem ps_expr (he : PE X e te) (hs : swapsWith e none pos.line X.env = pure false := by rfl) : PS X (.Expr e pos) (tDrop te) := by
  intro pins s σ H D I h
  exact wpAny_Expr_any (thn (he pins s σ H _ I h) fun v s1 ⟨x, H1, I1, r1, q1⟩ => ⟨σ, H1, I1, q1⟩) I.quiet hs
def tRet (te : TE) : TS := fun D σ H => te σ H D.rt
theorem ps_ret (he : PE X e te) : PS X (.Return (some e) pos) (tRet te) := by
  intro pins s σ H D I h
  exact wpAny_Return_some (thn (he pins s σ H _ I h) fun v s1 ⟨x, H1, I1, r1, q1⟩ => ⟨x, σ, H1, I1, r1, q1⟩)
def tIfS (c : TT) (t u : TS) : TS := fun D σ H => c σ H fun b H1 => if b = true then t D σ H1 else u D σ H1
theorem ps_if {c : Expr} {a b : List Stmt} {tc : TT} (hc : PT X c tc) (ha : PSs X a t) (hb : PSs X b u) : PS X (.If c a b pos) (tIfS tc t u) := by
  intro pins s σ H D I h
  refine wpAny_If (thn (hc pins s σ H _ I h) fun d s1 ⟨H1, I1, q1⟩ => ?_)
  cases d with
  | true => exact ha pins s1 σ H1 D I1 q1
  | false => exact hb pins s1 σ H1 D I1 q1
end
abbrev TG := V → St → Hp → (St → Hp → Prop) → Prop
abbrev TGs := List V → St → Hp → (St → Hp → Prop) → Prop
def PG (X : Cx) (target : Expr) (t : TG) : Prop :=
  ∀ (pins : List (Addr × Obj)) (s : Shared) (σ : St) (H : Hp) (v : V) (u : Value) (Q : St → Hp → Prop), Inv X pins σ H s → RelV v u → t v σ H Q →
    wpAny (model X.prog X.w) X.A (assign target X.env u) (fun _ s' => ∃ σ' H', Inv X pins σ' H' s' ∧ Q σ' H') X.xe s
def PGs (X : Cx) (ts : List Expr) (t : TGs) : Prop :=
  ∀ (pins : List (Addr × Obj)) (s : Shared) (σ : St) (H : Hp) (vs : List V) (us : List Value) (Q : St → Hp → Prop), Inv X pins σ H s → Vals vs us → t vs σ H Q →
    wpAny (model X.prog X.w) X.A (assignInOrder ((assignEach ts X.env).map (·.2)) us) (fun _ s' => ∃ σ' H', Inv X pins σ' H' s' ∧ Q σ' H') X.xe s
abbrev TIp := V → V → Hp → VK → Prop
def PIp (X : Cx) (op : Operator) (t : TIp) : Prop :=
  ∀ (pins : List (Addr × Obj)) (s : Shared) (σ : St) (H : Hp) (x y : V) (v u : Value) (Q : VK), Inv X pins σ H s → RelV x v → RelV y u → t x y H Q →
    wpAny (model X.prog X.w) X.A (inplaceOp op v u) (EP X pins σ Q) X.xe s
section
variable {X : Cx} {pos : Pos}
def gName (i : Nat) : TG := fun v σ H Q => Q (σ.set i (some v)) H
theorem pg_name {i : Nat} {x : Str} (hN : X.N.Nodup) (hi : X.N[i]? = some x) (hx : Loc X.env.scope x) (hf : X.fn x = true ∨ X.env.scope.names.lookup x = some .local := by first | exact .inl rfl | exact .inr rfl | assumption) : PG X (.Name x pos) (gName i) := by
  intro pins s σ H v u Q I r h
  exact wpAny_assign_Name (store_ok I hN hi hx r (fun s' I' => ⟨_, H, I', h⟩) hf)
def gNil : TGs := fun vs σ H Q => vs = [] ∧ Q σ H
def gCons (t : TG) (u : TGs) : TGs := fun vs σ H Q => ∃ v r, vs = v :: r ∧ t v σ H fun σ' H' => u r σ' H' Q
theorem pgs_nil : PGs X [] gNil := by
  intro pins s σ H vs us Q I r h
  obtain ⟨e, h⟩ := h
  subst e
  cases r
  exact assignInOrder_nil ⟨σ, H, I, h⟩
theorem pgs_cons {e : Expr} {es : List Expr} {t : TG} {u : TGs} (h1 : PG X e t) (h2 : PGs X es u)
    (hs : (assignEach (e :: es) X.env).map (·.2) = assign e X.env :: (assignEach es X.env).map (·.2) := by rfl) : PGs X (e :: es) (gCons t u) := by
  intro pins s σ H vs us Q I r h
  obtain ⟨v, vr, e1, h⟩ := h
  subst e1
  cases r with
  | cons r rr =>
    rw [hs]
    refine assignInOrder_cons (thn (h1 pins s σ H _ _ _ I r h) fun _ s1 ⟨σ1, H1, I1, q1⟩ => ?_)
    exact h2 pins s1 σ1 H1 _ _ Q I1 rr q1
def gTup (K : PySem.W.Frag) (n : Nat) (t : TGs) : TG := fun v σ H Q => ∃ a xs, v = .ref a ∧ SqT K H a xs ∧ xs.length = n ∧ t xs σ H Q
theorem pg_tup {es : List Expr} {k : Nat} {t : TGs} {n : Nat} (hc : X.calm = true) (h : PGs X es t)
    (hn : (assignEach es X.env).length = n := by rfl) (hst : (assignEach es X.env).findIdx? (·.1) = none := by rfl) : PG X (.Tuple es k pos) (gTup X.K n t) := by
  intro pins s σ H v u Q I r hw
  obtain ⟨a, xs, e1, hq, hl, hw⟩ := hw
  subst e1
  cases r
  obtain ⟨its, rv, ht, hz⟩ := I.tuple hq
  refine assign_Tuple_tuple (I.ok.hd hc) ht (by simp [hn, ← hl, rv.length]) hst fun h' hx => ?_
  have I1 : Inv X pins σ H { s with heap := h' } := I.kept (t' := s.toks) fun b o e => hx b o (Nat.ne_of_lt (Heap.lt_size e)) e
  exact h pins _ σ H xs _ Q I1 (by simpa using rv) hw
def tAsg (te : TE) (g : TG) : TS := fun D σ H => te σ H fun x H1 => g x σ H1 D.nx
theorem ps_set {i : Nat} {x : Str} {e : Expr} {te : TE} {pos' : Pos} (hN : X.N.Nodup) (hi : X.N[i]? = some x) (hx : Loc X.env.scope x) (he : PE X e te) (hs : swapsWith e (some (.Name x pos')) pos.line X.env = pure false := by rfl) (hf : X.fn x = true ∨ X.env.scope.names.lookup x = some .local := by first | exact .inl rfl | exact .inr rfl | assumption) :
    PS X (.Assign [.Name x pos'] e pos) (tAsg te (gName i)) := by
  intro pins s σ H D I h
  refine wpAny_Assign_Name (thn (he pins s σ H _ I h) fun v s1 ⟨y, H1, I1, r1, q1⟩ => ?_) hs
  exact store_ok I1 hN hi hx r1 (fun s2 I2 => ⟨_, H1, I2, q1⟩) hf
def tAug (i : Nat) (te : TE) (ti : TIp) : TS := fun D σ H => ∃ x, σ[i]? = some (some x) ∧ te σ H fun y H1 => ti x y H1 fun z H2 => D.nx (σ.set i (some z)) H2
theorem ps_aug {i : Nat} {x : Str} {e : Expr} {te : TE} {op : Operator} {ti : TIp} {pos' : Pos} (hN : X.N.Nodup) (hi : X.N[i]? = some x) (hx : Loc X.env.scope x) (he : PE X e te) (ho : PIp X op ti) (hf : X.fn x = true ∨ X.env.scope.names.lookup x = some .local := by first | exact .inl rfl | exact .inr rfl | assumption) :
    PS X (.AugAssign (.Name x pos') op e pos) (tAug i te ti) := by
  intro pins s σ H D I h
  obtain ⟨v, e1, h⟩ := h
  obtain ⟨m, hn, hl⟩ := I.loc
  have vis : Vis X.env.scope x := by rcases hx with k | k; exact .inl k; exact .inr (.inl k)
  obtain ⟨u, r, l⟩ := hl i x v hi e1 vis
  refine wpAny_AugAssign_Name ?_
  have go : wpAny (model X.prog X.w) X.A (eval e X.env) (fun w s₂ => wpAny (model X.prog X.w) X.A (inplaceOp op u w) (fun r s₃ => wpAny (model X.prog X.w) X.A (storeName X.env x r) (fun _ => SP X pins D .next) X.xe s₃) X.xe s₂) X.xe s := by
    refine thn (he pins s σ H _ I h) fun w s1 ⟨y, H1, I1, r1, q1⟩ => ?_
    refine thn (ho pins s1 σ H1 v y u w _ I1 r r1 q1) fun z s2 ⟨zv, H2, I2, r2, q2⟩ => ?_
    exact store_ok I2 hN hi hx r2 (fun s3 I3 => ⟨_, H2, I3, q2⟩) hf
  rcases l with ⟨hk, hm⟩ | ⟨hk, c, hc, hcell⟩
  · exact wpAny_loadName_local I.ok.kind hk hn hm go
  · rcases hk with hk | hk
    · exact wpAny_loadName_cell I.ok.kind hk hc hcell go
    · rcases hx with k | k
      · have : X.env.scope.names.lookup x = some .free := hk
        rw [k] at this; cases this
      · have : X.env.scope.names.lookup x = some .free := hk
        rw [k] at this; cases this
def ipI (f : Int → Int → Int) : TIp := fun x y H Q => ∃ i j, x = .int i ∧ y = .int j ∧ Q (.int (f i j)) H
theorem ip_sub : PIp X .Sub (ipI fun i j => i - j) := by
  intro pins s σ H x y v u Q I r1 r2 h
  obtain ⟨i, j, e1, e2, q⟩ := h
  subst e1; subst e2
  obtain ⟨t, rfl⟩ := r1
  obtain ⟨t', rfl⟩ := r2
  exact isub_int ⟨.int _, H, I.tok _, ⟨_, rfl⟩, q⟩
end
section
variable {X : Cx} {pos : Pos}
def tWhile (c : TT) (tb : TS) : TS := fun D σ H => ∃ W : Nat → St → Hp → Prop, (∃ m, W m σ H) ∧ ∀ m σ H, W m σ H →
  c σ H fun b H1 => if b = true then ∃ N : St → Hp → Prop, (∀ σ' H', N σ' H' → ∃ m', m' < m ∧ W m' σ' H') ∧ tb { D with nx := N, ct := N, bk := D.nx } σ H1 else D.nx σ H1
theorem ps_while {c : Expr} {body : List Stmt} {tc : TT} {tb : TS} (hp : PassesOwn (model X.prog X.w) X.A X.env X.xe) (hc : PT X c tc) (hb : PSs X body tb) : PS X (.While c body [] pos) (tWhile tc tb) := by
  intro pins s σ H D I h
  obtain ⟨W, ⟨m0, w0⟩, turn⟩ := h
  refine wpAny_While (codeAny_whileLoop (fun n s' => ∃ σ' H', Inv X pins σ' H' s' ∧ W n σ' H') ?_ m0 ⟨σ, H, I, w0⟩)
  rintro n s1 ⟨σ1, H1, I1, w1⟩
  refine wpAny_passesOwn hp (thn (hc pins s1 σ1 H1 _ I1 (turn n σ1 H1 w1)) fun b s2 ⟨H2, I2, q2⟩ => ?_)
  cases b with
  | true =>
    obtain ⟨N, hN, q2⟩ := q2
    rw [if_pos rfl]
    refine wpAny_passesOwn hp (thn (hb pins s2 σ1 H2 _ I2 q2) fun f s3 q3 => ?_)
    cases f with
    | next =>
      obtain ⟨σ3, H3, I3, n3⟩ := q3
      obtain ⟨m', hm, w3⟩ := hN σ3 H3 n3
      exact ⟨m', hm, σ3, H3, I3, w3⟩
    | cont =>
      obtain ⟨σ3, H3, I3, n3⟩ := q3
      obtain ⟨m', hm, w3⟩ := hN σ3 H3 n3
      exact ⟨m', hm, σ3, H3, I3, w3⟩
    | brk => exact q3
    | ret v => exact q3
  | false =>
    rw [if_neg Bool.false_ne_true]
    exact wpAny_execs_nil ⟨σ1, H2, I2, q2⟩
end
structure It where
  go : Nat → Hp → Prop
  yld : Nat → Hp → V → Hp → Prop
  stop : Nat → Hp → Prop
def FpOk (X : Cx) (pins : List (Addr × Obj)) (H : Hp) (b : Addr) : Prop :=
  H b = none ∧ b ≠ X.env.locals ∧ b ∉ X.fs ∧ (b ∈ X.ex ∨ X.s_0.heap.objs.size ≤ b) ∧ (∀ x c, X.env.cells.lookup x = some c → c ≠ b) ∧ ∀ p ∈ X.pn ++ pins, p.1 ≠ b
theorem Inv.fpOk {X : Cx} {pins : List (Addr × Obj)} {σ : St} {H H' : Hp} {s : Shared} {b : Addr} (I : Inv X pins σ H s) (hb : s.heap.objs.size ≤ b) (hn : H' b = none) : FpOk X pins H' b := by
  refine ⟨hn, Nat.ne_of_gt (Nat.lt_of_lt_of_le I.lt hb), I.nofs hb, .inr (Nat.le_trans I.sz hb), fun x c e z => ?_, fun p hp z => ?_⟩
  · obtain ⟨v, q⟩ := I.cell x c e
    exact absurd (Nat.lt_of_lt_of_le q.lt (by rw [z]; exact hb)) (Nat.lt_irrefl _)
  · exact absurd (Nat.lt_of_lt_of_le (Heap.lt_size (I.pin p hp).1) (by rw [z]; exact hb)) (Nat.lt_irrefl _)
structure Turn (P : Program) (w : World) (K : PySem.W.Frag) (tg : Expr) (J : It) (fp : List Addr) (it : Addr) (tn : Nat → Heap → Prop) : Prop where
  mem : it ∈ fp
  obj : ∀ i h, tn i h → ∀ b ∈ fp, ∃ o, h.get? b = some o ∧ ∀ v, o.data ≠ .cell v
  keep : ∀ i h h', tn i h → (∀ b ∈ fp, ∀ o, h.get? b = some o → h'.get? b = some o) → tn i h'
  item : ∀ (X : Cx), X.prog = P → X.w = w → X.K = K → X.calm = true → ∀ (i : Nat) (pins : List (Addr × Obj)) (s : Shared) (σ : St) (H : Hp) (E : Value → Shared → Prop), Inv X pins σ H s → (∀ b ∈ fp, FpOk X pins H b) → tn i s.heap → J.go i H →
    wpAny (model P w) X.A (pyNext (.ref it)) (fun r s1 => ∃ u, r = some u ∧
      wpAny (model P w) X.A (letOwnedTupleGo tg (.ref it) u) (fun _ s2 => ∃ x H', Inv X pins σ H' s2 ∧ RelV x u ∧ J.yld i H x H' ∧ tn (i + 1) s2.heap ∧ ∀ b ∈ fp, H' b = none) E s1) E s
  done : ∀ (X : Cx), X.prog = P → X.w = w → X.K = K → X.calm = true → ∀ (i : Nat) (pins : List (Addr × Obj)) (s : Shared) (σ : St) (H : Hp) (E : Value → Shared → Prop), Inv X pins σ H s → (∀ b ∈ fp, FpOk X pins H b) → tn i s.heap → J.stop i H →
    wpAny (model P w) X.A (pyNext (.ref it)) (fun r s1 => r = none ∧ Inv X pins σ H s1) E s
  self : ∀ (A : Around) (i : Nat) (s : Shared) (Q : Value → Shared → Prop) (E : Value → Shared → Prop), tn i s.heap → Q (.ref it) s → wpAny (model P w) A (pyIter (.ref it)) Q E s
abbrev TI := St → Hp → (It → Hp → Prop) → Prop
def PIE (X : Cx) (pins : List (Addr × Obj)) (σ : St) (tg : Expr) (R : It → Hp → Prop) (itv : Value) (s2 : Shared) : Prop :=
  ∃ (it : Addr) (fp : List Addr) (tn : Nat → Heap → Prop) (J : It) (H' : Hp), itv = .ref it ∧ Inv X pins σ H' s2 ∧ Turn X.prog X.w X.K tg J fp it tn ∧ tn 0 s2.heap ∧ (∀ b ∈ fp, FpOk X pins H' b) ∧ R J H'
def PI (X : Cx) (tg iter : Expr) (wi : TI) : Prop :=
  ∀ (pins : List (Addr × Obj)) (s : Shared) (σ : St) (H : Hp) (R : It → Hp → Prop), Inv X pins σ H s → wi σ H R →
    wpAny (model X.prog X.w) X.A (eval iter X.env) (fun v s1 => wpAny (model X.prog X.w) X.A (pyIter v) (PIE X pins σ tg R) X.xe s1) X.xe s
theorem go_of {M : Model} {A : Around} {E : Value → Shared → Prop} {s : Shared} {tg : Expr} {it : Addr} {u : Value} {o : Obj} {n : String} {vs : Array Value} {Q : Unit → Shared → Prop} (ho : s.heap.get? it = some o) (hc : o.cls = .type n) (hd : o.data = .fields vs)
    (hn : ["enumerate", "zip", "dict_itemiterator", "dict_reverseitemiterator", "odict_iterator", "itertools.zip_longest", "itertools.pairwise"].contains n = false) (hQ : Q () s) : wpAny M A (letOwnedTupleGo tg (.ref it) u) Q E s := by
  unfold letOwnedTupleGo
  cases tg <;> first
    | exact wpAny_pure hQ
    | (cases u <;> first
        | exact wpAny_pure hQ
        | (refine wpAny_bind (wpAny_load ho ?_)
           rw [hc, hd]
           show wpAny M A (if (["enumerate", "zip", "dict_itemiterator", "dict_reverseitemiterator", "odict_iterator", "itertools.zip_longest", "itertools.pairwise"].contains n && vs[0]? == some (rawInt _)) = true then _ else _) Q E s
           rw [if_neg (by intro h; rw [hn, Bool.false_and] at h; cases h)]
           exact wpAny_pure hQ))
def Itl (K : PySem.W.Frag) (a : Addr) : It :=
  ⟨fun i H => ∃ xs x, SqL K H a xs ∧ xs[i]? = some x, fun i H x H' => H' = H ∧ ∀ xs, SqL K H a xs → xs[i]? = some x, fun i H => ∃ xs, SqL K H a xs ∧ xs.length ≤ i⟩
theorem turn_list {P : Program} {w : World} {K : PySem.W.Frag} {tg : Expr} (a it : Addr) : Turn P w K tg (Itl K a) [it] it (fun i h => h.IsListIter it a i) where
  mem := by simp
  obj := fun i h st b hb => by
    have e : b = it := by simpa using hb
    subst e
    obtain ⟨o, e, c, d⟩ := st
    exact ⟨o, e, fun v z => by rw [d] at z; cases z⟩
  keep := fun i h h' st k => st.at fun o e => k it (by simp) o e
  item := by
    intro X hP hw hK hc i pins s σ H E I hf st hg
    subst hP hw hK
    obtain ⟨xs, x, hq, hx⟩ := hg
    obtain ⟨its, rv, p, hz⟩ := I.list hq
    obtain ⟨u, hu, ru⟩ := rv.get hx
    obtain ⟨f0, f1, f2, f3, f4, f5⟩ := hf it (by simp)
    refine wpAny_pyNext_list_item st p.isList (x := u) (by simpa using hu) fun h' st' sb => ?_
    have I1 : Inv X pins σ H { s with heap := h' } := I.turned (t' := s.toks) (fun b o hb e => (sb.2 b hb).trans e) f0 f1 f3 f4 f5
    obtain ⟨o, e, c, d⟩ := id st'
    exact ⟨u, rfl, go_of (s := { s with heap := h' }) e c d (by decide) ⟨x, H, I1, ru, ⟨rfl, fun ys hy => by rw [I.list_inj hy hq]; exact hx⟩, st', fun b hb => (hf b hb).1⟩⟩
  done := by
    intro X hP hw hK hc i pins s σ H E I hf st hg
    subst hP hw hK
    obtain ⟨xs, hq, hx⟩ := hg
    obtain ⟨its, rv, p, hz⟩ := I.list hq
    obtain ⟨f0, f1, f2, f3, f4, f5⟩ := hf it (by simp)
    have hl := rv.length
    exact wpAny_pyNext_list_end (I.ok.hd hc) st p.isList (by simp; omega) fun h' eb => ⟨rfl, I.turned (t' := s.toks) (fun b o hb e => eb b o hb e) f0 f1 f3 f4 f5⟩
  self := fun _ _ _ _ _ st h => wpAny_pyIter_listiter st h
end L2
namespace L2
open PySem PySem.Spec PyProof.Rows
section
variable {X : Cx} {tg : Expr}
def iList (K : PySem.W.Frag) (tl : TE) : TI := fun σ H R => tl σ H fun x H1 => ∃ a, x = .ref a ∧ (∃ xs, SqL K H1 a xs) ∧ R (Itl K a) H1
theorem pi_list {l : Expr} {tl : TE} (hl : PE X l tl) : PI X tg l (iList X.K tl) := by
  intro pins s σ H R I h
  refine thn (hl pins s σ H _ I h) fun v s1 ⟨x, H1, I1, r1, q1⟩ => ?_
  obtain ⟨a, e, ⟨xs, hq⟩, q⟩ := q1
  subst e
  cases r1
  obtain ⟨its, rv, p, hz⟩ := I1.list hq
  refine wpAny_pyIter_list p.isList ?_
  refine ⟨s1.heap.objs.size, [s1.heap.objs.size], _, _, H1, rfl, I1.kept (t' := s1.toks) fun b o e => Heap.get?_push_of_some _ e, turn_list a _, ⟨_, Heap.get?_push_size _ rfl, rfl, rfl⟩, fun b hb => ?_, q⟩
  have e : b = s1.heap.objs.size := by simpa using hb
  subst e
  exact I1.fpOk (Nat.le_refl _) (I1.hok.fresh (Nat.le_refl _))
def tFor (wi : TI) (g : TG) (tb : TS) : TS := fun D σ H => wi σ H fun J H1 => ∃ W : Nat → Nat → St → Hp → Prop, (∃ m, W 0 m σ H1) ∧ ∀ i m σ H, W i m σ H →
  (J.stop i H ∧ D.nx σ H) ∨ (J.go i H ∧ ∃ N : St → Hp → Prop, (∀ σ' H', N σ' H' → ∃ m', m' < m ∧ W (i + 1) m' σ' H') ∧ ∀ x H', J.yld i H x H' → g x σ H' fun σ2 H2 => tb { D with nx := N, ct := N, bk := D.nx } σ2 H2)
def pinsAt (fp : List Addr) (h : Heap) : List (Addr × Obj) := fp.filterMap fun b => (h.get? b).map fun o => (b, o)
theorem mem_pinsAt {fp : List Addr} {h : Heap} {b : Addr} {o : Obj} (hb : b ∈ fp) (e : h.get? b = some o) : (b, o) ∈ pinsAt fp h := List.mem_filterMap.mpr ⟨b, hb, by rw [e]; rfl⟩
theorem of_pinsAt {fp : List Addr} {h : Heap} {p : Addr × Obj} (hp : p ∈ pinsAt fp h) : p.1 ∈ fp ∧ h.get? p.1 = some p.2 := by
  obtain ⟨b, hb, e⟩ := List.mem_filterMap.mp hp
  cases q : h.get? b with
  | none => rw [q] at e; cases e
  | some o =>
    rw [q] at e
    have e' : (b, o) = p := Option.some.inj e
    subst e'
    exact ⟨hb, q⟩
theorem Inv.pinned {pins : List (Addr × Obj)} {σ : St} {H : Hp} {s : Shared} {fp : List Addr} (I : Inv X pins σ H s) (hf : ∀ b ∈ fp, FpOk X pins H b) (ho : ∀ b ∈ fp, ∃ o, s.heap.get? b = some o ∧ ∀ v, o.data ≠ .cell v) : Inv X (pins ++ pinsAt fp s.heap) σ H s :=
  I.pins_of fun p hp => (List.mem_append.mp hp).elim (fun z => I.pin p (List.mem_append_right _ z)) fun z => by
    obtain ⟨hb, e⟩ := of_pinsAt z
    obtain ⟨f0, f1, f2, _⟩ := hf p.1 hb
    obtain ⟨o, e', d⟩ := ho p.1 hb
    rw [e] at e'; cases e'
    exact ⟨e, f0, f1, f2, d⟩
theorem Inv.unpinned {pins pl : List (Addr × Obj)} {σ : St} {H : Hp} {s : Shared} (I : Inv X (pins ++ pl) σ H s) : Inv X pins σ H s := I.pins_of fun p hp => I.pin p (List.mem_append_right _ (List.mem_append_left _ hp))
theorem ps_for {iter : Expr} {body : List Stmt} {wi : TI} {g : TG} {tb : TS} {pos : Pos} (hp : PassesOwn (model X.prog X.w) X.A X.env X.xe) (hc : X.calm = true) (hi : PI X tg iter wi) (hg : PG X tg g) (hb : PSs X body tb)
    (hs : ∀ x, foldedSetIterable iter X.env x = pure x := by intro _; rfl) : PS X (.For tg iter body [] pos) (tFor wi g tb) := by
  intro pins s σ H D I h
  refine wpAny_For (thn (hi pins s σ H _ I h) fun v s1 h1 => thn h1 fun itv s2 h2 => ?_) hs
  obtain ⟨it, fp, tn, J, H2, e, I2, T, st2, f2, W, ⟨m0, w0⟩, turn⟩ := h2
  subst e
  -- what stays true of the iterator's objects through the loop
  have stat : ∀ {H' : Hp}, (∀ b ∈ fp, H' b = none) → ∀ b ∈ fp, FpOk X pins H' b := fun hn b hb => ⟨hn b hb, (f2 b hb).2⟩
  refine codeAny_forLoop_any (fun n s' => ∃ i σ' H', Inv X pins σ' H' s' ∧ tn i s'.heap ∧ (∀ b ∈ fp, H' b = none) ∧ W i n σ' H') ?_ m0 ⟨0, σ, H2, I2, st2, fun b hb => (f2 b hb).1, w0⟩
  rintro n s3 ⟨i, σ3, H3, I3, st3, fr3, w3⟩
  rcases turn i n σ3 H3 w3 with ⟨stop, qn⟩ | ⟨go, N, hN, step⟩
  · refine wpAny_passesOwn hp (thn (T.done X rfl rfl rfl hc i pins s3 σ3 H3 X.xe I3 (stat fr3) st3 stop) fun r s4 ⟨hr, I4⟩ => ?_)
    subst hr
    exact wpAny_execs_nil ⟨σ3, H3, I4, qn⟩
  · refine wpAny_passesOwn hp (thn (T.item X rfl rfl rfl hc i pins s3 σ3 H3 X.xe I3 (stat fr3) st3 go) fun r s4 ⟨u, hr, h4⟩ => ?_)
    subst hr
    refine wpAny_passesOwn hp (thn h4 fun _ s5 ⟨x, H5, I5, r5, y5, st5, fr5⟩ => ?_)
    have I5' := I5.pinned (stat fr5) (T.obj _ _ st5)
    refine wpAny_passesOwn hp (thn (hg _ s5 σ3 H5 x u _ I5' r5 (step x H5 y5)) fun _ s6 ⟨σ6, H6, I6, q6⟩ => ?_)
    refine wpAny_passesOwn hp (thn (hb _ s6 σ6 H6 _ I6 q6) fun f s7 q7 => ?_)
    have again : ∀ {σ7 : St} {H7 : Hp}, Inv X (pins ++ pinsAt fp s5.heap) σ7 H7 s7 → N σ7 H7 → ∃ m, m < n ∧ ∃ i σ' H', Inv X pins σ' H' s7 ∧ tn i s7.heap ∧ (∀ b ∈ fp, H' b = none) ∧ W i m σ' H' := fun {σ7 H7} I7 n7 => by
      obtain ⟨m', hm, w7⟩ := hN σ7 H7 n7
      refine ⟨m', hm, i + 1, σ7, H7, I7.unpinned, T.keep _ _ _ st5 fun b hb o e => (I7.pin (b, o) (List.mem_append_right _ (List.mem_append_right _ (mem_pinsAt hb e)))).1, fun b hb => ?_, w7⟩
      obtain ⟨o, e, d⟩ := T.obj _ _ st5 b hb
      exact (I7.pin (b, o) (List.mem_append_right _ (List.mem_append_right _ (mem_pinsAt hb e)))).2.1
    cases f with
    | next => obtain ⟨σ7, H7, I7, n7⟩ := q7; exact again I7 n7
    | cont => obtain ⟨σ7, H7, I7, n7⟩ := q7; exact again I7 n7
    | brk => obtain ⟨σ7, H7, I7, q7⟩ := q7; exact ⟨σ7, H7, I7.unpinned, q7⟩
    | ret v => obtain ⟨x7, σ7, H7, I7, r7, q7⟩ := q7; exact ⟨x7, σ7, H7, I7.unpinned, r7, q7⟩
end
theorem for_list {K : PySem.W.Frag} {a : Addr} {xs : List V} {g : TG} {tb : TS} {D : Ends} {σ : St} {H : Hp} (Pv : Nat → St → Hp → Prop) (h0 : Pv 0 σ H) (hl : ∀ i σ H, i ≤ xs.length → Pv i σ H → SqL K H a xs)
    (hs : ∀ i x σ H, xs[i]? = some x → Pv i σ H → g x σ H fun σ2 H2 => tb { D with nx := Pv (i + 1), ct := Pv (i + 1), bk := D.nx } σ2 H2) (hd : ∀ σ H, Pv xs.length σ H → D.nx σ H) :
    ∃ W : Nat → Nat → St → Hp → Prop, (∃ m, W 0 m σ H) ∧ ∀ i m σ H, W i m σ H →
      ((Itl K a).stop i H ∧ D.nx σ H) ∨ ((Itl K a).go i H ∧ ∃ N : St → Hp → Prop, (∀ σ' H', N σ' H' → ∃ m', m' < m ∧ W (i + 1) m' σ' H') ∧ ∀ x H', (Itl K a).yld i H x H' → g x σ H' fun σ2 H2 => tb { D with nx := N, ct := N, bk := D.nx } σ2 H2) := by
  refine ⟨fun i m σ H => m = xs.length - i ∧ i ≤ xs.length ∧ Pv i σ H, ⟨xs.length, by simp, Nat.zero_le _, h0⟩, ?_⟩
  rintro i m σ H ⟨rfl, hi, p⟩
  have q := hl i σ H hi p
  by_cases hlt : i < xs.length
  · refine .inr ⟨⟨xs, xs[i], q, by simp [hlt]⟩, Pv (i + 1), fun σ' H' p' => ⟨xs.length - (i + 1), by omega, rfl, hlt, p'⟩, fun x H' y => ?_⟩
    obtain ⟨e, y⟩ := y
    subst e
    exact hs i x σ _ (y xs q) p
  · have e : i = xs.length := by omega
    subst e
    exact .inl ⟨⟨xs, q, Nat.le_refl _⟩, hd σ H p⟩
end L2
namespace L2
open PySem PySem.Spec PyProof.Rows
abbrev R2 := V → V → Hp → VK → Prop
def OpR (X : Cx) (f : Value → Value → Sem Value) (r : R2) : Prop :=
  ∀ (pins : List (Addr × Obj)) (s : Shared) (σ : St) (H : Hp) (x y : V) (v u : Value) (Q : VK), Inv X pins σ H s → RelV x v → RelV y u → r x y H Q →
    wpAny (model X.prog X.w) X.A (f v u) (EP X pins σ Q) X.xe s
def UnR (X : Cx) (f : Value → Sem Value) (r : V → Hp → VK → Prop) : Prop :=
  ∀ (pins : List (Addr × Obj)) (s : Shared) (σ : St) (H : Hp) (x : V) (v : Value) (Q : VK), Inv X pins σ H s → RelV x v → r x H Q →
    wpAny (model X.prog X.w) X.A (f v) (EP X pins σ Q) X.xe s
def CallR (X : Cx) (f : Value) (r : List V → Hp → VK → Prop) : Prop :=
  ∀ (pins : List (Addr × Obj)) (s : Shared) (σ : St) (H : Hp) (xs : List V) (us : List Value) (Q : VK), Inv X pins σ H s → Vals xs us → r xs H Q →
    wpAny (model X.prog X.w) X.A (call f us) (EP X pins σ Q) X.xe s
def TruR (X : Cx) (r : V → Hp → (Bool → Hp → Prop) → Prop) : Prop :=
  ∀ (pins : List (Addr × Obj)) (s : Shared) (σ : St) (H : Hp) (x : V) (v : Value) (Q : Bool → Hp → Prop), Inv X pins σ H s → RelV x v → r x H Q →
    wpAny (model X.prog X.w) X.A (truthy v) (TP X pins σ Q) X.xe s
def tOp (r : R2) (ta tb : TE) : TE := fun σ H Q => ta σ H fun x H1 => tb σ H1 fun y H2 => r x y H2 Q
def tUn (r : V → Hp → VK → Prop) (ta : TE) : TE := fun σ H Q => ta σ H fun x H1 => r x H1 Q
def rI0 (g : Int → Int → V) : R2 := fun x y H Q => ∃ i j, x = .int i ∧ y = .int j ∧ Q (g i j) H
def rU (g : Int → V) : V → Hp → VK → Prop := fun x H Q => ∃ i, x = .int i ∧ Q (g i) H
section
variable {X : Cx} {a b c : Expr} {ta tb tc : TE} {pos : Pos}
theorem binT (ha : PE X a ta) (hb : PE X b tb) {pins : List (Addr × Obj)} {s : Shared} {σ : St} {H : Hp} {R : V → V → Hp → Prop} (I : Inv X pins σ H s)
    (h : ta σ H fun x H1 => tb σ H1 fun y H2 => R x y H2) {Q : Value → Shared → Prop} {f : Value → Value → Sem Value}
    (hf : ∀ v u s2 x y H2, Inv X pins σ H2 s2 → RelV x v → RelV y u → R x y H2 → wpAny (model X.prog X.w) X.A (f v u) Q X.xe s2) :
    wpAny (model X.prog X.w) X.A (eval a X.env) (fun v s₁ => wpAny (model X.prog X.w) X.A (eval b X.env) (fun u s₂ => wpAny (model X.prog X.w) X.A (f v u) Q X.xe s₂) X.xe s₁) X.xe s := by
  refine thn (ha pins s σ H _ I h) fun v s1 ⟨x, H1, I1, r1, q1⟩ => ?_
  refine thn (hb pins s1 σ H1 _ I1 q1) fun u s2 ⟨y, H2, I2, r2, q2⟩ => ?_
  exact hf v u s2 x y H2 I2 r1 r2 q2
theorem pe_op {op : Operator} {r : R2} (ho : OpR X (binaryOp op) r) (ha : PE X a ta) (hb : PE X b tb) : PE X (.BinOp a op b pos) (tOp r ta tb) := by
  intro pins s σ H Q I h
  exact wpAny_BinOp (binT ha hb I h fun v u s2 x y H2 I2 rx ry q => ho pins s2 σ H2 x y v u Q I2 rx ry q)
theorem pe_un {op : UnaryOp} {r : V → Hp → VK → Prop} (ho : UnR X (unaryOp op) r) (ha : PE X a ta) : PE X (.UnaryOp op a pos) (tUn r ta) := by
  intro pins s σ H Q I h
  exact UnaryOp_ (thn (ha pins s σ H _ I h) fun v s1 ⟨x, H1, I1, r1, q1⟩ => ho pins s1 σ H1 x v Q I1 r1 q1)
theorem opI0 {f : Value → Value → Sem Value} {g : Int → Int → Int}
    (rule : ∀ (i j : Int) (t u : Tok) (s : Shared) (Q : Value → Shared → Prop) (E : Value → Shared → Prop), Q (.int (g i j) s.toks) { s with toks := s.toks + 1 } → wpAny (model X.prog X.w) X.A (f (.int i t) (.int j u)) Q E s) :
    OpR X f (rI0 fun i j => .int (g i j)) := by
  intro pins s σ H x y v u Q I rx ry h
  obtain ⟨i, j, rfl, rfl, q⟩ := h
  obtain ⟨t, rfl⟩ := rx
  obtain ⟨t', rfl⟩ := ry
  exact rule i j t t' s _ _ ⟨.int (g i j), H, I.tok _, ⟨_, rfl⟩, q⟩
theorem opB0 {f : Value → Value → Sem Value} {g : Int → Int → Bool}
    (rule : ∀ (i j : Int) (t u : Tok) (s : Shared) (Q : Value → Shared → Prop) (E : Value → Shared → Prop), Q (.bool (g i j)) s → wpAny (model X.prog X.w) X.A (f (.int i t) (.int j u)) Q E s) :
    OpR X f (rI0 fun i j => .bl (g i j)) := by
  intro pins s σ H x y v u Q I rx ry h
  obtain ⟨i, j, rfl, rfl, q⟩ := h
  obtain ⟨t, rfl⟩ := rx
  obtain ⟨t', rfl⟩ := ry
  exact rule i j t t' s _ _ ⟨.bl (g i j), H, I, rfl, q⟩
theorem op_add : OpR X (binaryOp .Add) (rI0 fun i j => .int (i + j)) := opI0 fun _ _ _ _ _ _ _ q => add_int q
theorem op_sub : OpR X (binaryOp .Sub) (rI0 fun i j => .int (i - j)) := opI0 fun _ _ _ _ _ _ _ q => sub_int q
theorem unI {f : Value → Sem Value} {g : Int → Int}
    (rule : ∀ (i : Int) (t : Tok) (s : Shared) (Q : Value → Shared → Prop) (E : Value → Shared → Prop), Q (.int (g i) s.toks) { s with toks := s.toks + 1 } → wpAny (model X.prog X.w) X.A (f (.int i t)) Q E s) :
    UnR X f (rU fun i => .int (g i)) := by
  intro pins s σ H x v Q I rx h
  obtain ⟨i, rfl, q⟩ := h
  obtain ⟨t, rfl⟩ := rx
  exact rule i t s _ _ ⟨.int (g i), H, I.tok _, ⟨_, rfl⟩, q⟩
theorem un_neg : UnR X (unaryOp .USub) (rU fun i => .int (-i)) := unI fun _ _ _ _ _ q => neg_int q
end
def scal : V → V → Bool
  | .non, .non => true | .non, .int _ => true | .int _, .non => true | .non, .bl _ => true | .bl _, .non => true | .non, .str _ => true | .str _, .non => true
  | .int _, .int _ => true | .bl _, .bl _ => true | .str _, .str _ => true | .byt _, .byt _ => true
  | .int _, .str _ => true | .str _, .int _ => true | .bl _, .str _ => true | .str _, .bl _ => true
  | _, _ => false
def rEq : R2 := fun x y H Q => scal x y = true ∧ Q (.bl (decide (x = y))) H
def rNe : R2 := fun x y H Q => scal x y = true ∧ Q (.bl (!decide (x = y))) H
theorem dec_int {i j : Int} : decide (V.int i = V.int j) = (i == j) := by
  rw [Bool.eq_iff_iff]
  simp
theorem dec_bl {i j : Bool} : decide (V.bl i = V.bl j) = (i == j) := by
  rw [Bool.eq_iff_iff]
  simp
theorem dec_str {i j : Str} : decide (V.str i = V.str j) = (i == j) := by
  rw [Bool.eq_iff_iff]
  simp
theorem dec_byt {i j : Array UInt8} : decide (V.byt i = V.byt j) = (i.toList == j.toList) := by
  rw [Bool.eq_iff_iff]
  cases i
  cases j
  simp
section
variable {X : Cx} {a b c : Expr} {ta tb tc : TE} {pos : Pos}
theorem fin_bl {pins : List (Addr × Obj)} {σ : St} {H : Hp} {s : Shared} {Q : VK} {k k' : Bool} (I : Inv X pins σ H s) (q : Q (.bl k) H) (e : k = k') : EP X pins σ Q (.bool k') s := by
  subst e
  exact ⟨.bl k, H, I, rfl, q⟩
theorem op_eq : OpR X (compareOp .Eq) rEq := by
  intro pins s σ H x y v u Q I rx ry h
  obtain ⟨hs, q⟩ := h
  cases x with
  | non =>
    cases rx
    cases y with
    | non => cases ry; exact PySem.EqNone.eq_none_none (fin_bl I q (by simp))
    | bl j => cases ry; exact PySem.EqNone.eq_none_bool (fin_bl I q (by simp))
    | int j => obtain ⟨t', rfl⟩ := ry; exact PySem.EqNone.eq_none_int (fin_bl I q (by simp))
    | str j => obtain ⟨t', rfl⟩ := ry; exact PySem.EqNone.eq_none_str (fin_bl I q (by simp))
    | _ => exact absurd (show false = true from hs) Bool.false_ne_true
  | bl i =>
    cases rx
    cases y with
    | non => cases ry; exact PySem.EqNone.eq_bool_none (fin_bl I q (by simp))
    | bl j => cases ry; exact eq_bool (fin_bl I q dec_bl)
    | str j => obtain ⟨t', rfl⟩ := ry; exact PySem.EqMixed.eq_bool_str (fin_bl I q (by simp))
    | _ => exact absurd (show false = true from hs) Bool.false_ne_true
  | int i =>
    obtain ⟨t, rfl⟩ := rx
    cases y with
    | non => cases ry; exact PySem.EqNone.eq_int_none (fin_bl I q (by simp))
    | int j => obtain ⟨t', rfl⟩ := ry; exact eq_int (fin_bl I q dec_int)
    | str j => obtain ⟨t', rfl⟩ := ry; exact PySem.EqMixed.eq_int_str (fin_bl I q (by simp))
    | _ => exact absurd (show false = true from hs) Bool.false_ne_true
  | str i =>
    obtain ⟨t, rfl⟩ := rx
    cases y with
    | non => cases ry; exact PySem.EqNone.eq_str_none (fin_bl I q (by simp))
    | bl j => cases ry; exact PySem.EqMixed.eq_str_bool (fin_bl I q (by simp))
    | int j => obtain ⟨t', rfl⟩ := ry; exact PySem.EqMixed.eq_str_int (fin_bl I q (by simp))
    | str j => obtain ⟨t', rfl⟩ := ry; exact eq_str (fin_bl I q dec_str)
    | _ => exact absurd (show false = true from hs) Bool.false_ne_true
  | byt i =>
    obtain ⟨t, rfl⟩ := rx
    cases y with
    | byt j => obtain ⟨t', rfl⟩ := ry; exact PySem.W.eq_bytes (fin_bl I q dec_byt)
    | _ => exact absurd (show false = true from hs) Bool.false_ne_true
  | _ => cases y <;> exact absurd (show false = true from hs) Bool.false_ne_true
theorem op_ne : OpR X (compareOp .NotEq) rNe := by
  intro pins s σ H x y v u Q I rx ry h
  obtain ⟨hs, q⟩ := h
  cases x with
  | non =>
    cases rx
    cases y with
    | non => cases ry; exact PySem.EqNone.ne_none_none (fin_bl I q (by simp))
    | bl j => cases ry; exact PySem.EqNone.ne_none_bool (fin_bl I q (by simp))
    | int j => obtain ⟨t', rfl⟩ := ry; exact PySem.EqNone.ne_none_int (fin_bl I q (by simp))
    | str j => obtain ⟨t', rfl⟩ := ry; exact PySem.EqNone.ne_none_str (fin_bl I q (by simp))
    | _ => exact absurd (show false = true from hs) Bool.false_ne_true
  | bl i =>
    cases rx
    cases y with
    | non => cases ry; exact PySem.EqNone.ne_bool_none (fin_bl I q (by simp))
    | bl j => cases ry; exact ne_bool (fin_bl I q (congrArg not dec_bl))
    | str j => obtain ⟨t', rfl⟩ := ry; exact PySem.EqMixed.ne_bool_str (fin_bl I q (by simp))
    | _ => exact absurd (show false = true from hs) Bool.false_ne_true
  | int i =>
    obtain ⟨t, rfl⟩ := rx
    cases y with
    | non => cases ry; exact PySem.EqNone.ne_int_none (fin_bl I q (by simp))
    | int j => obtain ⟨t', rfl⟩ := ry; exact ne_int (fin_bl I q (congrArg not dec_int))
    | str j => obtain ⟨t', rfl⟩ := ry; exact PySem.EqMixed.ne_int_str (fin_bl I q (by simp))
    | _ => exact absurd (show false = true from hs) Bool.false_ne_true
  | str i =>
    obtain ⟨t, rfl⟩ := rx
    cases y with
    | non => cases ry; exact PySem.EqNone.ne_str_none (fin_bl I q (by simp))
    | bl j => cases ry; exact PySem.EqMixed.ne_str_bool (fin_bl I q (by simp))
    | int j => obtain ⟨t', rfl⟩ := ry; exact PySem.EqMixed.ne_str_int (fin_bl I q (by simp))
    | str j => obtain ⟨t', rfl⟩ := ry; exact ne_str (fin_bl I q (congrArg not dec_str))
    | _ => exact absurd (show false = true from hs) Bool.false_ne_true
  | byt i =>
    obtain ⟨t, rfl⟩ := rx
    cases y with
    | byt j => obtain ⟨t', rfl⟩ := ry; exact PySem.W.ne_bytes (fin_bl I q (congrArg not dec_byt))
    | _ => exact absurd (show false = true from hs) Bool.false_ne_true
  | _ => cases y <;> exact absurd (show false = true from hs) Bool.false_ne_true
theorem op_lt : OpR X (compareOp .Lt) (rI0 fun i j => .bl (decide (i < j))) := opB0 fun _ _ _ _ _ _ _ q => lt_int q
theorem op_le : OpR X (compareOp .LtE) (rI0 fun i j => .bl (decide (i ≤ j))) := opB0 fun _ _ _ _ _ _ _ q => le_int q
theorem op_gt : OpR X (compareOp .Gt) (rI0 fun i j => .bl (decide (j < i))) := opB0 fun _ _ _ _ _ _ _ q => gt_int q
theorem op_ge : OpR X (compareOp .GtE) (rI0 fun i j => .bl (decide (j ≤ i))) := opB0 fun _ _ _ _ _ _ _ q => ge_int q
def isObj : HO → Bool
  | .lst _ => true
  | .ins _ _ _ => true
  | _ => false
theorem nomark (b : Expr) {op : CmpOp} (h : op ≠ .In := by decide) (h2 : op ≠ .NotIn := by decide) : behindInMarks op b = false := by
  have e1 : (op == CmpOp.In) = false := by cases op <;> first | rfl | exact absurd rfl h
  have e2 : (op == CmpOp.NotIn) = false := by cases op <;> first | rfl | exact absurd rfl h2
  cases b <;> simp [behindInMarks, e1, e2]
theorem pe_cmpR {op : CmpOp} {r : R2} (ho : OpR X (compareOp op) r) (ha : PE X a ta) (hb : PE X b tb) (hm : behindInMarks op b = false) : PE X (.Compare a [op] [b] pos) (tOp r ta tb) := by
  intro pins s σ H Q I h
  exact wpAny_Compare1 (binT ha hb I h fun v u s2 x y H2 I2 rx ry q => ho pins s2 σ H2 x y v u Q I2 rx ry q) hm
def tTest (t : TE) : TT := fun σ H Q => t σ H fun x H' => ∃ k, x = .bl k ∧ Q k H'
theorem pt_cmpR {op : CmpOp} {r : R2} (ho : OpR X (compareOp op) r) (ha : PE X a ta) (hb : PE X b tb) (hm : behindInMarks op b = false) : PT X (.Compare a [op] [b] pos) (tTest (tOp r ta tb)) := by
  intro pins s σ H Q I h
  refine wpAny_isTrue_Compare1 (thn (ha pins s σ H _ I h) fun v s1 ⟨x, H1, I1, r1, q1⟩ => thn (hb pins s1 σ H1 _ I1 q1) fun u s2 ⟨y, H2, I2, r2, q2⟩ =>
    thn (ho pins s2 σ H2 x y v u _ I2 r1 r2 q2) fun c s3 ⟨z, H3, I3, r3, k, e, q3⟩ => ?_) hm
  subst e
  cases r3
  exact wpAny_truthy_bool ⟨H3, I3, q3⟩
def tChain (r r' : R2) (ta tb tc : TE) : TE := fun σ H Q => ta σ H fun x H1 => tb σ H1 fun y H2 => r x y H2 fun z H3 => ∃ k, z = .bl k ∧
  (if k = true then tc σ H3 fun w' H4 => r' y w' H4 Q else Q (.bl false) H3)
theorem pe_chain {op op' : CmpOp} {r r' : R2} (ho : OpR X (compareOp op) r) (ho' : OpR X (compareOp op') r') (ha : PE X a ta) (hb : PE X b tb) (hc : PE X c tc)
    (hm : lastMarks [op, op'] [b, c] = false := by with_unfolding_all rfl) : PE X (.Compare a [op, op'] [b, c] pos) (tChain r r' ta tb tc) := by
  intro pins s σ H Q I h
  refine Compare_chain (thn (ha pins s σ H _ I h) fun v s1 ⟨x, H1, I1, r1, q1⟩ => chain_link (thn (hb pins s1 σ H1 _ I1 q1) fun u s2 ⟨y, H2, I2, r2, q2⟩ =>
    thn (ho pins s2 σ H2 x y v u _ I2 r1 r2 q2) fun d s3 ⟨z, H3, I3, r3, k, e, q3⟩ => ?_)) hm
  subst e
  cases r3
  refine wpAny_truthy_bool ?_
  cases k with
  | false => exact ite_ff ⟨.bl false, H3, I3, rfl, q3⟩
  | true => exact ite_tt (chain_last (thn (hc pins s3 σ H3 _ I3 q3) fun w' s4 ⟨z', H4, I4, r4, q4⟩ => ho' pins s4 σ H4 y z' u w' Q I4 r2 r4 q4))
theorem pt_chain {op op' : CmpOp} {r r' : R2} (ho : OpR X (compareOp op) r) (ho' : OpR X (compareOp op') r') (ha : PE X a ta) (hb : PE X b tb) (hc : PE X c tc)
    (hm : lastMarks [op, op'] [b, c] = false := by with_unfolding_all rfl) : PT X (.Compare a [op, op'] [b, c] pos) (tTest (tChain r r' ta tb tc)) := by
  intro pins s σ H Q I h
  refine isTrue_chain (thn (ha pins s σ H _ I h) fun v s1 ⟨x, H1, I1, r1, q1⟩ => test_link (thn (hb pins s1 σ H1 _ I1 q1) fun u s2 ⟨y, H2, I2, r2, q2⟩ =>
    thn (ho pins s2 σ H2 x y v u _ I2 r1 r2 q2) fun d s3 ⟨z, H3, I3, r3, k, e, q3⟩ => ?_)) hm
  subst e
  cases r3
  refine wpAny_truthy_bool ?_
  cases k with
  | false =>
    obtain ⟨k', e', q'⟩ := q3
    cases e'
    exact ite_ff ⟨H3, I3, q'⟩
  | true =>
    refine ite_tt (test_last (thn (hc pins s3 σ H3 _ I3 q3) fun w' s4 ⟨z', H4, I4, r4, q4⟩ => thn (ho' pins s4 σ H4 y z' u w' _ I4 r2 r4 q4) fun d' s5 ⟨z2, H5, I5, r5, k2, e2, q5⟩ => ?_))
    subst e2
    cases r5
    exact wpAny_truthy_bool ⟨H5, I5, q5⟩
def TruV (K : PySem.W.Frag) (x : V) (H : Hp) (k : Bool) : Prop :=
  match x with
  | .non => k = false
  | .bl b => k = b
  | .int i => k = (i != 0)
  | .str y => y.length ≤ sizeLine ∧ k = ((y.length : Int) != 0)
  | .byt y => y.size ≤ sizeLine ∧ k = ((y.size : Int) != 0)
  | .ref p => (∃ xs, SqL K H p xs ∧ k = !xs.isEmpty) ∨ (∃ xs, SqT K H p xs ∧ k = !xs.isEmpty) ∨ ∃ kvs, H p = some (.dK kvs) ∧ k = !kvs.isEmpty
  | _ => False
theorem isEmpty_kv {κ : Type} {kvs : List (κ × V)} {vs : List (κ × Value)} (r : KV kvs vs) : (!vs.isEmpty) = !kvs.isEmpty := by
  cases r <;> rfl
theorem isEmpty_of {xs : List V} {its : List Value} (r : Vals xs its) : (!its.toArray.isEmpty) = !xs.isEmpty := by
  cases r <;> simp
theorem line63 : (sizeLine : Nat) < 2 ^ 63 := by rw [sizeLine_eq]; decide
theorem tru_ok : TruR X (fun x H Q => ∃ k, TruV X.K x H k ∧ Q k H) := by
  intro pins s σ H x v Q I rx h
  obtain ⟨k, e, q⟩ := h
  have hl := line63
  have hs : sizeLine = 16777216 := sizeLine_eq
  cases x with
  | non =>
    cases rx
    have e' : k = false := e
    subst e'
    exact truthy_none ⟨H, I, q⟩
  | bl b =>
    cases rx
    have e' : k = b := e
    subst e'
    exact wpAny_truthy_bool ⟨H, I, q⟩
  | int i =>
    obtain ⟨t, rfl⟩ := rx
    have e' : k = (i != 0) := e
    subst e'
    exact PySem.P.truthy_int ⟨H, I, q⟩
  | str y =>
    obtain ⟨t, rfl⟩ := rx
    obtain ⟨hy, e'⟩ : y.length ≤ sizeLine ∧ k = ((y.length : Int) != 0) := e
    subst e'
    exact PySem.P.truthy_str (by omega) ⟨H, I.tok _, q⟩
  | byt y =>
    obtain ⟨t, rfl⟩ := rx
    obtain ⟨hy, e'⟩ : y.size ≤ sizeLine ∧ k = ((y.size : Int) != 0) := e
    subst e'
    exact PySem.W.truthy_bytes (by omega) ⟨H, I.tok _, q⟩
  | ref p =>
    cases rx
    have e' : (∃ xs, SqL X.K H p xs ∧ k = !xs.isEmpty) ∨ (∃ xs, SqT X.K H p xs ∧ k = !xs.isEmpty) ∨ ∃ kvs, H p = some (.dK kvs) ∧ k = !kvs.isEmpty := e
    rcases e' with ⟨xs, hx, e'⟩ | ⟨xs, hx, e'⟩ | ⟨kvs, hx, e'⟩
    · subst e'
      obtain ⟨its, r, pl, hz⟩ := I.list hx
      have hlen := r.length
      exact wpAny_truthy_list pl.isList (by simp only [List.size_toArray]; omega) ⟨H, I.tok _, by rw [isEmpty_of r]; exact q⟩
    · subst e'
      obtain ⟨its, r, pl, hz⟩ := I.tuple hx
      have hlen := r.length
      exact truthy_tuple pl (by simp only [List.size_toArray]; omega) ⟨H, I.tok _, by rw [isEmpty_of r]; exact q⟩
    · subst e'
      obtain ⟨hz, hS, vs, r, m⟩ : kvs.length ≤ sizeLine ∧ (p == sysModules) = false ∧ ∃ vs, KV kvs vs ∧ s.heap.DictOf (mixKind X.prog X.w) p vs := I.hok p _ hx
      have hlen : kvs.length = vs.length := Paired.length r
      exact wpAny_truthy_dict hS m (by omega) ⟨H, I.tok _, by rw [isEmpty_kv r]; exact q⟩
  | _ => exact (show False from e).elim
theorem pt_truth (ha : PE X a ta) (he : ∀ whole, isTrue a X.env whole = (do let v ← whole; standAt a.pos; holding [v] (truthy v))) :
    PT X a (fun σ H Q => ta σ H fun x H' => ∃ k, TruV X.K x H' k ∧ Q k H') := by
  intro pins s σ H Q I h
  exact isTrue_plain (thn (ha pins s σ H _ I h) fun v s1 ⟨x, H1, I1, r1, q1⟩ => tru_ok pins s1 σ H1 x v Q I1 r1 q1) (he _)
theorem vals1 {x : V} {us : List Value} (r : Vals [x] us) : ∃ u, us = [u] ∧ RelV x u := by
  cases r with
  | cons r1 r2 => cases r2; exact ⟨_, rfl, r1⟩
theorem vals2 {x y : V} {us : List Value} (r : Vals [x, y] us) : ∃ u w', us = [u, w'] ∧ RelV x u ∧ RelV y w' := by
  cases r with
  | cons r1 r2 =>
    cases r2 with
    | cons r3 r4 => cases r4; exact ⟨_, _, rfl, r1, r3⟩
theorem call_min2 (hc : X.calm = true) : CallR X (.builtin "min") (fun xs H Q => ∃ i j, xs = [.int i, .int j] ∧ Q (.int (if j < i then j else i)) H) := by
  intro pins s σ H xs us Q I r h
  obtain ⟨i, j, rfl, q⟩ := h
  obtain ⟨u, w', rfl, ⟨t, rfl⟩, ⟨t', rfl⟩⟩ := vals2 r
  refine min_two_ints (I.ok.hd hc) fun h' tk k => ⟨_, H, I.kept k, ?_, q⟩
  by_cases hj : j < i
  · rw [if_pos hj, if_pos hj]; exact ⟨_, rfl⟩
  · rw [if_neg hj, if_neg hj]; exact ⟨_, rfl⟩
end
end L2
namespace L2
open PySem PySem.Spec PyProof.Rows
structure ObjM (h : Heap) (x dx C : Addr) (mA : Str → Option Value) : Prop where
  obj : h.get? x = some (PySem.W.instObj C dx)
  ns : h.Ns1 dx mA
  ne : dx ≠ x
theorem lookIn_ns {h : Heap} {dx : Addr} {mA : Str → Option Value} (n : h.Ns1 dx mA) : ∃ od, h.get? dx = some od ∧ ∀ name, PySem.W.lookIn name od = some (mA name) := by
  obtain ⟨o, es, ep, ho, hd, hk, _, hm⟩ := n
  refine ⟨o, ho, fun name => ?_⟩
  have e := hm name
  unfold nsFind findBy at e
  rw [← Array.find?_toList] at e
  unfold PySem.W.lookIn
  rw [hd]
  dsimp only
  split
  · rename_i y q
    rw [q] at e
    exact congrArg some e
  · rename_i q
    rw [q] at e
    have a : es.toList.any (·.refKey) = false := by
      rw [List.any_eq_false]
      intro y hy
      obtain ⟨z, t, hkey⟩ := hk y (Array.mem_toList_iff.mp hy)
      simp [DictEntry.refKey, hkey]
    have a' : ¬ es.toList.any (·.refKey) = true := by rw [a]; exact Bool.false_ne_true
    rw [if_neg a']
    exact congrArg some e
theorem ObjM.look {h : Heap} {x dx C : Addr} {mA : Str → Option Value} (I : ObjM h x dx C mA) : ∃ od, PySem.W.InstAt h x (PySem.W.instObj C dx) C (some od) ∧ ∀ name, PySem.W.lookIn name od = some (mA name) :=
  let ⟨od, ho, hl⟩ := lookIn_ns I.ns
  ⟨od, ⟨I.obj, rfl, rfl, ho⟩, hl⟩
section
variable {prog : Program} {w : World} {A : Around} {E : Value → Shared → Prop} {s : Shared} {K : PySem.W.Frag} {x dx C f : Addr} {mA : Str → Option Value} {name : Str} {v : Value}
theorem get_map {expr : Bool} {Q : Value → Shared → Prop} (X : K.In s.heap) (I : ObjM s.heap x dx C mA) (hg : PySem.W.plainGet K C name = true) (hh : PySem.W.hasDictIn K C = true)
    (ha : PySem.W.findIn K (.ref C) name = some none) (hv : mA name = some v) (hv' : PySem.W.handedIn v = true) (h : Q v { s with toks := s.toks + 1 }) :
    wpAny (model prog w) A (getAttr (.ref x) name expr) Q E s := by
  obtain ⟨od, J, hl⟩ := I.look
  exact PySem.W.get_value X J (PySem.W.plainGet_of hg).1 (PySem.W.findObj_own hh ha rfl (by rw [hl, hv])) hv' h
theorem get_meth {pl : Sem Bool} {Q : Value × List Value → Shared → Prop} (X : K.In s.heap) (I : ObjM s.heap x dx C mA) (hg : PySem.W.plainGet K C name = true)
    (hf : PySem.W.findIn K (.ref C) name = some (some (.ref f))) (ht : PySem.W.isFn K (.ref f) = true) (hv : mA name = none) (h : Q (.ref f, [.ref x]) s) :
    wpAny (model prog w) A (getMethod (.ref x) name pl) Q E s := by
  obtain ⟨od, J, hl⟩ := I.look
  exact PySem.W.method_fn X J (PySem.W.plainGet_of hg).1 (PySem.W.plainGet_of hg).2 hf (beq_iff_eq.mp ht) (by show (PySem.W.lookIn name od).map (·.isSome) = some false; rw [hl, hv]; rfl) h
theorem set_map {ns : List Str} {Q : Unit → Shared → Prop} (X : K.In s.heap) (I : ObjM s.heap x dx C mA)
    (hs : PySem.W.findIn K (.ref C) "__setattr__" = some (some (.builtin "object.__setattr__"))) (hp : PySem.W.plainOver K C = true) (ht : PySem.W.takerIn K C name = some none) (hh : PySem.W.hasDictIn K C = true)
    (hw : PySem.Within mA ns) (hsz : ns.length ≤ sizeLine)
    (h : ∀ h', ObjM h' x dx C (fun y => if y = name then some v else mA y) → Heap.SameBut dx s.heap h' → Q () { s with heap := h', toks := s.toks + 2 }) :
    wpAny (model prog w) A (setAttr (.ref x) name v) Q E s := by
  obtain ⟨od, J, hl⟩ := I.look
  refine PySem.W.set_plain X J hs (PySem.W.osa_open (s := { s with toks := s.toks + 1 }) (r := none) X J hp ht fun b => ?_)
  obtain ⟨cd, hc, hd'⟩ := PySem.W.any_some hh
  have hx : s.heap.get? x = some ⟨.ref C, some dx, .plain, #[]⟩ := I.obj
  refine wpAny_bind (wpAny_pure (wpAny_bind (wpAny_bind (wpAny_loadPart hx (wpAny_bind (PySem.W.Looks.here (s := { s with toks := s.toks + 1 }) (PySem.W.looks_clsIn X hc) ?_))))))
  rw [hd']
  refine wpAny_pure (a := some dx) (wpAny_bind (wpAny_pure (wpAny_bind ?_)))
  refine wpAny_nsSet1 (s := { s with toks := s.toks + 1 }) I.ns fun h' hn2 hs2 => ?_
  obtain ⟨oD, esD, epD, hoD, hdD, hcD⟩ := hn2.count (PySem.Within.cons name v hw)
  refine wpAny_bind (wpAny_lookBehind hoD (by rw [hdD]; exact pastItsLine_dict (Nat.le_trans hcD (by rw [List.length_cons]; omega))) ?_)
  exact wpAny_pure (h _ ⟨(hs2.2 _ (Ne.symm I.ne)).trans I.obj, hn2, I.ne⟩ hs2)
theorem make_map {R : Result → Shared → Prop} {vs : List Value} {kw : List (Str × Value)} (X : K.In s.heap) (hm : PySem.W.makesIn K C = true)
    (hi : PySem.W.findIn K (.ref C) "__init__" = some (some (.ref f))) (hf : PySem.W.typeIn K (.ref f) = some (.type "function"))
    (h : codeAny (model prog w) (A.under (.builtin "type.__call__" ⟨.ref C :: vs, kw⟩)) (.call (.ref f) ⟨.ref (s.heap.objs.size + 1) :: vs, kw⟩) (PySem.W.InitBack (s.heap.objs.size + 1) R)
      { s with heap := (s.heap.push PySem.W.emptyDict).push (PySem.W.instObj C s.heap.objs.size) }) :
    codeAny (model prog w) A (.call (.ref C) ⟨vs, kw⟩) R s := by
  obtain ⟨hh, g, d, t, os⟩ := s
  exact PySem.W.make_core (PySem.W.makes_of X hm) (PySem.W.looks_findIn X hi) (fun self => PySem.W.bind_fn X self hf) (.inl rfl) h
end
def putF (f : Str) (v : V) : List (Str × V) → List (Str × V)
  | [] => [(f, v)]
  | (g, x) :: r => if g = f then (g, v) :: r else (g, x) :: putF f v r
theorem lookup_putF (f g : Str) (v : V) : ∀ fs : List (Str × V), (putF f v fs).lookup g = if g = f then some v else fs.lookup g
  | [] => by
    show List.lookup g [(f, v)] = _
    by_cases h : g = f
    · have hb : (g == f) = true := beq_iff_eq.mpr h
      simp only [List.lookup, hb, if_pos h]
    · have hb : (g == f) = false := beq_eq_false_iff_ne.mpr h
      simp only [List.lookup, hb, if_neg h]
  | (k, x) :: r => by
    have ih := lookup_putF f g v r
    rw [show putF f v ((k, x) :: r) = (if k = f then (k, v) :: r else (k, x) :: putF f v r) from rfl]
    by_cases hk : k = f
    · rw [if_pos hk]
      by_cases h : g = k
      · have hb : (g == k) = true := beq_iff_eq.mpr h
        simp only [List.lookup, hb, if_pos (h.trans hk)]
      · have hb : (g == k) = false := beq_eq_false_iff_ne.mpr h
        simp only [List.lookup, hb, if_neg (fun e : g = f => h (e.trans hk.symm))]
    · rw [if_neg hk]
      by_cases h : g = k
      · have hb : (g == k) = true := beq_iff_eq.mpr h
        simp only [List.lookup, hb, if_neg (fun e : g = f => hk (h.symm.trans e))]
      · have hb : (g == k) = false := beq_eq_false_iff_ne.mpr h
        simp only [List.lookup, hb]
        exact ih
theorem keys_putF (f : Str) (v : V) : ∀ fs : List (Str × V), f ∈ (putF f v fs).map (·.1) ∧ ∀ g, g ∈ fs.map (·.1) → g ∈ (putF f v fs).map (·.1)
  | [] => ⟨by simp [putF], fun g h => by simp at h⟩
  | (k, x) :: r => by
    obtain ⟨i1, i2⟩ := keys_putF f v r
    rw [show putF f v ((k, x) :: r) = (if k = f then (k, v) :: r else (k, x) :: putF f v r) from rfl]
    by_cases hk : k = f
    · rw [if_pos hk]
      subst hk
      exact ⟨by simp, fun g h => by simpa using h⟩
    · rw [if_neg hk]
      refine ⟨?_, fun g h => ?_⟩
      · rw [List.map_cons]
        exact List.mem_cons_of_mem _ i1
      · rw [List.map_cons] at h ⊢
        rcases List.mem_cons.mp h with e | e
        · exact List.mem_cons.mpr (.inl e)
        · exact List.mem_cons_of_mem _ (i2 g e)
theorem length_putF (f : Str) (v : V) : ∀ fs : List (Str × V), (putF f v fs).length ≤ fs.length + 1
  | [] => by simp [putF]
  | (k, x) :: r => by
    have ih := length_putF f v r
    rw [show putF f v ((k, x) :: r) = (if k = f then (k, v) :: r else (k, x) :: putF f v r) from rfl]
    by_cases hk : k = f
    · rw [if_pos hk, List.length_cons, List.length_cons]; omega
    · rw [if_neg hk, List.length_cons, List.length_cons]; omega
theorem RelO.some_of {v : V} {o : Option Value} (r : RelO (some v) o) : ∃ u, o = some u ∧ RelV v u := by
  cases o with
  | none => exact (show False from r).elim
  | some u => exact ⟨u, rfl, r⟩
theorem RelO.none_of {o : Option Value} (r : RelO none o) : o = none := by
  cases o with
  | none => rfl
  | some u => exact (show False from r).elim
theorem handed_of {v : V} {u : Value} (r : RelV v u) : PySem.W.handedIn u = true := by
  cases v with
  | non => cases (show u = Value.none from r); rfl
  | bl b => cases (show u = Value.bool b from r); rfl
  | int i => obtain ⟨t, e⟩ := (show ∃ t, u = Value.int i t from r); cases e; rfl
  | str x => obtain ⟨t, e⟩ := (show ∃ t, u = Value.str x t from r); cases e; rfl
  | byt b => obtain ⟨t, e⟩ := (show ∃ t, u = Value.bytes b t from r); cases e; rfl
  | flt b => obtain ⟨t, e⟩ := (show ∃ t, u = Value.float b t from r); cases e; rfl
  | ref a => cases (show u = Value.ref a from r); rfl
  | ty n => cases (show u = Value.type n from r); rfl
section
variable {P : Program} {w : World} {H H' : Hp} {h h' : Heap} {a C dx : Addr} {fs fs' : List (Str × V)}
theorem ins_get (hok : HOk P w H h) (e : H a = some (.ins C dx fs)) : ∃ mA, ObjM h a dx C mA ∧ (∀ f, RelO (fs.lookup f) (mA f)) ∧ PySem.Within mA (fs.map (·.1)) ∧ fs.length ≤ 1000 ∧ H dx = some (.own a) := by
  obtain ⟨d, z, ne, ob, mA, n, r, q⟩ := (show ObjOk P w H h a (.ins C dx fs) from hok a _ e)
  exact ⟨mA, ⟨ob, n, ne⟩, r, q, z, d⟩
end
structure Cls (K : PySem.W.Frag) (C : Addr) : Prop where
  pg : PySem.W.plainGet K C Str.empty = true
  hd : PySem.W.hasDictIn K C = true
  po : PySem.W.plainOver K C = true
  sa : PySem.W.findIn K (.ref C) "__setattr__" = some (some (.builtin "object.__setattr__"))
theorem Cls.get {K : PySem.W.Frag} {C : Addr} (c : Cls K C) (f : Str) : PySem.W.plainGet K C f = true := c.pg
def NoAttr (K : PySem.W.Frag) (C : Addr) (f : Str) : Prop := PySem.W.findIn K (.ref C) f = some none
theorem NoAttr.taker {K : PySem.W.Frag} {C : Addr} {f : Str} (n : NoAttr K C f) : PySem.W.takerIn K C f = some none := by
  unfold PySem.W.takerIn
  rw [show PySem.W.findIn K (.ref C) f = some none from n]
  rfl
structure Meth (K : PySem.W.Frag) (C : Addr) (m : Str) (f : Addr) : Prop where
  at_ : PySem.W.findIn K (.ref C) m = some (some (.ref f))
  fn : PySem.W.isFn K (.ref f) = true
  kp : PySem.W.keepIn K (.ref f) = true
section
variable {X : Cx} {pins : List (Addr × Obj)} {σ : St} {H : Hp} {s : Shared} {a C dx : Addr} {fs : List (Str × V)} {f : Str} {v : V} {A : Around} {E : Value → Shared → Prop}
theorem getattr_ok {b : Bool} {Q : Value → Shared → Prop} (I : Inv X pins σ H s) (e : H a = some (.ins C dx fs)) (c : Cls X.K C) (n : NoAttr X.K C f) (l : fs.lookup f = some v)
    (h : ∀ u s', Inv X pins σ H s' → RelV v u → Q u s') : wpAny (model X.prog X.w) A (getAttr (.ref a) f b) Q E s := by
  obtain ⟨mA, O, r, _, _, _⟩ := ins_get I.hok e
  obtain ⟨u, hu, ru⟩ := RelO.some_of (v := v) (o := mA f) (by rw [← l]; exact r f)
  exact get_map I.kIn O (c.get f) c.hd n hu (handed_of ru) (h u _ (I.tok _) ru)
theorem getmeth_ok {m : Str} {g : Addr} {pl : Sem Bool} {Q : Value × List Value → Shared → Prop} (I : Inv X pins σ H s) (e : H a = some (.ins C dx fs)) (c : Cls X.K C) (k : Meth X.K C m g) (l : fs.lookup m = none)
    (h : Q (.ref g, [.ref a]) s) : wpAny (model X.prog X.w) A (getMethod (.ref a) m pl) Q E s := by
  obtain ⟨mA, O, r, _, _, _⟩ := ins_get I.hok e
  have hn : mA m = none := RelO.none_of (by rw [← l]; exact r m)
  exact get_meth I.kIn O (c.get m) k.at_ k.fn hn h
theorem setattr_ok {y : V} {u : Value} {Q : Unit → Shared → Prop} (I : Inv X pins σ H s) (e : H a = some (.ins C dx fs)) (c : Cls X.K C) (n : NoAttr X.K C f) (hl : fs.length < 1000) (ry : RelV y u)
    (h : ∀ s', Inv X pins σ (upd H a (.ins C dx (putF f y fs))) s' → Q () s') : wpAny (model X.prog X.w) A (setAttr (.ref a) f u) Q E s := by
  obtain ⟨mA, O, r, wi, _, ho⟩ := ins_get I.hok e
  have hz : (fs.map (·.1)).length ≤ sizeLine := by rw [List.length_map, sizeLine_eq]; omega
  refine set_map I.kIn O c.sa c.po n.taker c.hd wi hz fun h' O' sb => h _ ?_
  have hd : ∃ o, h'.get? dx = some o := let ⟨o, _, _, e', _⟩ := O'.ns; ⟨o, e'⟩
  refine I.write (x := a) (e := dx) (by rw [e]; exact True.intro) (.inr ho) (fun b q hb z => (sb.2 b hb).trans z) hd ?_
  refine ⟨by rw [upd_ne O.ne]; exact ho, ?_, O.ne, O'.obj, _, O'.ns, fun g => ?_, fun g hg => ?_⟩
  · have := length_putF f y fs; omega
  · show RelO ((putF f y fs).lookup g) (if g = f then some u else mA g)
    rw [lookup_putF]
    by_cases q : g = f
    · rw [if_pos q, if_pos q]; exact ry
    · rw [if_neg q, if_neg q]; exact r g
  · by_cases q : g = f
    · rw [q]; exact (keys_putF f y fs).1
    · refine (keys_putF f y fs).2 g (wi g fun z => hg ?_)
      show (if g = f then some u else mA g) = none
      rw [if_neg q]; exact z
theorem Inv.made (I : Inv X pins σ H s) : Inv X pins σ (upd (upd H s.heap.objs.size (.own (s.heap.objs.size + 1))) (s.heap.objs.size + 1) (.ins C s.heap.objs.size []))
    { s with heap := (s.heap.push PySem.W.emptyDict).push (PySem.W.instObj C s.heap.objs.size) } := by
  have e1 : (s.heap.push PySem.W.emptyDict).get? s.heap.objs.size = some PySem.W.emptyDict := Heap.get?_push_size s.heap rfl
  have e2 : ((s.heap.push PySem.W.emptyDict).push (PySem.W.instObj C s.heap.objs.size)).get? (s.heap.objs.size + 1) = some (PySem.W.instObj C s.heap.objs.size) := by
    have := Heap.get?_push_size (s.heap.push PySem.W.emptyDict) (o := PySem.W.instObj C s.heap.objs.size) rfl
    rwa [Heap.size_push] at this
  have e3 : (s.heap.push PySem.W.emptyDict).Ns s.heap.objs.size (fun _ => none) := ⟨PySem.W.emptyDict, #[], _, e1, rfl, (fun e he => absurd he (by simp)), fun _ => rfl⟩
  have I1 := I.laid (a := s.heap.objs.size) (o := .own (s.heap.objs.size + 1)) (h' := s.heap.push PySem.W.emptyDict) (t' := s.toks) (fun b u q => Heap.get?_push_of_some _ q) (Nat.le_refl _) ⟨_, e1⟩
  refine I1.laid (a := s.heap.objs.size + 1) (o := .ins C s.heap.objs.size []) (t' := s.toks) (fun b u q => Heap.get?_push_of_some _ q) (Nat.le_of_eq (Heap.size_push _ _)) ?_
  have ne : s.heap.objs.size ≠ s.heap.objs.size + 1 := Nat.ne_of_lt (Nat.lt_succ_self _)
  refine ⟨by rw [upd_ne ne, upd_same], Nat.zero_le _, ne, e2, fun _ => none, (Heap.Ns1.of_empty e3).at fun o q => Heap.get?_push_of_some _ q, fun _ => True.intro, fun y hy => absurd rfl hy⟩
theorem attr_of {prog : Program} {w : World} {env : Env} {e : Expr} {f : Str} {pos : Pos} {s : Shared} {Q : Value → Shared → Prop} (hb : attributeBase e f env (eval e env) = eval e env)
    (h : wpAny (model prog w) A (eval e env) (fun o s₁ => wpAny (model prog w) A (getAttr o f true) Q E s₁) E s) : wpAny (model prog w) A (eval (.Attribute e f pos) env) Q E s :=
  Attribute_any_ h (by rw [arm_eval_Attribute, hb])
end
def tFld (K : PySem.W.Frag) (ta : TE) (f : Str) : TE := fun σ H Q => ta σ H fun x H1 => ∃ a C dx fs v, x = .ref a ∧ H1 a = some (.ins C dx fs) ∧ Cls K C ∧ NoAttr K C f ∧ fs.lookup f = some v ∧ Q v H1
def sFld (K : PySem.W.Frag) (ta tv : TE) (f : Str) : TS := fun D σ H => tv σ H fun y H1 => ta σ H1 fun x H2 => ∃ a C dx fs, x = .ref a ∧ H2 a = some (.ins C dx fs) ∧ Cls K C ∧ NoAttr K C f ∧ fs.length < 1000 ∧
  D.nx σ (upd H2 a (.ins C dx (putF f y fs)))
def InOp (X : Cx) (op : Operator) (rd : V → V → Hp → VK → Prop) : Prop :=
  ∀ (pins : List (Addr × Obj)) (s : Shared) (σ : St) (H : Hp) (x y : V) (u v : Value) (Q : VK), Inv X pins σ H s → RelV x u → RelV y v → rd x y H Q → wpAny (model X.prog X.w) X.A (inplaceOp op u v) (EP X pins σ Q) X.xe s
def sFldAug (K : PySem.W.Frag) (ta tv : TE) (rd : V → V → Hp → VK → Prop) (f : Str) : TS := fun D σ H => ta σ H fun x H1 => ∃ a C dx fs v, x = .ref a ∧ H1 a = some (.ins C dx fs) ∧ Cls K C ∧ NoAttr K C f ∧ fs.lookup f = some v ∧
  tv σ H1 fun y H2 => rd v y H2 fun z H3 => ∃ dx' fs', H3 a = some (.ins C dx' fs') ∧ fs'.length < 1000 ∧ D.nx σ (upd H3 a (.ins C dx' (putF f z fs')))
section
variable {X : Cx} {o e value : Expr} {f : Str} {pos pos' tpos : Pos} {ta tv : TE}
theorem pe_fld (he : PE X e ta) (hb : attributeBase e f X.env (eval e X.env) = eval e X.env) : PE X (.Attribute e f pos) (tFld X.K ta f) := by
  intro pins s σ H Q I h
  refine attr_of hb (thn (he pins s σ H _ I h) fun u s1 ⟨x, H1, I1, rx, a, C, dx, fs, v, ex, ea, c, n, l, q⟩ => ?_)
  subst ex
  obtain rfl : u = Value.ref a := rx
  exact getattr_ok I1 ea c n l fun u' s2 I2 ru => ⟨v, H1, I2, ru, q⟩
theorem ps_fld (ha : PE X o ta) (hv : PE X value tv) (hs : swapsWith value (some (.Attribute o f pos')) pos.line X.env = pure false) : PS X (.Assign [.Attribute o f pos'] value pos) (sFld X.K ta tv f) := by
  intro pins s σ H D I h
  refine plainObj_wpAny_Assign_Attribute (thn (hv pins s σ H _ I h) fun u s1 ⟨y, H1, I1, ry, q⟩ => thn (ha pins s1 σ H1 _ I1 q) fun ov s2 ⟨x, H2, I2, rx, a, C, dx, fs, ex, ea, c, n, l, q2⟩ => ?_) hs
  subst ex
  obtain rfl : ov = Value.ref a := rx
  exact setattr_ok I2 ea c n l ry fun s3 I3 => ⟨σ, _, I3, q2⟩
theorem ps_fldaug {op : Operator} {rd : V → V → Hp → VK → Prop} (ha : PE X o ta) (hv : PE X value tv) (hop : InOp X op rd) : PS X (.AugAssign (.Attribute o f tpos) op value pos) (sFldAug X.K ta tv rd f) := by
  intro pins s σ H D I h
  refine wpAny_AugAssign_AttributeAny (thn (ha pins s σ H _ I h) fun ov s1 ⟨x, H1, I1, rx, a, C, dx, fs, v, ex, ea, c, n, l, q⟩ => ?_)
  subst ex
  obtain rfl : ov = Value.ref a := rx
  refine getattr_ok I1 ea c n l fun u s2 I2 ru => thn (hv pins s2 σ H1 _ I2 q) fun w3 s3 ⟨y, H2, I3, ry, q3⟩ => thn (hop pins s3 σ H2 v y u w3 _ I3 ru ry q3) fun w4 s4 ⟨z, H3, I4, rz, dx', fs', ea', l', q4⟩ => ?_
  exact setattr_ok I4 ea' c n l' rz fun s5 I5 => ⟨σ, _, I5, q4⟩
def rAdd : V → V → Hp → VK → Prop := fun x y H Q => ∃ i j, x = .int i ∧ y = .int j ∧ Q (.int (i + j)) H
def rSub : V → V → Hp → VK → Prop := fun x y H Q => ∃ i j, x = .int i ∧ y = .int j ∧ Q (.int (i - j)) H
theorem in_add : InOp X .Add rAdd := by
  rintro pins s σ H x y u v Q I rx ry ⟨i, j, rfl, rfl, q⟩
  obtain ⟨t, rfl⟩ := (show ∃ t, u = Value.int i t from rx)
  obtain ⟨t', rfl⟩ := (show ∃ t', v = Value.int j t' from ry)
  exact PyProof.Rows.iadd_int ⟨.int (i + j), H, I.tok _, ⟨_, rfl⟩, q⟩
theorem in_sub : InOp X .Sub rSub := by
  rintro pins s σ H x y u v Q I rx ry ⟨i, j, rfl, rfl, q⟩
  obtain ⟨t, rfl⟩ := (show ∃ t, u = Value.int i t from rx)
  obtain ⟨t', rfl⟩ := (show ∃ t', v = Value.int j t' from ry)
  exact PyProof.Rows.isub_int ⟨.int (i - j), H, I.tok _, ⟨_, rfl⟩, q⟩
theorem methcall_of {pl : Sem Bool} {m : Str} {apos : Pos} {args : List Expr} {pins : List (Addr × Obj)} {s : Shared} {σ : St} {H : Hp} {Q : Value → Shared → Prop} {te : TE} (he : PE X e te) (I : Inv X pins σ H s)
    (h : te σ H fun x H1 => ∃ a C dx fs g, x = .ref a ∧ H1 a = some (.ins C dx fs) ∧ Cls X.K C ∧ Meth X.K C m g ∧ fs.lookup m = none ∧
      ∀ s1, Inv X pins σ H1 s1 → wpAny (model X.prog X.w) X.A (callWith pos (.ref g) [.ref a] (backTo pos (starEach args X.env)) (backToKw pos (keywordEach [] X.env))) Q X.xe s1)
    (ht : eval (.Call (.Attribute e m apos) args [] pos) X.env = (do
      let ov ← eval e X.env
      standAt apos.atName
      let (f, first) ← holding [ov] (getMethod ov m pl)
      callWith pos f first (backTo pos (starEach args X.env)) (backToKw pos (keywordEach [] X.env)))) :
    wpAny (model X.prog X.w) X.A (eval (.Call (.Attribute e m apos) args [] pos) X.env) Q X.xe s := by
  refine PySem.W.methodCall_KW (pl := pl) (thn (he pins s σ H _ I h) fun u s1 ⟨x, H1, I1, rx, a, C, dx, fs, g, ex, ea, c, k, l, q⟩ => ?_) ht
  subst ex
  obtain rfl : u = Value.ref a := rx
  exact getmeth_ok I1 ea c k l (q s1 I1)
end
section
variable {X : Cx} {pins : List (Addr × Obj)} {σ : St} {H : Hp} {s : Shared} {A : Around} {E : Value → Shared → Prop} {Q : Value → Shared → Prop} {c : Value} {b : Bool}
inductive TyOf (K : PySem.W.Frag) (H : Hp) : V → Value → Prop where
  | non : TyOf K H .non (.type "NoneType")
  | bl (x : Bool) : TyOf K H (.bl x) (.type "bool")
  | int (i : Int) : TyOf K H (.int i) (.type "int")
  | str (x : Str) : TyOf K H (.str x) (.type "str")
  | flt (x : UInt64) : TyOf K H (.flt x) (.type "float")
  | lst {a : Addr} {xs : List V} (e : H a = some (.lst xs)) : TyOf K H (.ref a) (.type "list")
  | frz {a : Addr} {o : Obj} {xs : List V} (e : H a = some (.frz o (.lst xs))) : TyOf K H (.ref a) (.type "list")
  | tup {a : Addr} {xs : List V} (e : H a = some (.tup xs)) : TyOf K H (.ref a) (.type "tuple")
  | dK {a : Addr} {kvs : List (Key × V)} (e : H a = some (.dK kvs)) : TyOf K H (.ref a) (.type "dict")
  | dT {a : Addr} {kvs : List (List Key × V)} (e : H a = some (.dT kvs)) : TyOf K H (.ref a) (.type "dict")
  | ins {a C dx : Addr} {fs : List (Str × V)} (e : H a = some (.ins C dx fs)) (cl : Cls K C) (ha : PySem.W.findIn K (.ref C) "__class__" = some (some (.builtin "object.__class__")))
      (hn : PySem.W.specialIn K (.builtin "object.__class__") "__get__" = some (some (.builtin "getset_descriptor.__get__"))) (htk : PySem.W.takesIn K (.builtin "object.__class__") = some true)
      (hm : PySem.W.mroIn K C (.type "object") = some true) : TyOf K H (.ref a) (.ref C)
theorem isinst_ok {x : V} {u t : Value} (I : Inv X pins σ H s) (rx : RelV x u) (ty : TyOf X.K H x t) (e : PySem.W.kitOne X.K t c = some b) (h : ∀ tk, Q (.bool b) { s with toks := tk }) :
    wpAny (model X.prog X.w) A (call (.builtin "isinstance") [u, c]) Q E s := by
  cases ty with
  | non => cases (show u = Value.none from rx); exact PySem.W.kia_one PySem.W.kitx_none I.kIn True.intro e (fun z => nomatch z) h
  | bl y => cases (show u = Value.bool y from rx); exact PySem.W.kia_one PySem.W.kitx_bool I.kIn True.intro e (fun z => nomatch z) h
  | int i => obtain ⟨t, q⟩ := (show ∃ t, u = Value.int i t from rx); cases q; exact PySem.W.kia_one PySem.W.kitx_int I.kIn True.intro e (fun z => nomatch z) h
  | str y => obtain ⟨t, q⟩ := (show ∃ t, u = Value.str y t from rx); cases q; exact PySem.W.kia_one PySem.W.kitx_str I.kIn True.intro e (fun z => nomatch z) h
  | flt y => obtain ⟨t, q⟩ := (show ∃ t, u = Value.float y t from rx); cases q; exact PySem.W.kia_one PySem.W.kitx_float I.kIn True.intro e (fun z => nomatch z) h
  | @lst a xs ea =>
    cases (show u = Value.ref a from rx)
    obtain ⟨_, _, n, _, h1⟩ := (show ObjOk X.prog X.w H s.heap a (.lst xs) from I.hok a _ ea)
    exact PySem.W.kia_one PySem.W.kitx_list I.kIn ⟨_, h1, rfl⟩ e (fun z => nomatch z) h
  | @frz a ob xs ea =>
    cases (show u = Value.ref a from rx)
    obtain ⟨_, _, _, n, _, h1⟩ := (show ObjOk X.prog X.w H s.heap a (.frz ob (.lst xs)) from I.hok a _ ea)
    exact PySem.W.kia_one PySem.W.kitx_list I.kIn ⟨_, h1, rfl⟩ e (fun z => nomatch z) h
  | @tup a xs ea =>
    cases (show u = Value.ref a from rx)
    obtain ⟨_, _, _, p⟩ := (show ObjOk X.prog X.w H s.heap a (.tup xs) from I.hok a _ ea)
    obtain ⟨o, h1, h2, _⟩ := p
    exact PySem.W.kia_one PySem.W.kitx_tuple I.kIn ⟨o, h1, h2⟩ e (fun z => nomatch z) h
  | @dK a kvs ea =>
    cases (show u = Value.ref a from rx)
    obtain ⟨_, _, vs, _, p⟩ := (show ObjOk X.prog X.w H s.heap a (.dK kvs) from I.hok a _ ea)
    obtain ⟨o, es, ep, h1, h2, _⟩ := p
    exact PySem.W.kia_one PySem.W.kitx_dict I.kIn ⟨o, h1, h2.1⟩ e (fun z => nomatch z) h
  | @dT a kvs ea =>
    cases (show u = Value.ref a from rx)
    obtain ⟨_, _, xs, _, o, es, ep, h1, h2, _⟩ := (show ObjOk X.prog X.w H s.heap a (.dT kvs) from I.hok a _ ea)
    exact PySem.W.kia_one PySem.W.kitx_dict I.kIn ⟨o, h1, h2.1⟩ e (fun z => nomatch z) h
  | @ins a C dx fs ea cl ha hn htk hm =>
    cases (show u = Value.ref a from rx)
    obtain ⟨mA, O, _⟩ := ins_get I.hok ea
    obtain ⟨od, J, _⟩ := O.look
    exact PySem.W.kia_one (PySem.W.kitx_own (cl.get _) cl.hd ha hn htk hm) I.kIn J e (fun z => nomatch z) h
end
end L2
namespace L2
open PySem PySem.Spec PyProof.Rows
structure Room (k : Nat) (A : Around) : Prop where
  hd : A.handled = none
  dp : A.depth + 3 * k + 5 < recursionLimit
  un : A.units + 16 * k + 200 < cLine
theorem Room.mono {j k : Nat} {A : Around} (r : Room k A) (h : j ≤ k) : Room j A := ⟨r.hd, by have := r.dp; omega, by have := r.un; omega⟩
theorem Room.deeper {k : Nat} {A : Around} (r : Room (k + 1) A) (env : Env) : Room k (A.deeper env) :=
  ⟨r.hd, by have := r.dp; show A.depth + 1 + 3 * k + 5 < _; omega, by have := r.un; show A.units + 3 + 16 * k + 200 < _; omega⟩
theorem Room.in1 {k : Nat} {A : Around} (r : Room (k + 1) A) : Room k A.in1 :=
  ⟨r.hd, by have := r.dp; show A.depth + 3 * k + 5 < _; omega, by have := r.un; show A.units + 1 + 16 * k + 200 < _; omega⟩
theorem make_depth {A : Around} {C : Addr} {us : List Value} {kw : List (Str × Value)} : (A.under (.builtin "type.__call__" ⟨.ref C :: us, kw⟩)).depth = A.depth + 1 := by
  first | rfl | simp [Around.under, Code.weight, Code.isCreation, Code.isGuard, Code.isCaller, Code.frames, Code.isFrame, guardIds]
theorem make_units {A : Around} {C : Addr} {us : List Value} {kw : List (Str × Value)} : (A.under (.builtin "type.__call__" ⟨.ref C :: us, kw⟩)).units = A.units + 1 := by
  first | rfl | simp [Around.under, Code.cUnits, Code.frames, Code.isFrame]
theorem Room.make {k : Nat} {A : Around} (r : Room (k + 1) A) (C : Addr) (us : List Value) (kw : List (Str × Value)) : Room k (A.under (.builtin "type.__call__" ⟨.ref C :: us, kw⟩)) :=
  ⟨r.hd, by have := r.dp; rw [make_depth]; omega, by have := r.un; rw [make_units]; omega⟩
theorem Room.depth {k : Nat} {A : Around} (r : Room k A) : A.depth < recursionLimit := by have := r.dp; omega
theorem Room.units {k : Nat} {A : Around} (r : Room k A) : A.units + 64 < cLine := by have := r.un; omega
def tNil : TA := fun _ H Q => Q [] H
def tCons (ta : TE) (tr : TA) : TA := fun σ H Q => ta σ H fun x H1 => tr σ H1 fun xs H2 => Q (x :: xs) H2
section
variable {X : Cx} {e : Expr} {es : List Expr} {te : TE} {t : TA} {pos : Pos}
theorem pa_nil : PA X [] tNil := fun _ _ _ _ H Q I h => Calls.spliced_nil ⟨[], H, I, .nil, h⟩
theorem pa_cons (ha : PE X e te) (hr : PA X es t) (hs : starEach (e :: es) X.env = (false, eval e X.env) :: starEach es X.env := by rfl) : PA X (e :: es) (tCons te t) := by
  intro pos pins s σ H Q I h
  rw [hs]
  show wpAny _ _ (spliced ((false, eval e X.env) :: backTo pos (starEach es X.env))) _ _ s
  refine Calls.spliced_cons (thn (ha pins s σ H _ I h) fun u s1 ⟨x, H1, I1, r1, q1⟩ => ?_)
  exact thn (hr pos pins s1 σ H1 _ I1 q1) fun us s2 ⟨xs, H2, I2, r2, q2⟩ => ⟨x :: xs, H2, I2, .cons r1 r2, q2⟩
def tTup (t : TA) : TE := fun σ H Q => t σ H fun xs H1 => xs.length ≤ sizeLine ∧ ∀ p, H1 p = none → Q (.ref p) (upd H1 p (.tup xs))
def tLst (t : TA) : TE := fun σ H Q => t σ H fun xs H1 => xs.length ≤ sizeLine ∧ ∀ p, H1 p = none → Q (.ref p) (upd H1 p (.lst xs))
theorem pe_tup {x1} (h : PA X es t) : PE X (.Tuple es x1 pos) (tTup t) := by
  intro pins s σ H Q I hq
  refine wpAny_Tuple_spliced (thn (h pos pins s σ H _ I hq) fun us s1 ⟨xs, H1, I1, r, z, q⟩ => ⟨by rw [← r.length]; exact z, ?_⟩)
  have hf : H1 s1.heap.objs.size = none := I1.hok.fresh (Nat.le_refl _)
  refine ⟨.ref s1.heap.objs.size, upd H1 s1.heap.objs.size (.tup xs), I1.laid (t' := s1.toks) (fun b u e => Heap.get?_push_of_some _ e) (Nat.le_refl _) ?_, rfl, q _ hf⟩
  exact ⟨z, us, r, ⟨_, Heap.get?_push_size _ rfl, rfl, _, rfl⟩⟩
theorem pe_lst (h : PA X es t) : PE X (.List es pos) (tLst t) := by
  intro pins s σ H Q I hq
  refine wpAny_List_spliced (thn (h pos pins s σ H _ I hq) fun us s1 ⟨xs, H1, I1, r, z, q⟩ => ⟨by rw [← r.length]; exact z, ?_⟩)
  have hf : H1 s1.heap.objs.size = none := I1.hok.fresh (Nat.le_refl _)
  refine ⟨.ref s1.heap.objs.size, upd H1 s1.heap.objs.size (.lst xs), I1.laid (t' := s1.toks) (fun b u e => Heap.get?_push_of_some _ e) (Nat.le_refl _) ?_, rfl, q _ hf⟩
  exact ⟨z, us, 0, r, Heap.get?_push_size _ rfl⟩
end
abbrev Sp := List V → Hp → VK → XK → Prop
abbrev CXT := List Env → Hp → Shared → XK → Value → Shared → Prop
structure Env0 (P : Program) (w : World) (K : PySem.W.Frag) (mg : Str → Option Value) (base : Heap) (A : Around) (outer : List Env) (s : Shared) (H : Hp) : Prop where
  frames : A.frames = some outer
  mod : Mod K mg base
  bs : ∀ b o, base.get? b = some o → s.heap.get? b = some o ∧ H b = none
  bsz : base.objs.size ≤ s.heap.objs.size
  funs : s.heap.FunFrames base outer
  frf : ∀ b ∈ frs outer, H b = none
  hok : HOk P w H s.heap
  bare : AllBare s.gens
def CE (outer : List Env) (P : Program) (w : World) (H : Hp) (s : Shared) (Q : VK) (u : Value) (s' : Shared) : Prop :=
  ∃ v H', s'.os = s.os ∧ AllBare s'.gens ∧ Un (frs outer) [] H H' s.heap s'.heap ∧ HOk P w H' s'.heap ∧ RelV v u ∧ Q v H'
def CR (CX : CXT) (outer : List Env) (P : Program) (w : World) (H : Hp) (s : Shared) (Q : VK) (E : XK) (r : Result) (s' : Shared) : Prop :=
  match r with
  | .ok (.ret u) => CE outer P w H s Q u s'
  | .ok _ => False
  | .error e => CX outer H s E e s'
structure FnOk (P : Program) (w : World) (K : PySem.W.Frag) (mg : Str → Option Value) (base : Heap) (CX : CXT) (k : Nat) (f : Addr) (fd : FuncData) (ps : List Str) (sp : Sp) : Prop where
  len : ∀ vs H Q E, sp vs H Q E → vs.length = ps.length
  run : ∀ (A : Around) (outer : List Env) (s : Shared) (H : Hp) (args : Args) (us : List Value) (vs : List V) (Q : VK) (E : XK), Room k A → Env0 P w K mg base A outer s H → BindsTo s fd args (ps.zip us) → Vals vs us → sp vs H Q E →
    codeAny (model P w) A (.call (.ref f) args) (CR CX outer P w H s Q E) s
theorem FnOk.mono {P : Program} {w : World} {K : PySem.W.Frag} {mg : Str → Option Value} {base : Heap} {CX : CXT} {j k : Nat} {f : Addr} {fd : FuncData} {ps : List Str} {sp : Sp} (F : FnOk P w K mg base CX j f fd ps sp) (h : j ≤ k) :
    FnOk P w K mg base CX k f fd ps sp := ⟨F.len, fun A outer s H args us vs Q E hr => F.run A outer s H args us vs Q E (hr.mono h)⟩
theorem Env0.make {P : Program} {w : World} {K : PySem.W.Frag} {mg : Str → Option Value} {base : Heap} {A : Around} {outer : List Env} {s : Shared} {H : Hp} (e : Env0 P w K mg base A outer s H) (C : Addr) (us : List Value) (kw : List (Str × Value)) :
    Env0 P w K mg base (A.under (.builtin "type.__call__" ⟨.ref C :: us, kw⟩)) outer s H := ⟨by first | exact e.frames | (simpa [Around.under, Code.envs, Code.isFrame, pushEnvs] using e.frames), e.mod, e.bs, e.bsz, e.funs, e.frf, e.hok, e.bare⟩
theorem Env0.in1 {P : Program} {w : World} {K : PySem.W.Frag} {mg : Str → Option Value} {base : Heap} {A : Around} {outer : List Env} {s : Shared} {H : Hp} (e : Env0 P w K mg base A outer s H) :
    Env0 P w K mg base A.in1 outer s H := ⟨e.frames, e.mod, e.bs, e.bsz, e.funs, e.frf, e.hok, e.bare⟩
section
variable {X : Cx} {pins : List (Addr × Obj)} {σ : St} {H : Hp} {s s' : Shared}
theorem Inv.env0 (I : Inv X pins σ H s) : Env0 X.prog X.w X.K X.mg X.base X.A X.stack s H :=
  ⟨I.ok.frames, I.ok.mod, I.bs, Nat.le_trans I.ok.bsz I.sz, I.stack, I.stkFree, I.hok, I.bare⟩
theorem Inv.after {Q : VK} {u : Value} (I : Inv X pins σ H s) (h : CE X.stack X.prog X.w H s Q u s') : EP X pins σ Q u s' := by
  obtain ⟨v, H', os, bare, un, hok, r, q⟩ := h
  obtain ⟨hh, g, d, t, os'⟩ := s'
  obtain rfl : os' = s.os := os
  exact ⟨v, H', I.call (h' := hh) (g' := g) (d' := d) (t' := t) (ch := []) un hok bare (fun b z => absurd z (by simp)), r, q⟩
end
def tCall (sp : Sp) (dvs : List V) (E : XK) (t : TA) : TE := fun σ H Q => t σ H fun vs H1 => sp (vs ++ dvs) H1 Q E
def tMeth (C : Addr) (m : Str) (sp : Sp) (dvs : List V) (E : XK) (ta : TE) (t : TA) : TE := fun σ H Q => ta σ H fun x H1 => ∃ a dx fs, x = .ref a ∧ H1 a = some (.ins C dx fs) ∧ fs.lookup m = none ∧
  t σ H1 fun vs H2 => sp (x :: (vs ++ dvs)) H2 Q E
def tMake (C : Addr) (sp : Sp) (dvs : List V) (E : XK) (t : TA) : TE := fun σ H Q => t σ H fun vs H1 => ∀ x dx, H1 x = none → H1 dx = none → dx ≠ x →
  sp (.ref x :: (vs ++ dvs)) (upd (upd H1 dx (.own x)) x (.ins C dx [])) (fun v H2 => v = .non ∧ Q (.ref x) H2) E
def Binds (K : PySem.W.Frag) (fd : FuncData) (ps : List Str) (ds : List Value) : Prop :=
  ∀ (s : Shared) (us : List Value), K.In s.heap → (us ++ ds).length = ps.length → BindsTo s fd ⟨us, []⟩ (ps.zip (us ++ ds))
theorem Binds.all {K : PySem.W.Frag} {fd : FuncData} {ps : List Str} (h : ∀ us : List Value, us.length = ps.length → bindArgs fd ⟨us, []⟩ = pure (ps.zip us)) : Binds K fd ps [] := fun s us _ hl => by
  rw [List.append_nil] at hl ⊢
  exact .of_eq (h us hl)
def Passes (CX : CXT) (X : Cx) (E : XK) : Prop := ∀ (pins : List (Addr × Obj)) (σ : St) (H : Hp) (s : Shared) (e : Value) (s' : Shared), Inv X pins σ H s → CX X.stack H s E e s' → X.xe e s'
section
variable {X : Cx} {CX : CXT} {k : Nat} {f C : Addr} {fd : FuncData} {ps : List Str} {sp : Sp} {dvs : List V} {ds : List Value} {E : XK} {x m : Str} {p pos apos : Pos} {e o : Expr} {es : List Expr} {ta : TE} {t : TA}
theorem run_fn {pins : List (Addr × Obj)} {σ : St} {H : Hp} {s : Shared} {Q : VK} {us : List Value} {vs : List V} (F : FnOk X.prog X.w X.K X.mg X.base CX k f fd ps sp) (hr : Room k X.A) (hb : Binds X.K fd ps ds) (hd : Vals dvs ds) (hx : Passes CX X E)
    (I : Inv X pins σ H s) (r : Vals vs us) (h : sp (vs ++ dvs) H Q E) : wpAny (model X.prog X.w) X.A (call (.ref f) us) (EP X pins σ Q) X.xe s := by
  have r2 : Vals (vs ++ dvs) (us ++ ds) := r.append hd
  have hl : (us ++ ds).length = ps.length := by rw [← r2.length]; exact F.len _ _ _ _ h
  refine wpAny_call (codeAny_mono (F.run X.A X.stack s H ⟨us, []⟩ (us ++ ds) (vs ++ dvs) Q E hr I.env0 (hb s us I.kIn hl) r2 h) fun r s' hq => ?_)
  cases r with
  | error e => exact hx pins σ H s e s' I hq
  | ok fl =>
    cases fl with
    | ret u => exact I.after hq
    | next => exact False.elim hq
    | brk => exact False.elim hq
    | cont => exact False.elim hq
theorem pe_call (F : FnOk X.prog X.w X.K X.mg X.base CX k f fd ps sp) (hr : Room k X.A) (hg : Gl X x) (hm : X.mg x = some (.ref f)) (hk : PySem.W.keepIn X.K (.ref f) = true) (hb : Binds X.K fd ps ds) (hd : Vals dvs ds) (hx : Passes CX X E)
    (ha : PA X (e :: es) t) (hdb : (x == ("__debug__" : Str)) = false := by decide) (he : starEach (e :: es) X.env = (false, eval e X.env) :: starEach es X.env := by rfl) (hpl : (backTo pos (starEach es X.env)).any (·.1) = false := by rfl) :
    PE X (.Call (.Name x p) (e :: es) [] pos) (tCall sp dvs E t) := by
  intro pins s σ H Q I h
  refine wpAny_Call_Name_kw (ld_glob I hg hm ?_ hdb)
  refine PySem.W.callWith_K (h₀ := X.base) I.ok.mod.kin hk (thn (ha pos pins s σ H _ I h) fun us s1 ⟨vs, H1, I1, r, q⟩ => ⟨I1.kIn, ?_⟩) he hpl
  exact run_fn F hr hb hd hx I1 r q
theorem pe_meth {pl : Sem Bool} (he : PE X o ta) (c : Cls X.K C) (hm : Meth X.K C m f) (F : FnOk X.prog X.w X.K X.mg X.base CX k f fd ps sp) (hr : Room k X.A) (hb : Binds X.K fd ps ds) (hd : Vals dvs ds) (hx : Passes CX X E) (ha : PA X (e :: es) t)
    (hst : starEach (e :: es) X.env = (false, eval e X.env) :: starEach es X.env := by rfl) (hpl : (backTo pos (starEach es X.env)).any (·.1) = false := by rfl)
    (ht : eval (.Call (.Attribute o m apos) (e :: es) [] pos) X.env = (do
      let ov ← eval o X.env
      standAt apos.atName
      let (f, first) ← holding [ov] (getMethod ov m pl)
      callWith pos f first (backTo pos (starEach (e :: es) X.env)) (backToKw pos (keywordEach [] X.env))) := by rfl) :
    PE X (.Call (.Attribute o m apos) (e :: es) [] pos) (tMeth C m sp dvs E ta t) := by
  intro pins s σ H Q I h
  refine PySem.W.methodCall_KW (pl := pl) (thn (he pins s σ H _ I h) fun u s1 ⟨x, H1, I1, rx, a, dx, fs, ex, ea, l, q⟩ => ?_) ht
  subst ex
  obtain rfl : u = Value.ref a := rx
  refine getmeth_ok I1 ea c hm l ?_
  refine PySem.W.callWith_K (first := [.ref a]) (h₀ := X.base) I.ok.mod.kin hm.kp (thn (ha pos pins s1 σ H1 _ I1 q) fun us s2 ⟨vs, H2, I2, r, q2⟩ => ⟨I2.kIn, ?_⟩) hst hpl
  exact run_fn (us := .ref a :: us) (vs := .ref a :: vs) F hr hb hd hx I2 (.cons rfl r) q2
theorem pe_meth0 {pl : Sem Bool} (he : PE X o ta) (c : Cls X.K C) (hm : Meth X.K C m f) (F : FnOk X.prog X.w X.K X.mg X.base CX k f fd ps sp) (hr : Room k X.A) (hb : Binds X.K fd ps ds) (hd : Vals dvs ds) (hx : Passes CX X E)
    (ht : eval (.Call (.Attribute o m apos) [] [] pos) X.env = (do
      let ov ← eval o X.env
      standAt apos.atName
      let (f, first) ← holding [ov] (getMethod ov m pl)
      callWith pos f first (backTo pos (starEach [] X.env)) (backToKw pos (keywordEach [] X.env))) := by rfl) :
    PE X (.Call (.Attribute o m apos) [] [] pos) (tMeth C m sp dvs E ta tNil) := by
  intro pins s σ H Q I h
  refine PySem.W.methodCall_KW (pl := pl) (thn (he pins s σ H _ I h) fun u s1 ⟨x, H1, I1, rx, a, dx, fs, ex, ea, l, q⟩ => ?_) ht
  subst ex
  obtain rfl : u = Value.ref a := rx
  refine getmeth_ok I1 ea c hm l ?_
  exact PySem.W.callWith_K0 (first := [.ref a]) I1.kIn hm.kp (run_fn (us := [.ref a]) (vs := [.ref a]) F hr hb hd hx I1 (.cons rfl .nil) q)
structure Mk (K : PySem.W.Frag) (C f : Addr) : Prop where
  makes : PySem.W.makesIn K C = true
  init : PySem.W.findIn K (.ref C) "__init__" = some (some (.ref f))
  fn : PySem.W.isFn K (.ref f) = true
  kp : PySem.W.keepIn K (.ref C) = true
theorem run_make {pins : List (Addr × Obj)} {σ : St} {H : Hp} {s : Shared} {Q : VK} {us : List Value} {vs : List V} (M : Mk X.K C f) (F : FnOk X.prog X.w X.K X.mg X.base CX k f fd ps sp) (hr : Room (k + 1) X.A) (hb : Binds X.K fd ps ds) (hd : Vals dvs ds)
    (hx : Passes CX X E) (I : Inv X pins σ H s) (r : Vals vs us)
    (h : ∀ x dx, H x = none → H dx = none → dx ≠ x → sp (.ref x :: (vs ++ dvs)) (upd (upd H dx (.own x)) x (.ins C dx [])) (fun v H2 => v = .non ∧ Q (.ref x) H2) E) :
    wpAny (model X.prog X.w) X.A (call (.ref C) us) (EP X pins σ Q) X.xe s := by
  have hq := h (s.heap.objs.size + 1) s.heap.objs.size (I.hok.fresh (Nat.le_succ _)) (I.hok.fresh (Nat.le_refl _)) (Nat.ne_of_lt (Nat.lt_succ_self _))
  have I2 := Inv.made (C := C) I
  have r2 : Vals (V.ref (s.heap.objs.size + 1) :: (vs ++ dvs)) (Value.ref (s.heap.objs.size + 1) :: (us ++ ds)) := .cons rfl (r.append hd)
  have hl : (Value.ref (s.heap.objs.size + 1) :: us ++ ds).length = ps.length := by
    have e := r2.length
    rw [F.len _ _ _ _ hq] at e
    exact e.symm
  refine wpAny_call (make_map (f := f) I.kIn M.makes M.init (beq_iff_eq.mp M.fn) (codeAny_mono (F.run _ X.stack _ _ ⟨Value.ref (s.heap.objs.size + 1) :: us, []⟩ (Value.ref (s.heap.objs.size + 1) :: (us ++ ds)) _ _ E (hr.make C us [])
    (I2.env0.make C us []) (hb _ (Value.ref (s.heap.objs.size + 1) :: us) I2.kIn hl) r2 hq) fun r s' hq' => ?_))
  cases r with
  | error e => exact hx pins σ _ _ e s' I2 hq'
  | ok fl =>
    cases fl with
    | ret u =>
      obtain ⟨v, H', I3, rv, ev, q3⟩ := I2.after hq'
      subst ev
      exact ⟨rv, ⟨V.ref (s.heap.objs.size + 1), H', I3, rfl, q3⟩⟩
    | next => exact False.elim hq'
    | brk => exact False.elim hq'
    | cont => exact False.elim hq'
theorem pe_make (M : Mk X.K C f) (F : FnOk X.prog X.w X.K X.mg X.base CX k f fd ps sp) (hr : Room (k + 1) X.A) (hg : Gl X x) (hm : X.mg x = some (.ref C)) (hb : Binds X.K fd ps ds) (hd : Vals dvs ds) (hx : Passes CX X E)
    (ha : PA X (e :: es) t) (hdb : (x == ("__debug__" : Str)) = false := by decide) (he : starEach (e :: es) X.env = (false, eval e X.env) :: starEach es X.env := by rfl) (hpl : (backTo pos (starEach es X.env)).any (·.1) = false := by rfl) :
    PE X (.Call (.Name x p) (e :: es) [] pos) (tMake C sp dvs E t) := by
  intro pins s σ H Q I h
  refine wpAny_Call_Name_kw (ld_glob I hg hm ?_ hdb)
  refine PySem.W.callWith_K (h₀ := X.base) I.ok.mod.kin M.kp (thn (ha pos pins s σ H _ I h) fun us s1 ⟨vs, H1, I1, r, q⟩ => ⟨I1.kIn, ?_⟩) he hpl
  exact run_make M F hr hb hd hx I1 r q
theorem pe_make0 (M : Mk X.K C f) (F : FnOk X.prog X.w X.K X.mg X.base CX k f fd ps sp) (hr : Room (k + 1) X.A) (hg : Gl X x) (hm : X.mg x = some (.ref C)) (hb : Binds X.K fd ps ds) (hd : Vals dvs ds) (hx : Passes CX X E)
    (hdb : (x == ("__debug__" : Str)) = false := by decide) : PE X (.Call (.Name x p) [] [] pos) (tMake C sp dvs E tNil) := by
  intro pins s σ H Q I h
  refine wpAny_Call_Name_kw (ld_glob I hg hm ?_ hdb)
  exact PySem.W.callWith_K0 I.kIn M.kp (run_make (us := []) M F hr hb hd hx I .nil h)
end
section
variable {X : Cx} {CX : CXT} {k : Nat} {f C : Addr} {fd : FuncData} {ps ks : List Str} {sp : Sp} {E : XK} {x m : Str} {p pos apos kpos : Pos} {e o : Expr} {es : List Expr} {kws : List Keyword} {te ta : TE} {t tk : TA} {nm : Option Str}
variable {g : List Value → List Value → List Value} {gV : List V → List V → List V}
end
structure FnScope (N P : List Str) (sc : Scope) : Prop where
  kind : sc.kind = .function
  co : sc.isCoroutine = false
  gen : sc.isGenerator = false
  nd : N.Nodup
  pre : N.take P.length = P
  par : ∀ x ∈ P, sc.names.lookup x = some .local ∨ sc.names.lookup x = some .cell
  nofree : ∀ y ∈ sc.names, y.2 ≠ .free
theorem bindL_out {kindOf : Str → Option NameKind} {x : Str} : ∀ {binds : List (Str × Value)} {m : Str → Option Value}, (∀ v, (x, v) ∉ binds) → bindL kindOf binds m x = m x
  | [], _, _ => rfl
  | (n, v) :: r, m, h => by
    unfold bindL
    rw [bindL_out fun w hw => h w (List.mem_cons_of_mem _ hw)]
    split
    · have : x ≠ n := by rintro rfl; exact h v List.mem_cons_self
      simp [this]
    · rfl
theorem bindC_out {kindOf : Str → Option NameKind} {x : Str} : ∀ {binds : List (Str × Value)} {m : Str → Option Value}, (∀ v, (x, v) ∉ binds) → bindC kindOf binds m x = m x
  | [], _, _ => rfl
  | (n, v) :: r, m, h => by
    unfold bindC
    rw [bindC_out fun w hw => h w (List.mem_cons_of_mem _ hw)]
    split
    · rfl
    · have : x ≠ n := by rintro rfl; exact h v List.mem_cons_self
      simp [this]
theorem bindL_get {kindOf : Str → Option NameKind} {x : Str} {v : Value} : ∀ {P : List Str} {vs : List Value} {i : Nat} {m : Str → Option Value}, P.Nodup → P[i]? = some x → vs[i]? = some v → kindOf x = some .local →
    bindL kindOf (P.zip vs) m x = some v
  | [], _, _, _, _, h, _, _ => by simp at h
  | _ :: _, [], _, _, _, _, h, _ => by simp at h
  | p :: P, w :: vs, 0, m, nd, h1, h2, hk => by
    simp at h1 h2; subst h1; subst h2
    show bindL kindOf ((p, w) :: P.zip vs) m p = _
    unfold bindL
    rw [bindL_out fun v hv => (List.nodup_cons.mp nd).1 (List.of_mem_zip hv).1, if_pos hk]
    simp
  | p :: P, w :: vs, i + 1, m, nd, h1, h2, hk => by
    show bindL kindOf ((p, w) :: P.zip vs) m x = _
    unfold bindL
    exact bindL_get (i := i) (List.nodup_cons.mp nd).2 (by simpa using h1) (by simpa using h2) hk
theorem bindC_get {kindOf : Str → Option NameKind} {x : Str} {v : Value} : ∀ {P : List Str} {vs : List Value} {i : Nat} {m : Str → Option Value}, P.Nodup → P[i]? = some x → vs[i]? = some v → kindOf x ≠ some .local →
    bindC kindOf (P.zip vs) m x = some v
  | [], _, _, _, _, h, _, _ => by simp at h
  | _ :: _, [], _, _, _, _, h, _ => by simp at h
  | p :: P, w :: vs, 0, m, nd, h1, h2, hk => by
    simp at h1 h2; subst h1; subst h2
    show bindC kindOf ((p, w) :: P.zip vs) m p = _
    unfold bindC
    rw [bindC_out fun v hv => (List.nodup_cons.mp nd).1 (List.of_mem_zip hv).1, if_neg hk]
    simp
  | p :: P, w :: vs, i + 1, m, nd, h1, h2, hk => by
    show bindC kindOf ((p, w) :: P.zip vs) m x = _
    unfold bindC
    exact bindC_get (i := i) (List.nodup_cons.mp nd).2 (by simpa using h1) (by simpa using h2) hk
def start (N : List Str) (vs : List V) : St := vs.map some ++ List.replicate (N.length - vs.length) none
def cxOf (CX : CXT) (P : Program) (w : World) (K : PySem.W.Frag) (mg : Str → Option Value) (base : Heap) (N : List Str) (qual : Str) (scope : Scope) (f : Addr) (cd : Value) (A : Around) (outer : List Env) (s : Shared) (H : Hp) (E : XK) : Cx where
  prog := P
  w := w
  K := K
  mg := mg
  base := base
  A := A.deeper (envOfC qual scope s.heap.objs.size f cd)
  N := N
  s_0 := s
  H_0 := H
  env := envOfC qual scope s.heap.objs.size f cd
  outer := outer
  stack := envOfC qual scope s.heap.objs.size f cd :: outer
  ex := []
  calm := true
  fn := fun _ => true
  pn := []
  xe := fun e s' => wpAny (model P w) (A.deeper (envOfC qual scope s.heap.objs.size f cd)) (leaving (envOfC qual scope s.heap.objs.size f cd) e) (fun _ s'' => CX outer H s E e s'') (fun e' s'' => CX outer H s E e' s'') s'
theorem cell_has {sc : Scope} {n : Nat} {x : Str} (h : sc.names.lookup x = some .cell) : ∃ c, (cellsFrom n sc.names []).lookup x = some c := by
  have q := PySem.W.cellsFrom_some sc.names n [] (.inl h)
  exact Option.isSome_iff_exists.mp q
theorem inv_start {CX : CXT} {P : Program} {w : World} {K : PySem.W.Frag} {mg : Str → Option Value} {base : Heap} {N ps : List Str} {qual : Str} {scope : Scope} {f : Addr} {cd : Value} {A : Around} {outer : List Env} {s s1 : Shared} {H : Hp} {E : XK} {us : List Value} {vs : List V}
    (S : FnScope N ps scope) (hd : A.handled = none) (e0 : Env0 P w K mg base A outer s H) (hl : vs.length = ps.length) (r : Vals vs us)
    (x : InCallC s s.heap.objs.size (bindL (envOfC qual scope s.heap.objs.size f cd).kindOf (ps.zip us) fun _ => none) (cellsFrom (s.heap.objs.size + 1) scope.names []) (bindC (envOfC qual scope s.heap.objs.size f cd).kindOf (ps.zip us) fun _ => none) s1) :
    Inv (cxOf CX P w K mg base N qual scope f cd A outer s H E) [] (start N vs) H s1 := by
  have hpl : ps.length ≤ N.length := by have := congrArg List.length S.pre; rw [List.length_take] at this; omega
  obtain ⟨h1, tk, rfl, hk⟩ := x.done
  have noA : ∀ b : Addr, b ∉ (cxOf CX P w K mg base N qual scope f cd A outer s H E).ex := fun b z => absurd (show b ∈ ([] : List Addr) from z) (by simp)
  refine ⟨⟨e0.mod, S.kind, rfl, rfl, Nat.le_refl _, fun y z c h1 h2 => ?_, fun y hy => ?_, fun y c _ h => ?_, fun _ => hd, Around.frames_deeper e0.frames, .inr ⟨rfl, rfl⟩, fun b z => absurd z (noA b), e0.bs, e0.bsz, fun b _ _ => noA b, fun b z => absurd z (noA b), e0.funs, e0.frf⟩,
    rfl, e0.bare, Un.kept hk, ⟨_, x.toInCall.ns, fun i y v h1 h2 h3 => ?_⟩, fun y c h => ⟨_, x.cell y c h⟩, e0.hok.fresh (Nat.le_refl _), fun y c h => ?_, fun p hp => absurd (show p ∈ ([] : List (Addr × Obj)) from hp) (by simp), e0.hok.kept hk, ?_⟩
  · exact name_of_addr x.apart (PySem.mem_of_lookup h1) (PySem.mem_of_lookup h2)
  · have hy : scope.names.lookup y = some .cell ∨ scope.names.lookup y = some .free := hy
    rcases hy with hy | hy
    · exact cell_has hy
    · exact absurd rfl (S.nofree _ (PySem.mem_of_lookup hy))
  · exact Nat.le_of_lt (x.above y c (PySem.mem_of_lookup h))
  · have hi : i < vs.length := by
      unfold start at h2
      by_cases hi : i < vs.length
      · exact hi
      · rw [List.getElem?_append_right (by simpa using hi)] at h2
        rw [List.getElem?_replicate] at h2
        split at h2 <;> cases h2
    have ha : vs[i]? = some v := by
      unfold start at h2
      rw [List.getElem?_append_left (by simpa using hi), List.getElem?_map] at h2
      cases e : vs[i]? with
      | none => rw [e] at h2; cases h2
      | some a => rw [e] at h2; cases h2; rfl
    obtain ⟨u, hu, rv⟩ := r.get ha
    have hp : ps[i]? = some y := by
      rw [← S.pre, List.getElem?_take_of_lt (by omega)]; exact h1
    have ndP : ps.Nodup := by rw [← S.pre]; exact S.nd.sublist (List.take_sublist _ _)
    refine ⟨u, rv, ?_⟩
    rcases S.par y (List.mem_of_getElem? hp) with k | k
    · exact .inl ⟨k, bindL_get ndP hp hu k⟩
    · obtain ⟨c, e⟩ := cell_has (n := s.heap.objs.size + 1) k
      refine .inr ⟨.inl k, c, e, ?_⟩
      have q := x.cell y c e
      rw [bindC_get ndP hp hu (by show scope.names.lookup y ≠ _; rw [k]; decide)] at q
      exact q
  · exact e0.hok.fresh (Nat.le_of_lt (x.above y c (PySem.mem_of_lookup h)))
  · unfold start
    show _ = N.length
    rw [List.length_append, List.length_map, List.length_replicate]
    omega
theorem fn_of {CX : CXT} {P : Program} {w : World} {K : PySem.W.Frag} {mg : Str → Option Value} {base : Heap} {k : Nat} {f : Addr} {name qual : Str} {params : Arguments} {body : List Stmt} {scope : Scope} {dV kV doc pm cdv ct oc : Value} {an od : Option Addr}
    {osl : Array (Option Value)} {N ps : List Str} {sp : Sp} (lk : K.lookup f = some ⟨oc, od, .func (PySem.W.fnOf name qual params body scope dV kV doc pm an cdv ct), osl⟩) (hcd : PySem.W.codeIn K cdv qual = true) (S : FnScope N ps scope)
    (len : ∀ vs H Q E, sp vs H Q E → vs.length = ps.length)
    (hbody : ∀ (A : Around) (outer : List Env) (s : Shared) (H : Hp) (vs : List V) (Q : VK) (E : XK), Room k (A.deeper (envOfC qual scope s.heap.objs.size f cdv)) → sp vs H Q E →
      ∃ t, PSs (cxOf CX P w K mg base N qual scope f cdv A outer s H E) body t ∧ t { nx := fun _ H' => Q .non H', rt := Q } (start N vs) H) :
    FnOk P w K mg base CX (k + 1) f (PySem.W.fnOf name qual params body scope dV kV doc pm an cdv ct) ps sp := by
  refine ⟨len, fun A outer s H args us vs Q E hr e0 hb r hsp => ?_⟩
  have hl := len _ _ _ _ hsp
  have KX : K.In s.heap := e0.mod.kin.keeps fun b o e => (e0.bs b o e).1
  have lim : s.heap.NoLimit := e0.mod.nolimit.keeps fun b o e => (e0.bs b o e).1
  have hkind : ∀ y ∈ ps.zip us, scope.names.lookup y.1 = some .local ∨ (scope.names.lookup y.1 = some .cell ∧ ((cellsFrom (s.heap.objs.size + 1) scope.names []).lookup y.1).isSome = true) := fun ⟨n, v⟩ hy => by
    rcases S.par n (List.of_mem_zip hy).1 with q | q
    · exact .inl q
    · exact .inr ⟨q, PySem.W.cellsFrom_some _ _ _ (.inl q)⟩
  refine codeAny_call_function hr.depth (KX _ _ lk) rfl S.co S.gen rfl (PySem.W.codeRec_of KX hcd) (hb _ _ _ _ ?_)
  refine wpAny_newFunctionEnv_cells S.kind hkind fun env he s1 x => ?_
  subst he
  refine ⟨lim.keeps x.toInCall.keep, codeAny_func ?_⟩
  obtain ⟨t, ht, hq⟩ := hbody A outer s H vs Q E (hr.deeper _) hsp
  have I : Inv (cxOf CX P w K mg base N qual scope f cdv A outer s H E) [] (start N vs) H s1 := inv_start S hr.hd e0 hl r x
  refine wpAny_mono (ht [] s1 (start N vs) H _ I hq) (fun fl s' hs => ?_) fun e s' hs => hs
  have fin : ∀ {σ' : St} {H' : Hp} {v : V} {u : Value}, Inv (cxOf CX P w K mg base N qual scope f cdv A outer s H E) [] σ' H' s' → RelV v u → Q v H' → CE outer P w H s Q u s' :=
    fun {σ' H' v u} J rv q => ⟨v, H', J.os, J.bare, J.base, J.hok, rv, q⟩
  cases fl with
  | ret u =>
    obtain ⟨v, σ', H', J, rv, q⟩ := hs
    exact fin J rv q
  | next =>
    obtain ⟨σ', H', J, q⟩ := hs
    exact fin (v := V.non) (u := Value.none) J rfl q
  | brk =>
    obtain ⟨_, _, _, q⟩ := hs
    exact False.elim q
  | cont =>
    obtain ⟨_, _, _, q⟩ := hs
    exact False.elim q
end L2
namespace L2
open PySem PySem.Spec PyProof.Rows
section
variable {X : Cx} {x : Str} {p pos : Pos} {e : Expr} {es : List Expr} {t : TA} {id T : String} {r : List V → Hp → VK → Prop}
def tCB (r : List V → Hp → VK → Prop) (t : TA) : TE := fun σ H Q => t σ H fun vs H1 => r vs H1 Q
theorem pe_callB (hc : CallR X (.builtin id) r) (hg : Gl X x) (hm : X.mg x = none) (hv : bootBuiltins x = some (.builtin id)) (ha : PA X (e :: es) t) (hn : x ≠ "__name__" := by decide) (hdb : (x == ("__debug__" : Str)) = false := by decide)
    (he : starEach (e :: es) X.env = (false, eval e X.env) :: starEach es X.env := by rfl) (hpl : (backTo pos (starEach es X.env)).any (·.1) = false := by rfl) : PE X (.Call (.Name x p) (e :: es) [] pos) (tCB r t) := by
  intro pins s σ H Q I h
  refine wpAny_Call_Name_kw (ld_blt I hg hm hv ?_ hn hdb)
  exact PyProof.Rows.callWith_builtin1 (thn (ha pos pins s σ H _ I h) fun us s1 ⟨vs, H1, I1, r1, q1⟩ => hc pins s1 σ H1 vs us Q I1 r1 q1) he hpl
theorem pe_callTy (hc : CallR X (.type T) r) (hg : Gl X x) (hm : X.mg x = none) (hv : bootBuiltins x = some (.type T)) (ha : PA X (e :: es) t) (hn : x ≠ "__name__" := by decide) (hdb : (x == ("__debug__" : Str)) = false := by decide)
    (he : starEach (e :: es) X.env = (false, eval e X.env) :: starEach es X.env := by rfl) (hpl : (backTo pos (starEach es X.env)).any (·.1) = false := by rfl) : PE X (.Call (.Name x p) (e :: es) [] pos) (tCB r t) := by
  intro pins s σ H Q I h
  refine wpAny_Call_Name_kw (ld_blt I hg hm hv ?_ hn hdb)
  exact PyProof.Rows.callWith_type1 (thn (ha pos pins s σ H _ I h) fun us s1 ⟨vs, H1, I1, r1, q1⟩ => hc pins s1 σ H1 vs us Q I1 r1 q1) he hpl
end
end L2
namespace HT
open PySem PyProof.Rows
section
open PySem.SeqAt
open PySem.AutoSeq1 (wpAny_loadPart')
open PySem.MeetsSeq PySem.MeetsSeq2 PySem.MeetsSeq3
end
section
variable {prog : Program} {w : World} {A : Around} {E : Value → Shared → Prop} {s : Shared}
def sIx (n d : Nat) : Option Int → Nat
  | none => d
  | some v => if v < 0 then (v + (n : Int)).toNat else min v.toNat n
theorem sIx_none (n d : Nat) : sIx n d none = d := rfl
theorem sIx_nat (n d k : Nat) : sIx n d (some (k : Int)) = min k n := by
  show (if (k : Int) < 0 then ((k : Int) + (n : Int)).toNat else min (k : Int).toNat n) = min k n
  rw [if_neg (by omega), Int.toNat_natCast]
end
end HT
namespace L2
open PySem PySem.Spec PyProof.Rows
abbrev TO := St → Hp → (Option Int → Hp → Prop) → Prop
def PO (X : Cx) (e : Option Expr) (t : TO) : Prop :=
  ∀ (pins : List (Addr × Obj)) (s : Shared) (σ : St) (H : Hp) (Q : Option Int → Hp → Prop), Inv X pins σ H s → t σ H Q →
    wpAny (model X.prog X.w) X.A (evalPart e X.env) (fun u s' => ∃ o H', Inv X pins σ H' s' ∧ IsPart u o ∧ Q o H') X.xe s
def tNoPart : TO := fun _ H Q => Q none H
def tPart (t : TE) : TO := fun σ H Q => t σ H fun x H1 => ∃ i, x = .int i ∧ Q (some i) H1
section
variable {X : Cx} {e : Expr} {te : TE} {lo hi : Option Expr} {tl th : TO} {pos p2 : Pos}
theorem po_none : PO X none tNoPart := by
  intro pins s σ H Q I h
  rw [evalPart_none]
  exact wpAny_pure ⟨none, H, I, .none, h⟩
theorem po_some (h : PE X e te) : PO X (some e) (tPart te) := by
  intro pins s σ H Q I hw
  rw [evalPart_some]
  refine thn (h pins s σ H _ I hw) fun u s1 ⟨x, H1, I1, r1, q1⟩ => ?_
  obtain ⟨i, rfl, q⟩ := q1
  obtain ⟨t, rfl⟩ := r1
  exact ⟨some i, H1, I1, .int i t, q⟩
def SlR (X : Cx) (r : V → Option Int → Option Int → Hp → VK → Prop) : Prop :=
  ∀ (pins : List (Addr × Obj)) (s : Shared) (σ : St) (H : Hp) (x : V) (v vl vu : Value) (lo hi : Option Int) (sl : Addr) (Q : VK), Inv X pins σ H s → RelV x v → s.heap.IsSliceOf sl vl vu .none → IsPart vl lo → IsPart vu hi → r x lo hi H Q →
    ∃ T id, typeLookup (.type T) "__getitem__" = pure (some (.builtin id)) ∧ s.TypeIs v T ∧ wpAny (model X.prog X.w) X.A (getItem v (.ref sl)) (EP X pins σ Q) X.xe s
def tSl (r : V → Option Int → Option Int → Hp → VK → Prop) (te : TE) (tl th : TO) : TE := fun σ H Q => te σ H fun x H1 => tl σ H1 fun l H2 => th σ H2 fun u H3 => r x l u H3 Q
theorem pe_slice {r : V → Option Int → Option Int → Hp → VK → Prop} (hr : SlR X r) (he : PE X e te) (hl : PO X lo tl) (hu : PO X hi th) : PE X (.Subscript e (.Slice lo hi none p2) pos) (tSl r te tl th) := by
  intro pins s σ H Q I h
  refine Subscript_ (thn (he pins s σ H _ I h) fun v s1 ⟨x, H1, I1, r1, q1⟩ => ?_)
  refine wpAny_Slice (thn (hl pins s1 σ H1 _ I1 q1) fun vl s2 ⟨l, H2, I2, pl, q2⟩ => thn (hu pins s2 σ H2 _ I2 q2) fun vu s3 ⟨u, H3, I3, pu, q3⟩ => ?_)
  rw [evalPart_none]
  refine wpAny_pure ?_
  have I4 : Inv X pins σ H3 { s3 with heap := s3.heap.push { cls := .type "slice", data := .fields #[vl, vu, .none] } } := I3.kept (t' := s3.toks) fun b ob q => Heap.get?_push_of_some _ q
  obtain ⟨T, id, hT, ht, hg⟩ := hr pins { s3 with heap := s3.heap.push { cls := .type "slice", data := .fields #[vl, vu, .none] } } σ H3 x v vl vu l u s3.heap.objs.size Q I4 r1 (Heap.IsSliceOf.new ..) pl pu q3
  show wpAny (model X.prog X.w) X.A (subscriptTail e (.Slice lo hi none p2) v (.ref s3.heap.objs.size)) (EP X pins σ Q) X.xe { s3 with heap := s3.heap.push { cls := .type "slice", data := .fields #[vl, vu, .none] } }
  exact tail_any (ops := [.ref s3.heap.objs.size, v]) ht hT hg (by with_unfolding_all rfl)
def cutV (xs : List V) (lo hi : Option Int) : List V := (xs.drop (HT.sIx xs.length 0 lo)).take (HT.sIx xs.length xs.length hi - HT.sIx xs.length 0 lo)
theorem cutV_length (xs : List V) (lo hi : Option Int) : (cutV xs lo hi).length ≤ xs.length := by
  unfold cutV
  rw [List.length_take, List.length_drop]
  omega
end
end L2
namespace L2
open PySem PySem.Spec PyProof.Rows
def ixN (n : Nat) (i : Int) : Option Nat := if 0 ≤ i then (if i < n then some i.toNat else none) else if -(n : Int) ≤ i then some (i + n).toNat else none
def atI {α : Type} (xs : List α) (i : Int) : Option α := (ixN xs.length i).bind fun j => xs[j]?
theorem ixN_seq {n : Nat} {i : Int} {j : Nat} (h : ixN n i = some j) : seqIndex? i n = some j ∧ j < n ∧ -(n : Int) ≤ i ∧ i < n := by
  unfold ixN at h
  by_cases h0 : 0 ≤ i
  · rw [if_pos h0] at h
    by_cases h1 : i < n
    · rw [if_pos h1] at h
      have e : i.toNat = j := Option.some.inj h
      exact ⟨by rw [seqIndex_of h0 h1, e], by omega, by omega, h1⟩
    · rw [if_neg h1] at h; cases h
  · rw [if_neg h0] at h
    by_cases h1 : -(n : Int) ≤ i
    · rw [if_pos h1] at h
      have e : (i + n).toNat = j := Option.some.inj h
      exact ⟨by rw [seqIndex_neg (by omega) h1, e], by omega, h1, by omega⟩
    · rw [if_neg h1] at h; cases h
theorem atI_get {α : Type} {xs : List α} {i : Int} {v : α} (h : atI xs i = some v) : ∃ j, seqIndex? i xs.length = some j ∧ xs[j]? = some v ∧ j < xs.length ∧ -(xs.length : Int) ≤ i ∧ i < xs.length := by
  unfold atI at h
  cases e : ixN xs.length i with
  | none => rw [e] at h; cases h
  | some j =>
    rw [e] at h
    obtain ⟨h1, h2, h3, h4⟩ := ixN_seq e
    exact ⟨j, h1, h, h2, h3, h4⟩
theorem atI_nat {α : Type} {xs : List α} {j : Nat} {v : α} (h : xs[j]? = some v) : atI xs (j : Int) = some v := by
  have hj : j < xs.length := (List.getElem?_eq_some_iff.mp h).1
  have e : ixN xs.length (j : Int) = some j := by
    unfold ixN
    rw [if_pos (by omega), if_pos (by omega)]; simp
  unfold atI; rw [e]; exact h
theorem atI_last {α : Type} (xs : List α) (v : α) : atI (xs ++ [v]) (-1) = some v := by
  have hl : (xs ++ [v]).length = xs.length + 1 := by simp
  have e : ixN (xs ++ [v]).length (-1) = some xs.length := by
    unfold ixN
    rw [hl, if_neg (by decide), if_pos (by omega)]
    congr 1
    omega
  unfold atI
  rw [e]
  show (xs ++ [v])[xs.length]? = some v
  simp
def PlainIx (b : Expr) : Prop := ∀ o i, subscripted b false o i = operate [o, i] (getItem o i)
def IxR (X : Cx) (r : R2) : Prop :=
  ∀ (value slice : Expr) (pins : List (Addr × Obj)) (s : Shared) (σ : St) (H : Hp) (x y : V) (v u : Value) (Q : VK), Inv X pins σ H s → RelV x v → RelV y u → r x y H Q →
    subscripted slice false v u = operate [v, u] (getItem v u) → wpAny (model X.prog X.w) X.A (subscriptTail value slice v u) (EP X pins σ Q) X.xe s
def MtR (X : Cx) (id : String) (r : V → List V → Hp → VK → Prop) : Prop :=
  ∀ (pins : List (Addr × Obj)) (s : Shared) (σ : St) (H : Hp) (x : V) (xs : List V) (v : Value) (us : List Value) (Q : VK), Inv X pins σ H s → RelV x v → Vals xs us → r x xs H Q →
    wpAny (model X.prog X.w) X.A (call (.builtin id) (v :: us)) (EP X pins σ Q) X.xe s
section
variable {X : Cx} {a b : Expr} {ta tb : TE} {pos : Pos}
theorem pe_ix {r : R2} (hr : IxR X r) (ha : PE X a ta) (hb : PE X b tb) (hs : PlainIx b) : PE X (.Subscript a b pos) (tOp r ta tb) := by
  intro pins s σ H Q I h
  exact Subscript_ (binT ha hb I h fun v u s2 x y H2 I2 rx ry q => hr a b pins s2 σ H2 x y v u Q I2 rx ry q (hs _ _))
def rIxL (K : PySem.W.Frag) : R2 := fun x y H Q => ∃ p xs i v, x = .ref p ∧ y = .int i ∧ SqL K H p xs ∧ atI xs i = some v ∧ Q v H
def rIxT (K : PySem.W.Frag) : R2 := fun x y H Q => ∃ p xs i v, x = .ref p ∧ y = .int i ∧ SqT K H p xs ∧ atI xs i = some v ∧ Q v H
theorem ix_list : IxR X (rIxL X.K) := by
  intro value slice pins s σ H x y v u Q I rx ry h hs
  obtain ⟨p, xs, i, z, rfl, rfl, hq, he, q⟩ := h
  cases rx
  obtain ⟨t, rfl⟩ := ry
  obtain ⟨its, r, pl, hz⟩ := I.list hq
  obtain ⟨j, h1, h2, h3, h4, h5⟩ := atI_get he
  obtain ⟨w, ew, rw'⟩ := r.get h2
  have hl := r.length
  have hn := line63
  have fin : EP X pins σ Q w s := ⟨z, H, I, rw', q⟩
  by_cases h0 : 0 ≤ i
  · have hj : i.toNat = j := by
      rw [seqIndex_of h0 h5] at h1
      exact Option.some.inj h1
    exact item_listR pl.isList h0 (by omega) (by rw [hj]; simpa using ew) fin hs
  · have hj : (i + (its.toArray.size : Int)).toNat = j := by
      rw [seqIndex_neg (by omega) h4] at h1
      rw [List.size_toArray, ← hl]
      exact Option.some.inj h1
    exact subscriptTail_builtinR (x := w) pl.isList.typeIs slot_list_getitem.lookup
      (wpAny_getItem_list_neg (Q := fun r s' => r = w ∧ EP X pins σ Q r s') pl.isList (by omega) (by rw [List.size_toArray] <;> omega) (by omega) (by rw [hj]; simpa using ew) ⟨rfl, fin⟩) hs
theorem ix_tup : IxR X (rIxT X.K) := by
  intro value slice pins s σ H x y v u Q I rx ry h hs
  obtain ⟨p, xs, i, z, rfl, rfl, hq, he, q⟩ := h
  cases rx
  obtain ⟨t, rfl⟩ := ry
  obtain ⟨its, r, pl, hz⟩ := I.tuple hq
  obtain ⟨j, h1, h2, h3, h4, h5⟩ := atI_get he
  obtain ⟨w, ew, rw'⟩ := r.get h2
  have hl := r.length
  have hn := line63
  have fin : EP X pins σ Q w s := ⟨z, H, I, rw', q⟩
  exact subscriptTail_builtinR (x := w) pl.typeIs slot_tuple_getitem.lookup
    (getItem_tuple (j := j) (Q := fun r s' => r = w ∧ EP X pins σ Q r s') pl (by omega) (by omega) (by rw [List.size_toArray, ← hl]; exact h1) (by simpa using ew) ⟨rfl, fin⟩) hs
theorem slice_bounds (lo hi : Option Int) (n : Nat) : (sliceBounds lo hi none n).1 = ((HT.sIx n 0 lo : Nat) : Int) ∧ (sliceBounds lo hi none n).2.1 = ((HT.sIx n n hi : Nat) : Int) ∧ (sliceBounds lo hi none n).2.2 = 1 := by
  refine ⟨?_, ?_, rfl⟩
  · cases lo with
    | none => simp [sliceBounds, HT.sIx]
    | some i =>
      simp only [sliceBounds, HT.sIx, Option.getD_none, show (1 : Int) > 0 by decide, if_true]
      by_cases h : i < 0
      · simp only [h, if_true] <;> omega
      · simp only [h, if_false] <;> omega
  · cases hi with
    | none => simp [sliceBounds, HT.sIx]
    | some i =>
      simp only [sliceBounds, HT.sIx, Option.getD_none, show (1 : Int) > 0 by decide, if_true]
      by_cases h : i < 0
      · simp only [h, if_true] <;> omega
      · simp only [h, if_false] <;> omega
theorem slicePick_cut (its : List Value) (lo hi : Option Int) : slicePick its.toArray lo hi none = ((its.drop (HT.sIx its.length 0 lo)).take (HT.sIx its.length its.length hi - HT.sIx its.length 0 lo)).toArray := by
  obtain ⟨h1, h2, h3⟩ := slice_bounds lo hi its.toArray.size
  unfold slicePick
  rw [h1, h2, h3]
  simp only [sliceRange_one, pick_run, List.size_toArray] <;> rfl
def rSlL (K : PySem.W.Frag) : V → Option Int → Option Int → Hp → VK → Prop := fun x lo hi H Q => ∃ a xs, x = .ref a ∧ SqL K H a xs ∧ ∀ p, H p = none → Q (.ref p) (upd H p (.lst (cutV xs lo hi)))
theorem sl_list : SlR X (rSlL X.K) := by
  intro pins s σ H x v vl vu lo hi sl Q I rx hs pl pu h
  obtain ⟨a, xs, rfl, hx, q⟩ := h
  cases rx
  obtain ⟨its, r, ht, hz⟩ := I.list hx
  have hlen := r.length
  refine ⟨"list", _, slot_list_getitem.lookup, ht.isList.typeIs, ?_⟩
  refine wpAny_getItem_list_slice ht.isList hs pl pu .none (by simp) ?_ (by rw [List.size_toArray] <;> omega)
  rw [slicePick_cut, ← hlen]
  refine ⟨.ref s.heap.objs.size, _, I.laid (t' := s.toks) (o := .lst (cutV xs lo hi)) (fun b ob q => Heap.get?_push_of_some _ q) (Nat.le_refl _) ?_, rfl, q _ (I.hok.fresh (Nat.le_refl _))⟩
  exact ⟨Nat.le_trans (cutV_length xs lo hi) hz, _, 0, (r.drop (HT.sIx xs.length 0 lo)).take (HT.sIx xs.length xs.length hi - HT.sIx xs.length 0 lo), Heap.get?_push_size _ rfl⟩
def flatV : V → Bool
  | .non => true
  | .bl _ => true
  | .int _ => true
  | .str _ => true
  | _ => false
def eqV : V → V → Bool
  | .non, .non => true
  | .bl a, .bl b => a == b
  | .bl a, .int b => (if a then 1 else 0) == b
  | .int a, .bl b => a == (if b then 1 else 0)
  | .int a, .int b => a == b
  | .str a, .str b => a == b
  | _, _ => false
theorem eqAt_V {A : Around} {s : Shared} {y x : V} {u v : Value} (ry : RelV y u) (rx : RelV x v) (fy : flatV y = true) (fx : flatV x = true) : SeqAt.EqAt A s u v (eqV y x) := by
  cases y with
  | non =>
    cases ry
    cases x with
    | non => cases rx; exact SeqAt.EqAt.same _
    | bl b => cases rx; exact SeqAt.EqAt.none_bool b
    | int b => obtain ⟨t, rfl⟩ := rx; exact SeqAt.EqAt.none_int b t
    | str b => obtain ⟨t, rfl⟩ := rx; exact SeqAt.EqAt.none_str b t
    | _ => exact absurd (show false = true from fx) Bool.false_ne_true
  | bl a =>
    cases ry
    cases x with
    | non => cases rx; exact SeqAt.EqAt.bool_none a
    | bl b => cases rx; exact SeqAt.EqAt.bool_bool a b
    | int b => obtain ⟨t, rfl⟩ := rx; exact SeqAt.EqAt.bool_int a b t
    | str b => obtain ⟨t, rfl⟩ := rx; exact SeqAt.EqAt.bool_str a b t
    | _ => exact absurd (show false = true from fx) Bool.false_ne_true
  | int a =>
    obtain ⟨t', rfl⟩ := ry
    cases x with
    | non => cases rx; exact SeqAt.EqAt.int_none a t'
    | bl b => cases rx; exact SeqAt.EqAt.int_bool a t' b
    | int b => obtain ⟨t, rfl⟩ := rx; exact SeqAt.EqAt.int_int a t' b t
    | str b => obtain ⟨t, rfl⟩ := rx; exact SeqAt.EqAt.int_str a t' b t
    | _ => exact absurd (show false = true from fx) Bool.false_ne_true
  | str a =>
    obtain ⟨t', rfl⟩ := ry
    cases x with
    | non => cases rx; exact SeqAt.EqAt.str_none a t'
    | bl b => cases rx; exact SeqAt.EqAt.str_bool a t' b
    | int b => obtain ⟨t, rfl⟩ := rx; exact SeqAt.EqAt.str_int a t' b t
    | str b => obtain ⟨t, rfl⟩ := rx; exact SeqAt.EqAt.str_str a t' b t
    | _ => exact absurd (show false = true from fx) Bool.false_ne_true
  | _ => exact absurd (show false = true from fy) Bool.false_ne_true
def eqU (x : V) (u : Value) : Bool := match u with
  | .none => eqV .non x
  | .bool b => eqV (.bl b) x
  | .int i _ => eqV (.int i) x
  | .str z _ => eqV (.str z) x
  | _ => false
theorem eqU_of {x y : V} {u : Value} (r : RelV y u) (f : flatV y = true) : eqU x u = eqV y x := by
  cases y with
  | non => cases r; rfl
  | bl b => cases r; rfl
  | int i => obtain ⟨t, rfl⟩ := r; rfl
  | str z => obtain ⟨t, rfl⟩ := r; rfl
  | _ => exact absurd (show false = true from f) Bool.false_ne_true
theorem any_eqU {x : V} : ∀ {xs : List V} {us : List Value}, Vals xs us → xs.all flatV = true → us.any (eqU x) = xs.any fun y => eqV y x
  | _, _, .nil, _ => rfl
  | y :: xs, u :: us, .cons r t, f => by
    rw [List.all_cons, Bool.and_eq_true] at f
    rw [List.any_cons, List.any_cons, eqU_of r f.1, any_eqU t f.2]
theorem mem_eqAt {A : Around} {s : Shared} {x : V} {v : Value} (rx : RelV x v) (fx : flatV x = true) : ∀ {xs : List V} {us : List Value}, Vals xs us → xs.all flatV = true → ∀ u ∈ us, SeqAt.EqAt A s u v (eqU x u)
  | _, _, .nil, _ => fun u hu => by cases hu
  | y :: xs, u :: us, .cons r t, f => fun u' hu => by
    rw [List.all_cons, Bool.and_eq_true] at f
    rcases List.mem_cons.mp hu with rfl | hu
    · rw [eqU_of r f.1]; exact eqAt_V r rx f.1 fx
    · exact mem_eqAt rx fx t f.2 u' hu
def inV (x : V) (xs : List V) : Bool := xs.any fun y => eqV y x
def rIn (K : PySem.W.Frag) (neg : Bool) : R2 := fun x y H Q => ∃ p xs, y = .ref p ∧ (SqL K H p xs ∨ SqT K H p xs) ∧ flatV x = true ∧ xs.all flatV = true ∧ Q (.bl (if neg then !inV x xs else inV x xs)) H
theorem op_in_seq : OpR X (compareOp .In) (rIn X.K false) := by
  intro pins s σ H x y v u Q I rx ry h
  obtain ⟨p, xs, rfl, hq, fx, fs, q⟩ := h
  cases ry
  rcases hq with hq | hq
  · obtain ⟨its, r, pl, hz⟩ := I.list hq
    refine SeqAt.in_listAt (eqU x) pl.isList (fun w hw => mem_eqAt rx fx r fs w (by simpa using hw)) ⟨.bl _, H, I, rfl, ?_⟩
    rw [show its.toArray.any (eqU x) = its.any (eqU x) by simp, any_eqU r fs]
    exact q
  · obtain ⟨its, r, pl, hz⟩ := I.tuple hq
    refine SeqAt.in_tupleAt (eqU x) pl (fun w hw => mem_eqAt rx fx r fs w (by simpa using hw)) ⟨.bl _, H, I, rfl, ?_⟩
    rw [show its.toArray.any (eqU x) = its.any (eqU x) by simp, any_eqU r fs]
    exact q
theorem call_len_seq : CallR X (.builtin "len") (fun xs H Q => ∃ p ys, xs = [.ref p] ∧ (SqL X.K H p ys ∨ SqT X.K H p ys) ∧ Q (.int ys.length) H) := by
  intro pins s σ H xs us Q I r h
  obtain ⟨p, ys, rfl, hq, q⟩ := h
  obtain ⟨u, rfl, rx⟩ := vals1 r
  cases rx
  have hn := line63
  rcases hq with hq | hq
  · obtain ⟨its, r', pl, hz⟩ := I.list hq
    have hlen := r'.length
    exact Calls.call_len_list pl.isList (by simp only [List.size_toArray] <;> omega) ⟨.int ys.length, H, I.tok _, ⟨s.toks + 1, by rw [List.size_toArray, hlen]⟩, q⟩
  · obtain ⟨its, r', pl, hz⟩ := I.tuple hq
    have hlen := r'.length
    exact len_tuple pl (by simp only [List.size_toArray] <;> omega) ⟨.int ys.length, H, I.tok _, ⟨s.toks + 1, by rw [List.size_toArray, hlen]⟩, q⟩
def tyV (K : PySem.W.Frag) (T : String) (x : V) (H : Hp) : Prop := match x with
  | .str _ => T = "str"
  | .int _ => T = "int"
  | .ref p => (T = "list" ∧ ∃ xs, SqL K H p xs) ∨ (T = "tuple" ∧ ∃ o, K.lookup p = some o ∧ o.cls = .type "tuple" ∧ o.dict = none) ∨
      (T = "dict" ∧ ((∃ kvs, H p = some (.dK kvs)) ∨ ∃ kvs, H p = some (.dT kvs))) ∨ (T = "set" ∧ ∃ S n, H p = some (.set S n))
  | _ => False
theorem tyV_is {pins : List (Addr × Obj)} {σ : St} {H : Hp} {s : Shared} {T : String} {x : V} {v : Value} (I : Inv X pins σ H s) (r : RelV x v) (ty : tyV X.K T x H) :
    s.TypeIs v T ∧ ∀ a, v = .ref a → ∃ ob, s.heap.get? a = some ob ∧ ob.dict = none := by
  cases x with
  | str z =>
    obtain ⟨t, rfl⟩ := r
    cases (show T = "str" from ty)
    exact ⟨typeIs_str s z t, fun _ e => nomatch e⟩
  | int i =>
    obtain ⟨t, rfl⟩ := r
    cases (show T = "int" from ty)
    exact ⟨typeIs_int s i t, fun _ e => nomatch e⟩
  | ref p =>
    cases r
    rcases ty with ⟨rfl, xs, hq⟩ | ⟨rfl, o, hk, hc, hd⟩ | ⟨rfl, hk⟩ | ⟨rfl, S, n, hk⟩
    · obtain ⟨its, _, pl, _⟩ := I.list hq
      refine ⟨pl.isList.typeIs, fun a e => ?_⟩
      cases e
      obtain ⟨o, n, e, c, hd, _⟩ := pl
      exact ⟨o, e, hd⟩
    · refine ⟨⟨o, I.kIn p o hk, hc⟩, fun a e => ?_⟩
      cases e
      exact ⟨o, I.kIn _ o hk, hd⟩
    · have z : ∃ o, s.heap.get? p = some o ∧ o.ExactDict := by
        rcases hk with ⟨kvs, hk⟩ | ⟨kvs, hk⟩
        · obtain ⟨_, _, _, _, o, _, _, e, ex, _⟩ := I.hok p _ hk
          exact ⟨o, e, ex⟩
        · obtain ⟨_, _, _, _, o, _, _, e, ex, _⟩ := I.hok p _ hk
          exact ⟨o, e, ex⟩
      obtain ⟨o, e, ex⟩ := z
      refine ⟨⟨o, e, ex.1⟩, fun a e2 => ?_⟩
      cases e2
      exact ⟨o, e, ex.2.1⟩
    · obtain ⟨o, _, _, _, e, ex, _⟩ := I.hok p _ hk
      refine ⟨⟨o, e, ex.1⟩, fun a e2 => ?_⟩
      cases e2
      exact ⟨o, e, ex.2.1⟩
  | _ => exact False.elim ty
def tBM (K : PySem.W.Frag) (T : String) (r : V → List V → Hp → VK → Prop) (to : TE) (t : TA) : TE := fun σ H Q => to σ H fun x H1 => tyV K T x H1 ∧ t σ H1 fun xs H2 => r x xs H2 Q
variable {o e : Expr} {es : List Expr} {to : TE} {t : TA} {name : Str} {apos cpos : Pos} {T id : String} {r : V → List V → Hp → VK → Prop}
theorem pe_bm (pa : PlainAttrs T) (slot : Slot T name id) (hty : typeOf (.builtin id) = pure (.type "method_descriptor")) (hm : MtR X id r) (ho : PE X o to) (ha : PA X (e :: es) t)
    (hbase : attributeBase o name X.env (eval o X.env) = eval o X.env := by rfl)
    (hfew : ((backTo cpos (starEach (e :: es) X.env)).all (fun x => !x.1) && (backToKw cpos (keywordEach [] X.env)).all (fun x => x.1.isSome)
      && decide ((e :: es).length + ([] : List Keyword).length + (if ([] : List Keyword).isEmpty then 0 else 1) < 30)) = true := by rfl)
    (hline : (apos.endLine == cpos.line) = true := by rfl) (hs : starEach (e :: es) X.env = (false, eval e X.env) :: starEach es X.env := by rfl) (hplain : (backTo cpos (starEach es X.env)).any (·.1) = false := by rfl) :
    PE X (.Call (.Attribute o name apos) (e :: es) [] cpos) (tBM X.K T r to t) := by
  intro pins s σ H Q I h
  refine wpAny_Call_method_late hbase hfew hline rfl (thn (ho pins s σ H _ I h) fun v s1 ⟨x, H1, I1, r1, ty, q1⟩ => ?_)
  obtain ⟨h1, h2⟩ := tyV_is I1 r1 ty
  refine ⟨T, id, pa, slot, hty, h1, h2, ?_⟩
  have hA := ha cpos pins s1 σ H1 _ I1 q1
  rw [hs] at hA ⊢
  refine Calls.callWith_builtin (by show (false || (backTo cpos (starEach es X.env)).any (·.1)) = false; rw [hplain] <;> rfl) (Calls.evalArgs_plain ?_)
  exact thn hA fun us s2 ⟨vs, H2, I2, r2, q2⟩ => hm pins s2 σ H2 x vs v us Q I2 r1 r2 q2
/- xs.append(e), list.index on a module's tuple .. are MtR facts of 06m -/
end
end L2
namespace L2
open PySem PySem.Spec PyProof.Rows
def MtM (X : Cx) (id : String) (r : V → List V → Hp → VK → Prop) : Prop :=
  ∀ (pins : List (Addr × Obj)) (s : Shared) (σ : St) (H : Hp) (x : V) (xs : List V) (v : Value) (us : List Value) (Q : VK), Inv X pins σ H s → RelV x v → Vals xs us → r x xs H Q →
    wpAny (model X.prog X.w) X.A (call (.builtin id) (v :: us)) (EP X pins σ Q) X.xe s
theorem Vals.one : ∀ {x : V} {us : List Value}, Vals [x] us → ∃ u, us = [u] ∧ RelV x u
  | _, _, .cons r .nil => ⟨_, rfl, r⟩
section
variable {X : Cx} {pins : List (Addr × Obj)} {σ : St} {H : Hp} {s : Shared} {l b : Addr} {xs ys zs : List V}
theorem Inv.lset {its its' : List Value} {n : Nat} {f : Array Value → Array Value} {t' : Nat} (I : Inv X pins σ H s) (hH : H l = some (.lst xs))
    (e : s.heap.get? l = some { cls := .type "list", data := .seq its.toArray n }) (hf : f its.toArray = its'.toArray) (hv : Vals ys its') (hz : ys.length ≤ sizeLine) :
    Inv X pins σ (upd H l (.lst ys)) { s with heap := s.heap.update l (Obj.mapSeq f), toks := t' } := by
  have q := PySem.IsL.update e f
  rw [hf] at q
  refine I.write (x := l) (e := l) (by rw [hH]; exact trivial) (.inl rfl) (fun b' u hb hu => (Heap.get?_update_other s.heap (Obj.mapSeq f) (Ne.symm hb)).trans hu) ⟨_, q⟩ ?_
  exact ⟨hz, its', _, hv, q⟩
theorem Inv.lnew {its : List Value} {t' : Nat} (I : Inv X pins σ H s) (hv : Vals ys its) (hz : ys.length ≤ sizeLine) :
    Inv X pins σ (upd H s.heap.objs.size (.lst ys)) { s with heap := s.heap.push { cls := .type "list", data := .seq its.toArray }, toks := t' } :=
  I.laid (fun _ _ q => Heap.get?_push_of_some _ q) (Nat.le_refl _) ⟨hz, its, 0, hv, Heap.get?_push_size _ rfl⟩
theorem Inv.fresh (I : Inv X pins σ H s) : H s.heap.objs.size = none := I.hok.fresh (Nat.le_refl _)
theorem Inv.lstM (I : Inv X pins σ H s) (hH : H l = some (.lst xs)) : xs.length ≤ sizeLine ∧ ∃ (its : List Value) (n : Nat), Vals xs its ∧ xs.length = its.length ∧ s.heap.get? l = some { cls := .type "list", data := .seq its.toArray n } := by
  obtain ⟨z, its, n, r, e⟩ := I.hok l _ hH
  exact ⟨z, its, n, r, r.length, e⟩
theorem notLongL {n : Nat} (h : n ≤ sizeLine) : Builtin.List.listTooLong n = false := by
  unfold Builtin.List.listTooLong
  exact decide_eq_false (by omega)
end
section
variable {X : Cx}
def rAppend : V → List V → Hp → VK → Prop := fun x vs H Q => ∃ l xs y, x = .ref l ∧ vs = [y] ∧ H l = some (.lst xs) ∧ xs.length < sizeLine ∧ Q .non (upd H l (.lst (xs ++ [y])))
theorem mt_append : MtM X "list.append" rAppend := by
  intro pins s σ H x vs v us Q I rx rv h
  obtain ⟨l, xs, y, rfl, rfl, hH, hz, q⟩ := h
  cases rx
  obtain ⟨u, rfl, ru⟩ := rv.one
  obtain ⟨z, its, n, r, hl, e⟩ := I.lstM hH
  refine call_meets F.slot_list_append ⟨_, e, rfl⟩ F.entry_list_append (F.args_list_append_2 _ _) (PySem.list_append l its.toArray n u (by rw [List.size_toArray]; omega)) ⟨e, ?_⟩
  refine ⟨.non, _, I.lset (its' := its ++ [u]) hH e (by simp) (r.append (.cons ru .nil)) ?_, rfl, q⟩
  rw [List.length_append, List.length_singleton]
  omega
def rExtend : V → List V → Hp → VK → Prop := fun x vs H Q => ∃ l b xs zs, x = .ref l ∧ vs = [.ref b] ∧ H l = some (.lst xs) ∧ H b = some (.lst zs) ∧ xs.length + zs.length ≤ sizeLine ∧ Q .non (upd H l (.lst (xs ++ zs)))
theorem mt_extend : MtM X "list.extend" rExtend := by
  intro pins s σ H x vs v us Q I rx rv h
  obtain ⟨l, b, xs, zs, rfl, rfl, hH, hB, hz, q⟩ := h
  cases rx
  obtain ⟨u, rfl, ru⟩ := rv.one
  cases ru
  obtain ⟨z, its, n, r, hl, e⟩ := I.lstM hH
  obtain ⟨z2, its2, n2, r2, hl2, e2⟩ := I.lstM hB
  have hsz : its.toArray.size + its2.toArray.size ≤ sizeLine := by rw [List.size_toArray, List.size_toArray]; omega
  have hlong : ¬ (!its.toArray.isEmpty && Builtin.List.listTooLong (its.toArray.size + its2.toArray.size)) = true := by
    rw [notLongL hsz, Bool.and_false]
    exact Bool.false_ne_true
  refine call_meets F.slot_list_extend ⟨_, e, rfl⟩ F.entry_list_extend (F.args_list_extend_2 _ _)
    (AutoSeq1.list_extend_list_list_0 l its.toArray n b its2.toArray n2 hlong (by rw [List.size_toArray]; omega) (by omega)) ⟨e, e2, ?_⟩
  refine ⟨.non, _, I.lset (its' := its ++ its2) hH e (by simp) (r.append r2) ?_, rfl, q⟩
  rw [List.length_append]
  omega
def rCat : R2 := fun x y H Q => ∃ l b xs zs, x = .ref l ∧ y = .ref b ∧ H l = some (.lst xs) ∧ H b = some (.lst zs) ∧ xs.length + zs.length ≤ sizeLine ∧ ∀ p, H p = none → Q (.ref p) (upd H p (.lst (xs ++ zs)))
theorem op_cat : OpR X (binaryOp .Add) rCat := by
  intro pins s σ H x y v u Q I rx ry h
  obtain ⟨l, b, xs, zs, rfl, rfl, hH, hB, hz, q⟩ := h
  cases rx
  cases ry
  obtain ⟨z, its, n, r, hl, e⟩ := I.lstM hH
  obtain ⟨z2, its2, n2, r2, hl2, e2⟩ := I.lstM hB
  refine PySem.P.add_list e e2 ?_ (by rw [List.size_toArray, List.size_toArray]; omega)
  have ea : its.toArray ++ its2.toArray = (its ++ its2).toArray := by simp
  rw [ea]
  exact ⟨.ref _, _, I.lnew (t' := s.toks) (r.append r2) (by rw [List.length_append]; omega), rfl, q _ I.fresh⟩
end
end L2
namespace L2
open PySem PySem.Spec PyProof.Rows
theorem Vals.ints : ∀ {ns : List Int} {us : List Value}, Vals (ns.map V.int) us → IntsAre us ns
  | [], us, h => by
    rw [List.map_nil] at h
    cases h
    exact IntsAre.nil
  | n :: ns, us, h => by
    rw [List.map_cons] at h
    cases h with
    | cons r t =>
      obtain ⟨k, rfl⟩ := r
      exact IntsAre.cons n k (Vals.ints t)
theorem vals_of_ints : ∀ {us : List Value} {ns : List Int}, IntsAre us ns → Vals (ns.map V.int) us
  | _, _, .nil => by rw [List.map_nil]; exact Paired.nil
  | _, _, .cons n t h => by rw [List.map_cons]; exact Paired.cons (show RelV (V.int n) (Value.int n t) from ⟨t, rfl⟩) (vals_of_ints h)
theorem Vals.bls : ∀ {bs : List Bool} {us : List Value}, Vals (bs.map V.bl) us → us = bs.map Value.bool
  | [], us, h => by
    rw [List.map_nil] at h
    cases h
    rfl
  | b :: bs, us, h => by
    rw [List.map_cons] at h
    cases h with
    | cons r t =>
      cases r
      rw [Vals.bls t, List.map_cons]
theorem Vals.ref1 {a : Addr} {us : List Value} (r : Vals [V.ref a] us) : us = [Value.ref a] := by
  cases r with
  | cons r t =>
    cases t
    cases r
    rfl
section
variable {prog : Program} {w : World} {A : Around} {E : Value → Shared → Prop} {s : Shared} {l : Addr} {its : List Value} {ns : List Int} {Q : Value → Shared → Prop}
theorem sum_raw (hh : A.handled = none) (hl : s.heap.IsList l its.toArray) (hi : IntsAre its ns)
    (h : ∀ h' tk t', (∀ b o, s.heap.get? b = some o → h'.get? b = some o) → Q (.int ns.sum t') { s with heap := h', toks := tk }) : wpAny (model prog w) A (call (.builtin "sum") [.ref l]) Q E s := by
  obtain ⟨xs, e⟩ := hi.allInts.items
  have hn : numsOf (intItems xs).toList = ns := by rw [← e]; exact hi.numsOf
  rw [nums_intItems] at hn
  rw [e] at hl
  refine PySem.sum_intListG hh hl fun h' tk t' hk => ?_
  have := h h' tk t' hk
  rw [preSum_eq, List.take_of_length_le (by simp), hn]; exact this
end
section
variable {X : Cx}
def rSum (K : PySem.W.Frag) : List V → Hp → VK → Prop := fun vs H Q => ∃ (a : Addr) (ns : List Int), vs = [V.ref a] ∧ SqL K H a (ns.map V.int) ∧ Q (.int ns.sum) H
theorem cr_sum (hc : X.calm = true) : CallR X (.builtin "sum") (rSum X.K) := by
  intro pins s σ H vs us Q I r h
  obtain ⟨a, ns, rfl, hs, q⟩ := h
  obtain ⟨its, rv, hl, _⟩ := I.list hs
  rw [Vals.ref1 r]
  exact sum_raw (I.ok.hd hc) hl.isList rv.ints fun h' tk t' hk => ⟨.int _, H, I.kept hk, ⟨_, rfl⟩, q⟩
end
theorem iter_any {prog : Program} {w : World} {A : Around} {E : Value → Shared → Prop} {s : Shared} {l : Addr} {items : Array Value} {Q : Value → Shared → Prop} (hl : s.heap.IsList l items)
    (h : ∀ s₂ : Shared, s₂ = { s with heap := s.heap.push { cls := .type "list_iterator", data := .fields #[.ref l, .int 0 0] } } →
      (s₂.heap.IsListIter s.heap.objs.size l 0 ∧ s₂.heap.IsList l items) → l ≠ s.heap.objs.size → Q (.ref s.heap.objs.size) s₂) : wpAny (model prog w) A (pyIter (.ref l)) Q E s := by
  have hlt : l < s.heap.objs.size := by obtain ⟨_, e, _⟩ := hl; exact Heap.lt_size e
  exact wpAny_pyIter_list hl (h _ rfl ⟨⟨_, Heap.get?_push_size _ rfl, rfl, rfl⟩, hl.push _⟩ (Nat.ne_of_lt hlt))
theorem truth_bools {prog : Program} {w : World} {A : Around} {bs : List Bool} {its : List Value} (e : its = bs.map Value.bool) :
    TruthOf prog w A (fun i v => its.toArray[i]? = some v) (fun i => bs.getD i false) := fun i v s Q E hv hq => by
  have hv' : its[i]? = some v := by simpa using hv
  rw [e, List.getElem?_map] at hv'
  obtain ⟨b, hb, rfl⟩ := Option.map_eq_some_iff.mp hv'
  have hg : bs.getD i false = b := by rw [List.getD_eq_getElem?_getD, hb] <;> rfl
  have hq' : Q (bs.getD i false) s := hq
  rw [hg] at hq'
  exact wpAny_truthy_bool hq'
theorem any_range : ∀ bs : List Bool, (List.range bs.length).any (fun i => bs.getD i false) = bs.any id
  | [] => rfl
  | b :: bs => by
    rw [List.length_cons, List.range_succ_eq_map, List.any_cons, List.any_map, List.any_cons, ← any_range bs]
    all_goals rfl
theorem all_range : ∀ bs : List Bool, (List.range bs.length).all (fun i => bs.getD i false) = bs.all id
  | [] => rfl
  | b :: bs => by
    rw [List.length_cons, List.range_succ_eq_map, List.all_cons, List.all_map, List.all_cons, ← all_range bs]
    all_goals rfl
section
variable {X : Cx}
def rAny (K : PySem.W.Frag) : List V → Hp → VK → Prop := fun vs H Q => ∃ (a : Addr) (bs : List Bool), vs = [V.ref a] ∧ SqL K H a (bs.map V.bl) ∧ Q (.bl (bs.any id)) H
def rAll (K : PySem.W.Frag) : List V → Hp → VK → Prop := fun vs H Q => ∃ (a : Addr) (bs : List Bool), vs = [V.ref a] ∧ SqL K H a (bs.map V.bl) ∧ Q (.bl (bs.all id)) H
theorem cr_any (hc : X.calm = true) : CallR X (.builtin "any") (rAny X.K) := by
  intro pins s σ H vs us Q I r h
  obtain ⟨a, bs, rfl, hs, q⟩ := h
  obtain ⟨its, rv, hl, _⟩ := I.list hs
  rw [Vals.ref1 r]
  have hb := rv.bls
  refine call_any_walk (iter_any hl.isList fun s₂ e2 st hne => ?_)
  subst e2
  refine ⟨_, _, _, _, _, _, _, rfl, Walks.list (A := X.A.in1) (I.ok.hd hc) _ a hne its.toArray, st, truth_bools hb, fun h' tk hk => ?_⟩
  refine ⟨.bl _, H, I.kept fun b o eo => hk b o (fun hmem => ?_) (Heap.get?_push_of_some _ eo), ?_, q⟩
  · rcases List.mem_cons.mp hmem with e1 | hmem
    · exact absurd (e1 ▸ Heap.lt_size eo) (Nat.lt_irrefl _)
    · cases hmem
  · show Value.bool _ = Value.bool _
    rw [← any_range, hb, List.size_toArray, List.length_map]
theorem cr_all (hc : X.calm = true) : CallR X (.builtin "all") (rAll X.K) := by
  intro pins s σ H vs us Q I r h
  obtain ⟨a, bs, rfl, hs, q⟩ := h
  obtain ⟨its, rv, hl, _⟩ := I.list hs
  rw [Vals.ref1 r]
  have hb := rv.bls
  refine call_all_walk (iter_any hl.isList fun s₂ e2 st hne => ?_)
  subst e2
  refine ⟨_, _, _, _, _, _, _, rfl, Walks.list (A := X.A.in1) (I.ok.hd hc) _ a hne its.toArray, st, truth_bools hb, fun h' tk hk => ?_⟩
  refine ⟨.bl _, H, I.kept fun b o eo => hk b o (fun hmem => ?_) (Heap.get?_push_of_some _ eo), ?_, q⟩
  · rcases List.mem_cons.mp hmem with e1 | hmem
    · exact absurd (e1 ▸ Heap.lt_size eo) (Nat.lt_irrefl _)
    · cases hmem
  · show Value.bool _ = Value.bool _
    rw [← all_range, hb, List.size_toArray, List.length_map]
end
end L2
namespace L2
open PySem PySem.Spec PyProof.Rows
abbrev CellAt (h : Heap) (c : Addr) (v : Option Value) : Prop := h.IsCell c v
def relS (scope sc : Scope) : Scope :=
  { scope with names := scope.names.map fun (n, k) => if (k == .free && sc.kind == .function && sc.names.lookup n == some .cell) then (n, .cell) else (n, k) }
def cloFrom (cells : List (Str × Addr)) : List (Str × NameKind) → List (Str × Addr) → List (Str × Addr)
  | [], acc => acc
  | (n, k) :: r, acc => if k == .free then cloFrom cells r ((n, (cells.lookup n).getD 0) :: acc) else cloFrom cells r acc
theorem closure_loop (env : Env) (f : Str × NameKind → List (Str × Addr) → Sem (ForInStep (List (Str × Addr))))
    (hf : ∀ n k c, f (n, k) c = if k == .free then (do let a ← cellOf env n; pure (.yield ((n, a) :: c))) else pure (.yield c)) :
    ∀ (names : List (Str × NameKind)) (acc : List (Str × Addr)), (∀ y ∈ names, y.2 = .free → ∃ c, env.cells.lookup y.1 = some c) → forIn names acc f = pure (cloFrom env.cells names acc)
  | [], acc, _ => by rw [List.forIn_nil]; rfl
  | (n, k) :: r, acc, h => by
    rw [List.forIn_cons, hf]
    have ih := fun acc => closure_loop env f hf r acc fun y hy => h y (List.mem_cons_of_mem _ hy)
    unfold cloFrom
    by_cases hk : (k == NameKind.free) = true
    · rw [if_pos hk, if_pos hk]
      obtain ⟨c, hc⟩ := h (n, k) List.mem_cons_self (by simpa using hk)
      have e : cellOf env n = pure c := by unfold cellOf; rw [hc]
      rw [e]
      have e2 : (env.cells.lookup n).getD 0 = c := by rw [hc]; rfl
      rw [e2]
      exact ih _
    · rw [if_neg hk, if_neg hk]
      exact ih _
theorem closure_ok {scope : Scope} {env : Env} (h : ∀ y ∈ scope.names, y.2 = .free → ∃ c, env.cells.lookup y.1 = some c) : closureFor scope env = pure (cloFrom env.cells scope.names []) := by
  simp only [closureFor]
  rw [closure_loop env _ (fun n k c => rfl) scope.names [] h]
  rfl
theorem mem_lookup {α : Type} : ∀ {l : List (Str × α)} {n : Str} {c : α}, (n, c) ∈ l → ∃ c', l.lookup n = some c'
  | (k, v) :: r, n, c, h => by
    rw [List.lookup_cons]
    cases hb : n == k with
    | true => exact ⟨_, rfl⟩
    | false =>
      rcases List.mem_cons.mp h with e | h
      · cases e; simp at hb
      · exact mem_lookup h
theorem cloFrom_mem {cells : List (Str × Addr)} : ∀ {names : List (Str × NameKind)} {acc : List (Str × Addr)} {n : Str} {c : Addr}, (n, c) ∈ cloFrom cells names acc → (n, c) ∈ acc ∨ ((n, .free) ∈ names ∧ c = (cells.lookup n).getD 0)
  | [], _, _, _, h => .inl h
  | (m, k) :: r, acc, n, c, h => by
    unfold cloFrom at h
    split at h
    · rename_i hk
      have hk : k = .free := by simpa using hk
      rcases cloFrom_mem h with h | ⟨h1, h2⟩
      · rcases List.mem_cons.mp h with e | h
        · cases e; exact .inr ⟨hk ▸ List.mem_cons_self, rfl⟩
        · exact .inl h
      · exact .inr ⟨List.mem_cons_of_mem _ h1, h2⟩
    · rcases cloFrom_mem h with h | ⟨h1, h2⟩
      · exact .inl h
      · exact .inr ⟨List.mem_cons_of_mem _ h1, h2⟩
theorem cloFrom_acc {cells : List (Str × Addr)} : ∀ {names : List (Str × NameKind)} {acc : List (Str × Addr)} {p : Str × Addr}, p ∈ acc → p ∈ cloFrom cells names acc
  | [], _, _, h => h
  | (m, k) :: r, acc, p, h => by
    unfold cloFrom
    split
    · exact cloFrom_acc (List.mem_cons_of_mem _ h)
    · exact cloFrom_acc h
theorem cloFrom_has {cells : List (Str × Addr)} : ∀ {names : List (Str × NameKind)} {acc : List (Str × Addr)} {n : Str}, (n, .free) ∈ names → (n, (cells.lookup n).getD 0) ∈ cloFrom cells names acc
  | (m, k) :: r, acc, n, h => by
    unfold cloFrom
    rcases List.mem_cons.mp h with e | h
    · cases e
      exact cloFrom_acc List.mem_cons_self
    · split
      · exact cloFrom_has h
      · exact cloFrom_has h
theorem cells_mem : ∀ {names : List (Str × NameKind)} {h : Heap} {acc : List (Str × Addr)} {x : Str} {c : Addr}, (x, c) ∈ cellsFrom h.objs.size names acc →
    (x, c) ∈ acc ∨ ((x, .cell) ∈ names ∧ h.objs.size ≤ c ∧ CellAt (pushCells h names) c none)
  | [], _, _, _, _, h => .inl h
  | (n, k) :: r, h, acc, x, c, hm => by
    unfold cellsFrom at hm
    unfold pushCells
    split at hm
    · rename_i hk
      rw [if_pos hk]
      have hk : k = .cell := by simpa using hk
      rw [← Heap.size_push h { cls := .type "cell", data := .cell none }] at hm
      rcases cells_mem hm with hm | ⟨h1, h2, h3⟩
      · rcases List.mem_cons.mp hm with e | hm
        · cases e
          exact .inr ⟨hk ▸ List.mem_cons_self, Nat.le_refl _, _, pushCells_keeps r _ _ _ (Heap.get?_push_size _ rfl), rfl⟩
        · exact .inl hm
      · rw [Heap.size_push] at h2
        exact .inr ⟨List.mem_cons_of_mem _ h1, Nat.le_of_succ_le h2, h3⟩
    · rename_i hk
      rw [if_neg hk]
      rcases cells_mem hm with hm | ⟨h1, h2, h3⟩
      · exact .inl hm
      · exact .inr ⟨List.mem_cons_of_mem _ h1, h2, h3⟩
theorem cells_acc : ∀ {names : List (Str × NameKind)} {n : Nat} {acc : List (Str × Addr)} {p : Str × Addr}, p ∈ acc → p ∈ cellsFrom n names acc
  | [], _, _, _, h => h
  | (m, k) :: r, n, acc, p, h => by
    unfold cellsFrom
    split
    · exact cells_acc (List.mem_cons_of_mem _ h)
    · exact cells_acc h
theorem cells_has : ∀ {names : List (Str × NameKind)} {n : Nat} {acc : List (Str × Addr)} {x : Str}, (x, .cell) ∈ names → ∃ c, (x, c) ∈ cellsFrom n names acc
  | (m, k) :: r, n, acc, x, h => by
    unfold cellsFrom
    rcases List.mem_cons.mp h with e | h
    · cases e
      exact ⟨n, cells_acc List.mem_cons_self⟩
    · split
      · exact cells_has h
      · exact cells_has h
theorem cells_inj : ∀ {names : List (Str × NameKind)} {h : Heap} {acc : List (Str × Addr)} {x y : Str} {c : Addr}, (∀ p ∈ acc, p.2 < h.objs.size) → (∀ x y c, (x, c) ∈ acc → (y, c) ∈ acc → x = y) →
    (x, c) ∈ cellsFrom h.objs.size names acc → (y, c) ∈ cellsFrom h.objs.size names acc → x = y
  | [], _, _, _, _, _, _, hi, h1, h2 => hi _ _ _ h1 h2
  | (n, k) :: r, h, acc, x, y, c, hl, hi, h1, h2 => by
    unfold cellsFrom at h1 h2
    split at h1
    · rename_i hk
      rw [if_pos hk] at h2
      rw [← Heap.size_push h { cls := .type "cell", data := .cell none }] at h1 h2
      refine cells_inj (h := h.push _) (fun p hp => ?_) (fun x y c a b => ?_) h1 h2
      · rw [Heap.size_push]
        rcases List.mem_cons.mp hp with rfl | hp
        · exact Nat.lt_succ_self _
        · exact Nat.lt_succ_of_lt (hl p hp)
      · rcases List.mem_cons.mp a with e | a <;> rcases List.mem_cons.mp b with e' | b
        · cases e; cases e'; rfl
        · cases e; exact absurd (hl _ b) (Nat.lt_irrefl _)
        · cases e'; exact absurd (hl _ a) (Nat.lt_irrefl _)
        · exact hi _ _ _ a b
    · rename_i hk
      rw [if_neg hk] at h2
      exact cells_inj hl hi h1 h2
theorem newEnv_comp {M : Model} {A : Around} {E : Value → Shared → Prop} {s : Shared} {scope : Scope} {globals : Addr} {closure : List (Str × Addr)} {qual : Str} {func : Option Addr} {code : Value} {around : Env} {builtins : Addr} {Q : Env → Shared → Prop}
    (h : Q (newEnv scope s.heap.objs.size globals (cellsFrom (s.heap.objs.size + 1) scope.names closure) qual func code (some around) builtins)
      { s with heap := pushCells (s.heap.push { cls := .type "dict", data := .dict #[] }) scope.names }) :
    wpAny M A (newFunctionEnv scope globals closure [] qual func code (some around) builtins) Q E s := by
  simp only [newFunctionEnv, Option.isSome_some, if_true]
  refine wpAny_bind (wpAny_alloc ?_)
  refine wpAny_bind (wpAny_layCells _ (fun n k c => rfl) scope.names closure _ _ ?_)
  rw [show ({ s with heap := s.heap.push { cls := .type "dict", data := .dict #[] } } : Shared).heap.objs.size = s.heap.objs.size + 1 from Heap.size_push ..]
  rw [List.forIn_nil]
  exact wpAny_bind (wpAny_pure (wpAny_pure h))
theorem lookup_relS {sc : Scope} : ∀ {names : List (Str × NameKind)} {x : Str} {k : NameKind},
    (names.map fun (n, k) => if (k == NameKind.free && sc.kind == .function && sc.names.lookup n == some .cell) then (n, NameKind.cell) else (n, k)).lookup x = some k →
    ∃ k', names.lookup x = some k' ∧ (k = k' ∨ (k' = .free ∧ k = .cell))
  | [], _, _, h => by simp at h
  | (n, k₀) :: r, x, k, h => by
    have ih := @lookup_relS sc r x k
    have h' : List.lookup x ((if (k₀ == NameKind.free && sc.kind == .function && sc.names.lookup n == some .cell) = true then (n, NameKind.cell) else (n, k₀)) :: (r.map _)) = some k := h
    cases hx : x == n with
    | true =>
      simp only [List.lookup_cons, hx]
      by_cases hc : (k₀ == NameKind.free && sc.kind == .function && sc.names.lookup n == some .cell) = true
      · rw [if_pos hc] at h'
        simp only [List.lookup_cons, hx] at h'
        cases h'
        simp only [Bool.and_eq_true, beq_iff_eq] at hc
        exact ⟨k₀, rfl, .inr ⟨hc.1.1, rfl⟩⟩
      · rw [if_neg hc] at h'
        simp only [List.lookup_cons, hx] at h'
        cases h'
        exact ⟨_, rfl, .inl rfl⟩
    | false =>
      simp only [List.lookup_cons, hx]
      by_cases hc : (k₀ == NameKind.free && sc.kind == .function && sc.names.lookup n == some .cell) = true
      · rw [if_pos hc] at h'
        simp only [List.lookup_cons, hx] at h'
        exact ih h'
      · rw [if_neg hc] at h'
        simp only [List.lookup_cons, hx] at h'
        exact ih h'
structure BlkOk (N : List Str) (sc scope : Scope) (own : List (Str × Nat)) : Prop where
  kind : scope.kind = .function
  uniq : ∀ y ∈ scope.names, scope.names.lookup y.1 = some y.2
  ix : ∀ p ∈ own, N[p.2]? = some p.1
  free : ∀ y ∈ scope.names, y.2 = .free → sc.names.lookup y.1 = some .cell ∨ sc.names.lookup y.1 = some .free
  own : ∀ y ∈ scope.names, y.2 = .local ∨ y.2 = .cell → y.1 ∈ own.map (·.1) ∨ y.1 ∉ N
def wipe (σ : St) : List Nat → St
  | [] => σ
  | v :: vs => (wipe σ vs).set v none
theorem wipe_length (σ : St) : ∀ vs : List Nat, (wipe σ vs).length = σ.length
  | [] => rfl
  | v :: vs => by unfold wipe; rw [List.length_set, wipe_length σ vs]
theorem wipe_some {σ : St} {i : Nat} {x : V} : ∀ {vs : List Nat}, (wipe σ vs)[i]? = some (some x) → σ[i]? = some (some x) ∧ i ∉ vs
  | [], h => ⟨h, by simp⟩
  | v :: vs, h => by
    unfold wipe at h
    by_cases hi : v = i
    · subst hi
      by_cases hv : v < (wipe σ vs).length
      · rw [List.getElem?_set_self hv] at h; cases h
      · rw [List.getElem?_eq_none (by simpa using hv)] at h; cases h
    · rw [List.getElem?_set_ne hi] at h
      obtain ⟨h1, h2⟩ := wipe_some h
      exact ⟨h1, by simp only [List.mem_cons, not_or]; exact ⟨fun e => hi e.symm, h2⟩⟩
abbrev Cx.blk (X : Cx) (s : Shared) (H : Hp) (scope : Scope) (cenv : Env) (fp : List Addr) : Cx := { X with s_0 := s, H_0 := H, env := cenv, outer := X.stack, ex := fp, fn := fun x => scope.names.lookup x == some .cell, pn := [], xe := fun _ _ => False }
section
variable {X : Cx} {pins : List (Addr × Obj)} {σ : St} {H : Hp} {s : Shared}
theorem block_start {scope : Scope} {own : List (Str × Nat)} {fp : List Addr} (I : Inv X pins σ H s) (ok : BlkOk X.N X.env.scope scope own) (hN : X.N.Nodup) (hfp : ∀ b ∈ fp, FpOk X pins H b ∧ b < s.heap.objs.size) :
    Inv (X.blk s H scope (compEnvC scope (cellsFrom (s.heap.objs.size + 1) scope.names (cloFrom X.env.cells scope.names [])) s.heap.objs.size X.env) fp) [] (wipe σ (own.map (·.2))) H { s with heap := pushCells (s.heap.push { cls := .type "dict", data := .dict #[] }) scope.names } := by
  have hfree : ∀ y ∈ scope.names, y.2 = .free → ∃ c, X.env.cells.lookup y.1 = some c := fun y hy e => by
    rcases ok.free y hy e with k | k
    · exact I.ok.has _ (.inl k)
    · exact I.ok.has _ (.inr k)
  generalize hcenv : compEnvC scope (cellsFrom (s.heap.objs.size + 1) scope.names (cloFrom X.env.cells scope.names [])) s.heap.objs.size X.env = cenv
  have kp : ∀ b o, s.heap.get? b = some o → (pushCells (s.heap.push { cls := .type "dict", data := .dict #[] }) scope.names).get? b = some o := fun b o e => pushCells_keeps _ _ _ _ (Heap.get?_push_of_some _ e)
  have hL : cenv.locals = s.heap.objs.size := by rw [← hcenv]; rfl
  have hcl : cenv.cells = cellsFrom (s.heap.objs.size + 1) scope.names (cloFrom X.env.cells scope.names []) := by rw [← hcenv]; rfl
  have hsc : cenv.scope = relS scope X.env.scope := by rw [← hcenv]; rfl
  rw [← Heap.size_push s.heap { cls := .type "dict", data := .dict #[] }] at hcl
  have cm : ∀ {y c}, (y, c) ∈ cloFrom X.env.cells scope.names [] → X.env.cells.lookup y = some c ∧ c < s.heap.objs.size := fun {y c} hm => by
    rcases cloFrom_mem hm with hm | ⟨h1, rfl⟩
    · cases hm
    · obtain ⟨c, hc⟩ := hfree _ h1 rfl
      rw [hc]
      obtain ⟨w, z⟩ := I.cell _ _ hc
      exact ⟨rfl, z.lt⟩
  have mem : ∀ {y c}, cenv.cells.lookup y = some c → (X.env.cells.lookup y = some c ∧ c < s.heap.objs.size) ∨ (s.heap.objs.size + 1 ≤ c ∧ CellAt (pushCells (s.heap.push { cls := .type "dict", data := .dict #[] }) scope.names) c none) := fun {y c} e => by
    rw [hcl] at e
    rcases cells_mem (PySem.mem_of_lookup e) with hm | ⟨_, h2, h3⟩
    · exact .inl (cm hm)
    · rw [Heap.size_push] at h2; exact .inr ⟨h2, h3⟩
  have look : ∀ {y}, scope.names.lookup y = some .free → ∃ c, cenv.cells.lookup y = some c ∧ X.env.cells.lookup y = some c := fun {y} hl => by
    have hy : (y, NameKind.free) ∈ scope.names := PySem.mem_of_lookup hl
    obtain ⟨c', e'⟩ := mem_lookup (cells_acc (names := scope.names) (n := (s.heap.push { cls := .type "dict", data := .dict #[] }).objs.size) (cloFrom_has (cells := X.env.cells) (acc := []) hy))
    rw [← hcl] at e'
    refine ⟨c', e', ?_⟩
    rw [hcl] at e'
    rcases cells_mem (PySem.mem_of_lookup e') with hm | ⟨h1, _, _⟩
    · exact (cm hm).1
    · have := ok.uniq _ h1
      rw [hl] at this; cases this
  have okB : (X.blk s H scope cenv fp).Ok := by
    refine ⟨I.ok.mod, by show cenv.scope.kind = _; rw [hsc]; exact ok.kind, by show cenv.globals = _; rw [← hcenv]; exact I.ok.glob, by show cenv.builtins = _; rw [← hcenv]; exact I.ok.blt, by show s.heap.objs.size ≤ cenv.locals; rw [hL]; exact Nat.le_refl _,
      fun y z c e1 e2 => ?_, fun y hy => ?_, fun y c z e => ?_, I.ok.hd, I.ok.frames, .inl rfl, fun b hb => ⟨?_, fun y c e z => ?_⟩, I.bs, Nat.le_trans I.ok.bsz I.sz, fun b o e hb => ?_, fun b hb z => ?_, I.stack, I.stkFree⟩
    · have e1 : cenv.cells.lookup y = some c := e1
      have e2 : cenv.cells.lookup z = some c := e2
      rw [hcl] at e1 e2
      refine cells_inj (fun p hp => ?_) (fun y z c a b => I.ok.inj y z c (cm a).1 (cm b).1) (PySem.mem_of_lookup e1) (PySem.mem_of_lookup e2)
      rw [Heap.size_push]
      exact Nat.lt_succ_of_lt (cm (y := p.1) (c := p.2) hp).2
    · show ∃ c, cenv.cells.lookup y = some c
      have key : ∀ k, cenv.kindOf y = some k → (k = .cell ∨ k = .free) → ∃ c, cenv.cells.lookup y = some c := fun k hk hk' => by
        unfold Env.kindOf at hk
        rw [hsc] at hk
        obtain ⟨k', e, r⟩ := lookup_relS hk
        have : k' = .cell ∨ k' = .free := by
          rcases r with rfl | ⟨rfl, _⟩
          · exact hk'
          · exact .inr rfl
        rcases this with rfl | rfl
        · obtain ⟨c, hm⟩ := cells_has (n := (s.heap.push { cls := .type "dict", data := .dict #[] }).objs.size) (acc := cloFrom X.env.cells scope.names []) (PySem.mem_of_lookup e)
          obtain ⟨c', e'⟩ := mem_lookup hm
          exact ⟨c', by rw [hcl]; exact e'⟩
        · obtain ⟨c, h1, _⟩ := look e
          exact ⟨c, h1⟩
      rcases hy with hy | hy
      · exact key _ hy (.inl rfl)
      · exact key _ hy (.inr rfl)
    · have z : (scope.names.lookup y == some NameKind.cell) = true := z
      have z : scope.names.lookup y = some .cell := by simpa using z
      have e : cenv.cells.lookup y = some c := e
      rw [hcl] at e
      rcases cells_mem (PySem.mem_of_lookup e) with hm | ⟨_, h2, _⟩
      · rcases cloFrom_mem hm with hm | ⟨h1, _⟩
        · cases hm
        · have q := ok.uniq _ h1
          rw [z] at q; cases q
      · rw [Heap.size_push] at h2
        exact Nat.le_of_succ_le h2
    · show b ≠ cenv.locals
      rw [hL]; exact Nat.ne_of_lt (hfp b hb).2
    · have e : cenv.cells.lookup y = some c := e
      rcases mem e with ⟨h1, _⟩ | ⟨h1, _⟩
      · exact (hfp b hb).1.2.2.2.2.1 y c h1 z
      · have h2 : s.heap.objs.size + 1 ≤ b := by rw [← z]; exact h1
        exact absurd (Nat.lt_of_lt_of_le (hfp b hb).2 (Nat.le_of_succ_le h2)) (Nat.lt_irrefl _)
    · rcases (hfp b hb).1.2.2.2.1 with z | z
      · exact I.ok.noex b o e z
      · exact absurd (Nat.lt_of_lt_of_le (Heap.lt_size e) (Nat.le_trans I.ok.bsz z)) (Nat.lt_irrefl _)
    · rcases List.mem_cons.mp (I.stkSub b z) with z | z
      · exact (hfp b hb).1.2.1 z
      · exact (hfp b hb).1.2.2.1 z
  refine ⟨okB, rfl, I.bare, Un.kept kp, ⟨fun _ => none, ?_, fun i y av e1 e2 e3 => ?_⟩, fun y c e => ?_, ?_, fun y c e => ?_, fun p hp => ?_, I.hok.kept kp, by rw [wipe_length]; exact I.len⟩
  · show Heap.Ns _ cenv.locals _
    rw [hL]
    exact Heap.Ns.keeps (Heap.Ns.new ..) fun b o e => pushCells_keeps _ _ _ _ e
  · obtain ⟨e2, hne⟩ := wipe_some e2
    have hfr : scope.names.lookup y = some .free ∧ (cenv.kindOf y = some .cell ∨ cenv.kindOf y = some .free) := by
      have key : ∀ k, cenv.scope.names.lookup y = some k → k = .local ∨ k = .cell ∨ k = .free → scope.names.lookup y = some .free ∧ (cenv.kindOf y = some .cell ∨ cenv.kindOf y = some .free) := fun k hk hk' => by
        have hk0 := hk
        rw [hsc] at hk
        obtain ⟨k', e, r⟩ := lookup_relS hk
        have no : ¬ (k' = .local ∨ k' = .cell) := fun hh => by
          rcases ok.own _ (PySem.mem_of_lookup e) hh with e' | e'
          · obtain ⟨p, hp, hpy⟩ := List.mem_map.mp e'
            have e3 := ok.ix p hp
            have : p.1 = y := hpy
            rw [this] at e3
            exact hne (List.mem_map.mpr ⟨p, hp, nodup_ix hN e3 e1⟩)
          · exact e' (List.mem_of_getElem? e1)
        rcases r with rfl | ⟨rfl, rfl⟩
        · rcases hk' with rfl | rfl | rfl
          · exact absurd (.inl rfl) no
          · exact absurd (.inr rfl) no
          · exact ⟨e, .inr hk0⟩
        · exact ⟨e, .inl hk0⟩
      have e3 : Vis cenv.scope y := e3
      rcases e3 with e3 | e3 | e3
      · exact key _ e3 (.inl rfl)
      · exact key _ e3 (.inr (.inl rfl))
      · exact key _ e3 (.inr (.inr rfl))
    obtain ⟨m, hn, hl⟩ := I.loc
    have hvis : Vis X.env.scope y := (ok.free _ (PySem.mem_of_lookup hfr.1) rfl).elim (fun k => .inr (.inl k)) (fun k => .inr (.inr k))
    obtain ⟨w, r, q⟩ := hl i y av e1 e2 hvis
    refine ⟨w, r, .inr ⟨hfr.2, ?_⟩⟩
    obtain ⟨c, h1, h2⟩ := look hfr.1
    rcases q with ⟨k, _⟩ | ⟨_, c', e', z⟩
    · have k : X.env.scope.names.lookup y = some .local := k
      rcases ok.free _ (PySem.mem_of_lookup hfr.1) rfl with k' | k' <;> rw [show X.env.scope.names.lookup y = _ from k'] at k <;> cases k
    · rw [h2] at e'; cases e'
      exact ⟨c, h1, z.keeps kp⟩
  · have e : cenv.cells.lookup y = some c := e
    rcases mem e with ⟨h1, _⟩ | ⟨_, z⟩
    · obtain ⟨w, z⟩ := I.cell y c h1
      exact ⟨w, z.keeps kp⟩
    · exact ⟨_, z⟩
  · show H cenv.locals = none
    rw [hL]; exact I.hok.fresh (Nat.le_refl _)
  · have e : cenv.cells.lookup y = some c := e
    rcases mem e with ⟨h1, _⟩ | ⟨h1, _⟩
    · exact I.freeC y c h1
    · exact I.hok.fresh (Nat.le_of_succ_le h1)
  · exact absurd (show p ∈ ([] : List (Addr × Obj)) ++ [] from hp) (by simp)
theorem app_ok {E : Value → Shared → Prop} {D : Addr} {xs : List V} {y : V} {v : Value} {Q : Value → Shared → Prop} (I : Inv X pins σ H s) (hD : H D = some (.lst xs)) (hz : xs.length < sizeLine) (r : RelV y v)
    (h : ∀ s', Inv X pins σ (upd H D (.lst (xs ++ [y]))) s' → Q .none s') : wpAny (model X.prog X.w) X.A (call (.builtin "list.append") [.ref D, v]) Q E s := by
  obtain ⟨hz', its, n, ri, e⟩ := I.hok D _ hD
  have hl := ri.length
  refine append_at (hsz := by rw [List.size_toArray]; omega) e fun h' sb ho' => ?_
  refine h { s with heap := h' } (I.write (t' := s.toks) (by rw [hD]; trivial) (.inl rfl) (fun b u hb q => (sb.2 b hb).trans q) ⟨_, ho'⟩ ⟨by rw [List.length_append]; exact hz, its ++ [v], n + 1, ri.append (.cons r .nil), ?_⟩)
  rw [ho']
  simp
def PTs (X : Cx) (ifs : List Expr) (t : TT) : Prop :=
  ∀ (pins : List (Addr × Obj)) (s : Shared) (σ : St) (H : Hp) (Q : Bool → Hp → Prop), Inv X pins σ H s → t σ H Q →
    wpAny (model X.prog X.w) X.A (forIn ifs true fun c r => if r = true then do let ok ← isTrue c X.env (eval c X.env); pure (ForInStep.yield ok) else pure (ForInStep.yield r)) (TP X pins σ Q) X.xe s
def tYes : TT := fun _ H Q => Q true H
theorem pts_nil : PTs X [] tYes := fun _ _ _ H _ I h => wpAny_tests_nil ⟨H, I, h⟩
theorem pts_one {c : Expr} {t : TT} (h : PT X c t) : PTs X [c] t := fun pins s σ H Q I hw => wpAny_tests_one (h pins s σ H Q I hw)
end
theorem thnF {α : Type} {t : Sem α} {Q Q' : α → Shared → Prop} {M : Model} {A : Around} {E : Value → Shared → Prop} {s : Shared} (h : wpAny M A t Q (fun _ _ => False) s) (hQ : ∀ a s, Q a s → Q' a s) : wpAny M A t Q' E s := wpAny_mono h hQ fun _ _ z => False.elim z
theorem compLoop_any {prog : Program} {w : World} {A : Around} {R : Result → Shared → Prop} {s : Shared} {elt target iter : Expr} {ifs : List Expr} {scope : Scope} {pos : Pos} {it acc : Value} {env : Env} (I : Nat → Shared → Prop)
    (turn : ∀ n s, I n s → wpAny (model prog w) A (pyNext it) (fun r s₁ => match r with
      | none => R (.ok .next) s₁
      | some v => wpAny (model prog w) A (letOwnedTupleGo target it v) (fun _ s₁' => wpAny (model prog w) A (assign target env v) (fun _ s₂ =>
          wpAny (model prog w) A (forIn ifs true fun c r => if r = true then do let ok ← isTrue c env (eval c env); pure (ForInStep.yield ok) else pure (ForInStep.yield r)) (fun ok s₃ =>
            if ok = true then wpAny (model prog w) A (eval elt env) (fun x s₄ =>
              wpAny (model prog w) A (call (.builtin "list.append") [acc, x]) (fun _ s₅ => ∃ m, m < n ∧ I m s₅) (notedBy (model prog w) A env fun e s' => R (.error e) s') s₄) (notedBy (model prog w) A env fun e s' => R (.error e) s') s₃
            else ∃ m, m < n ∧ I m s₃) (notedBy (model prog w) A env fun e s' => R (.error e) s') s₂) (notedBy (model prog w) A env fun e s' => R (.error e) s') s₁') (notedBy (model prog w) A env fun e s' => R (.error e) s') s₁) (notedBy (model prog w) A env fun e s' => R (.error e) s') s)
    (n : Nat) (h : I n s) :
    codeAny (model prog w) A (.compLoop (.ListComp elt [⟨target, iter, ifs, 0⟩] scope pos) 0 it acc env) R s := by
  refine codeAny_loop rfl I (fun n s hI => ?_) n h
  show wpAny _ A ((compTurn (.ListComp elt [⟨target, iter, ifs, 0⟩] scope pos) 0 it acc env).onRaise (fun x => do noteFrame x env; theTreesLotGoes x)) _ _ s
  refine wpAny_noted ?_
  rw [compTurn_list]
  refine wpAny_bind (wpAny_standAt (wpAny_bind (wpAny_mono (turn n s hI) (fun r s₁ h₁ => ?_) fun _ _ h' => h')))
  cases r with
  | none => exact wpAny_pure h₁
  | some v =>
    refine wpAny_bind (wpAny_mono h₁ (fun _ s₁' h₁' => ?_) fun _ _ h' => h')
    refine wpAny_bind (wpAny_mono h₁' (fun _ s₂ h₂ => wpAny_bind (wpAny_mono h₂ (fun ok s₃ h₃ => ?_) fun _ _ h' => h')) fun _ _ h' => h')
    cases ok with
    | false => exact wpAny_pure ⟨rfl, h₃⟩
    | true =>
      exact wpAny_bind (wpAny_bind (wpAny_mono h₃ (fun x s₄ h₄ => wpAny_bind (wpAny_mono h₄ (fun _ s₅ h₅ => wpAny_pure (wpAny_pure ⟨rfl, h₅⟩)) fun _ _ h' => h')) fun _ _ h' => h'))
section
variable {X : Cx}
def tLc (wi : TI) (g : TG) (tt : TT) (te : TE) (vs : List Nat) : TE := fun σ H Q => wi σ H fun J H1 => ∀ D, H1 D = none → ∃ W : Nat → Nat → Hp → Prop, (∃ m, W 0 m (upd H1 D (.lst []))) ∧ ∀ i m H, W i m H →
  (J.stop i H ∧ Q (.ref D) H) ∨ (J.go i H ∧ ∃ Nx : Hp → Prop, (∀ H', Nx H' → ∃ m', m' < m ∧ W (i + 1) m' H') ∧ ∀ x H', J.yld i H x H' → g x (wipe σ vs) H' fun σ2 H2 => wipe σ2 vs = wipe σ vs ∧ tt σ2 H2 fun b H3 =>
    if b = true then te σ2 H3 fun y H4 => ∃ acc, H4 D = some (.lst acc) ∧ acc.length < sizeLine ∧ Nx (upd H4 D (.lst (acc ++ [y]))) else Nx H3)
theorem lc_core {pins : List (Addr × Obj)} {s : Shared} {σ : St} {H : Hp} {Q : VK} {elt tg iter : Expr} {ifs : List Expr} {scope : Scope} {own : List (Str × Nat)} {pos pos' : Pos} {wi : TI} {g : TG} {tt : TT} {te : TE} {use : Option (Value → Sem Unit)} {Qf : Value → Shared → Prop}
    (hc : X.calm = true) (hN : X.N.Nodup) (I : Inv X pins σ H s) (hi : PI X tg iter wi) (ok : BlkOk X.N X.env.scope scope own)
    (hg : ∀ (s : Shared) (H : Hp) (C : Addr) (cl : List (Str × Addr)) (fp : List Addr), PG (X.blk s H scope (compEnvC scope cl C X.env) fp) tg g) (ht : ∀ (s : Shared) (H : Hp) (C : Addr) (cl : List (Str × Addr)) (fp : List Addr), PTs (X.blk s H scope (compEnvC scope cl C X.env) fp) ifs tt)
    (he : ∀ (s : Shared) (H : Hp) (C : Addr) (cl : List (Str × Addr)) (fp : List Addr), PE (X.blk s H scope (compEnvC scope cl C X.env) fp) elt te) (hs : ∀ x, foldedSetIterable iter X.env x = pure x)
    (h : tLc wi g tt te (own.map (·.2)) σ H Q)
    (hRR : ∀ D C s' m H', Inv X pins σ H' s' → Q (.ref D) H' → s'.heap.Ns C m → FpOk X pins H' C → compPost (model X.prog X.w) X.A X.xe use Qf (.ref D) C (.ok .next) s') :
    wpAny (model X.prog X.w) X.A (comprehension (.ListComp elt [⟨tg, iter, ifs, 0⟩] scope pos) scope X.env pos' (newList []) false (eval iter X.env) use) Qf X.xe s := by
  have hfree : ∀ y ∈ scope.names, y.2 = .free → ∃ c, X.env.cells.lookup y.1 = some c := fun y hy e => by
    rcases ok.free y hy e with k | k
    · exact I.ok.has _ (.inl k)
    · exact I.ok.has _ (.inr k)
  refine wpAny_comprehension_free (use := use) rfl hs (closure_ok hfree) ok.kind (fun y hy e => by rw [ok.uniq y hy, e])
    (thn (hi pins s σ H _ I h) fun xv s1 hx => thn hx fun itv s2 h2 => ?_)
  obtain ⟨it, fp, tn, J, H2, e, I2, T, st2, f2, q⟩ := h2
  subst e
  refine wpAny_newObj_type (newEnv_comp ?_) (by show 0 ≤ sizeLine; decide)
  generalize hD : s2.heap.objs.size = D
  have hDn : H2 D = none := I2.hok.fresh (Nat.le_of_eq hD)
  obtain ⟨W, ⟨m0, w0⟩, turn⟩ := q D hDn
  -- the new list
  generalize hs3 : ({ s2 with heap := s2.heap.push { cls := .type "list", data := .seq ([] : List Value).toArray } } : Shared) = s3
  have I3 : Inv X pins σ (upd H2 D (.lst [])) s3 := by
    rw [← hs3]
    refine I2.laid (t' := s2.toks) (fun b o e => Heap.get?_push_of_some _ e) (Nat.le_of_eq hD) ⟨Nat.zero_le _, [], 0, .nil, ?_⟩
    rw [← hD]
    exact Heap.get?_push_size _ rfl
  have h3 : s3.heap = s2.heap.push { cls := .type "list", data := .seq ([] : List Value).toArray } := by rw [← hs3]
  have sz : ∀ b ∈ fp, b < s2.heap.objs.size := fun b hb => by
    obtain ⟨o, e, _⟩ := T.obj _ _ st2 b hb
    exact Heap.lt_size e
  have f3 : ∀ b ∈ fp, FpOk X pins (upd H2 D (.lst [])) b ∧ b < s3.heap.objs.size := fun b hb => by
    have hlt := sz b hb
    refine ⟨⟨?_, (f2 b hb).2⟩, by rw [h3, Heap.size_push]; exact Nat.lt_succ_of_lt hlt⟩
    rw [upd_ne (by rw [← hD]; exact Nat.ne_of_lt hlt)]
    exact (f2 b hb).1
  have st3 : tn 0 s3.heap := T.keep _ _ _ st2 fun b _ o e => by rw [h3]; exact Heap.get?_push_of_some _ e
  have I4 := block_start I3 ok hN f3
  have pg := hg s3 (upd H2 D (.lst [])) s3.heap.objs.size (cellsFrom (s3.heap.objs.size + 1) scope.names (cloFrom X.env.cells scope.names [])) fp
  have pt := ht s3 (upd H2 D (.lst [])) s3.heap.objs.size (cellsFrom (s3.heap.objs.size + 1) scope.names (cloFrom X.env.cells scope.names [])) fp
  have pe := he s3 (upd H2 D (.lst [])) s3.heap.objs.size (cellsFrom (s3.heap.objs.size + 1) scope.names (cloFrom X.env.cells scope.names [])) fp
  show codeAny _ _ (.compStart (.ListComp elt [⟨tg, iter, ifs, 0⟩] scope pos) 0 (.ref it) (.ref D) (compEnvC scope (cellsFrom (s3.heap.objs.size + 1) scope.names (cloFrom X.env.cells scope.names [])) s3.heap.objs.size X.env)) (compPost (model X.prog X.w) X.A X.xe use Qf (.ref D) s3.heap.objs.size) { s3 with heap := pushCells (s3.heap.push { cls := .type "dict", data := .dict #[] }) scope.names }
  have nfp : ∀ b ∈ fp, (upd H2 D (.lst [])) b = none := fun b hb => (f3 b hb).1.1
  generalize hce : compEnvC scope (cellsFrom (s3.heap.objs.size + 1) scope.names (cloFrom X.env.cells scope.names [])) s3.heap.objs.size X.env = ce at I4 pg pt pe ⊢
  have cL : ce.locals = s3.heap.objs.size := by subst hce; rfl
  generalize hH3 : upd H2 D (.lst []) = H3 at I3 I4 pg pt pe w0 nfp f3
  generalize hs4 : ({ s3 with heap := pushCells (s3.heap.push { cls := .type "dict", data := .dict #[] }) scope.names } : Shared) = s4 at I4 ⊢
  have st4 : tn 0 s4.heap := T.keep _ _ _ st3 fun b _ o e => by rw [← hs4]; exact pushCells_keeps _ _ _ _ (Heap.get?_push_of_some _ e)
  have stat : ∀ {σ' : St} {H' : Hp} {s' : Shared}, Inv (X.blk s3 H3 scope ce fp) [] σ' H' s' → (∀ b ∈ fp, H' b = none) → ∀ b ∈ fp, FpOk (X.blk s3 H3 scope ce fp) [] H' b := fun {σ' H' s'} I' hn b hb =>
    ⟨hn b hb, (I'.ok.exf b hb).1, I'.ok.exfs b hb, .inl hb, fun x c e => (I'.ok.exf b hb).2 x c e, fun p hp => absurd (show p ∈ ([] : List (Addr × Obj)) ++ [] from hp) (by simp)⟩
  have loop : codeAny (model X.prog X.w) X.A (.compLoop (.ListComp elt [⟨tg, iter, ifs, 0⟩] scope pos) 0 (.ref it) (.ref D) ce) (compPost (model X.prog X.w) X.A X.xe use Qf (.ref D) s3.heap.objs.size) s4 := by
    refine compLoop_any (fun n s' => ∃ i H', Inv (X.blk s3 H3 scope ce fp) [] (wipe σ (own.map (·.2))) H' s' ∧ tn i s'.heap ∧ (∀ b ∈ fp, H' b = none) ∧ W i n H') ?_ m0 ⟨0, H3, I4, st4, nfp, w0⟩
    rintro n s5 ⟨i, H5, I5, st5, n5, w5⟩
    rcases turn i n H5 w5 with ⟨stop, qq⟩ | ⟨go, Nx, hNx, step⟩
    · have td := T.done (X.blk s3 H3 scope ce fp) rfl rfl rfl hc i [] s5 _ H5 (fun _ _ => False) I5 (stat I5 n5) st5 stop
      refine thnF td fun r s6 ⟨hr, I6⟩ => ?_
      subst hr
      -- back in the def's context
      have I7 : Inv X pins σ H5 s6 := I3.call' (ch := fp) I6.os I6.base I6.hok I6.bare fun b hb => ⟨(f3 b hb).1.2.2.2.1, (f3 b hb).1.2.1, (f3 b hb).1.2.2.2.2.1, (f3 b hb).1.2.2.2.2.2⟩
      have nC : H5 s3.heap.objs.size = none := by
        have z : H5 ce.locals = none := I6.free
        rw [cL] at z
        exact z
      obtain ⟨m, hn, _⟩ := I6.loc
      have hn : s6.heap.Ns ce.locals m := hn
      rw [cL] at hn
      exact hRR D s3.heap.objs.size s6 m H5 I7 qq hn (I3.fpOk (Nat.le_refl _) nC)
    · have ti := T.item (X.blk s3 H3 scope ce fp) rfl rfl rfl hc i [] s5 _ H5 (fun _ _ => False) I5 (stat I5 n5) st5 go
      refine thnF ti fun r s6 ⟨u, hr, h6⟩ => ?_
      subst hr
      refine thnF h6 fun _ s7 ⟨x, H7, I7, r7, y7, st7, n7⟩ => ?_
      have I7' := I7.pinned (stat I7 n7) (T.obj _ _ st7)
      refine thnF (pg _ s7 _ H7 x u _ I7' r7 (step x H7 y7)) fun _ s8 ⟨σ8, H8, I8, hw8, q8⟩ => ?_
      refine thnF (pt _ s8 σ8 H8 _ I8 q8) fun b s9 ⟨H9, I9, q9⟩ => ?_
      -- the turn's end
      have fin : ∀ {s' : Shared} {H' : Hp}, Inv (X.blk s3 H3 scope ce fp) ([] ++ pinsAt fp s7.heap) σ8 H' s' → Nx H' → ∃ m, m < n ∧ ∃ i H', Inv (X.blk s3 H3 scope ce fp) [] (wipe σ (own.map (·.2))) H' s' ∧ tn i s'.heap ∧ (∀ b ∈ fp, H' b = none) ∧ W i m H' := fun {s' H'} I' nx => by
        obtain ⟨m', hm, w'⟩ := hNx H' nx
        have pin' : ∀ b ∈ fp, ∀ o, s7.heap.get? b = some o → s'.heap.get? b = some o ∧ H' b = none := fun b hb o e =>
          let z := I'.pin (b, o) (List.mem_append_right _ (List.mem_append_right _ (mem_pinsAt hb e)))
          ⟨z.1, z.2.1⟩
        have hl : (wipe σ (own.map (·.2))).length = σ8.length := by rw [← hw8, wipe_length]
        refine ⟨m', hm, i + 1, H', (I'.unpinned (pins := [])).weak hl (fun j v e => ?_), T.keep _ _ _ st7 fun b hb o e => (pin' b hb o e).1, fun b hb => ?_, w'⟩
        · rw [← hw8] at e
          exact (wipe_some e).1
        · obtain ⟨o, e, _⟩ := T.obj _ _ st7 b hb
          exact (pin' b hb o e).2
      cases b with
      | false =>
        simp only [Bool.false_eq_true, if_false] at q9 ⊢
        exact fin I9 q9
      | true =>
        simp only [if_true] at q9 ⊢
        refine thnF (pe _ s9 σ8 H9 _ I9 q9) fun z s10 ⟨yv, H10, I10, r10, acc, hD10, hz10, nx⟩ => ?_
        exact app_ok (X := X.blk s3 H3 scope ce fp) I10 hD10 hz10 r10 fun s11 I11 => fin I11 nx
  exact codeAny_compStart_list loop (T.self X.A 0 _ _ _ st4 loop)
theorem pe_lc {elt tg iter : Expr} {ifs : List Expr} {scope : Scope} {own : List (Str × Nat)} {pos : Pos} {wi : TI} {g : TG} {tt : TT} {te : TE} (hc : X.calm = true) (hN : X.N.Nodup) (hi : PI X tg iter wi) (ok : BlkOk X.N X.env.scope scope own)
    (hg : ∀ (s : Shared) (H : Hp) (C : Addr) (cl : List (Str × Addr)) (fp : List Addr), PG (X.blk s H scope (compEnvC scope cl C X.env) fp) tg g) (ht : ∀ (s : Shared) (H : Hp) (C : Addr) (cl : List (Str × Addr)) (fp : List Addr), PTs (X.blk s H scope (compEnvC scope cl C X.env) fp) ifs tt)
    (he : ∀ (s : Shared) (H : Hp) (C : Addr) (cl : List (Str × Addr)) (fp : List Addr), PE (X.blk s H scope (compEnvC scope cl C X.env) fp) elt te) (hs : ∀ x, foldedSetIterable iter X.env x = pure x := by intro _; rfl) :
    PE X (.ListComp elt [⟨tg, iter, ifs, 0⟩] scope pos) (tLc wi g tt te (own.map (·.2))) := by
  intro pins s σ H Q I h
  rw [eval_ListComp]
  refine lc_core hc hN I hi ok hg ht he hs h fun D C s' m H' I' q hn f => ⟨m, hn, fun h'' sb => ?_⟩
  obtain ⟨f0, f1, f2, f3, f4, f5⟩ := f
  exact ⟨.ref D, H', I'.turned (t' := s'.toks) (fun b o hb e => (sb.2 b hb).trans e) f0 f1 f3 f4 f5, rfl, q⟩
theorem ps_setLc {i : Nat} {y : Str} {py : Pos} {elt tg iter : Expr} {ifs : List Expr} {scope : Scope} {own : List (Str × Nat)} {pos spos : Pos} {wi : TI} {g : TG} {tt : TT} {te : TE} (hc : X.calm = true) (hN : X.N.Nodup) (hy : X.N[i]? = some y) (hyl : X.env.scope.names.lookup y = some .local)
    (hsw : swapsWith (.ListComp elt [⟨tg, iter, ifs, 0⟩] scope pos) (some (.Name y py)) spos.line X.env = pure true) (hi : PI X tg iter wi) (ok : BlkOk X.N X.env.scope scope own)
    (hg : ∀ (s : Shared) (H : Hp) (C : Addr) (cl : List (Str × Addr)) (fp : List Addr), PG (X.blk s H scope (compEnvC scope cl C X.env) fp) tg g) (ht : ∀ (s : Shared) (H : Hp) (C : Addr) (cl : List (Str × Addr)) (fp : List Addr), PTs (X.blk s H scope (compEnvC scope cl C X.env) fp) ifs tt)
    (he : ∀ (s : Shared) (H : Hp) (C : Addr) (cl : List (Str × Addr)) (fp : List Addr), PE (X.blk s H scope (compEnvC scope cl C X.env) fp) elt te) (hs : ∀ x, foldedSetIterable iter X.env x = pure x := by intro _; rfl) :
    PS X (.Assign [.Name y py] (.ListComp elt [⟨tg, iter, ifs, 0⟩] scope pos) spos) (tAsg (tLc wi g tt te (own.map (·.2))) (gName i)) := by
  intro pins s σ H D I h
  rw [exec_Assign_Name_used _ _ _ _ hsw]
  refine wpAny_bind (wpAny_standAt (wpAny_bind ?_))
  show wpAny _ X.A (do let _ ← comprehension (.ListComp elt [⟨tg, iter, ifs, 0⟩] scope pos) scope X.env (firstIterPos [⟨tg, iter, ifs, 0⟩] pos) (newList []) false (eval iter X.env) (some (assign (.Name y py) X.env))) _ _ s
  have h : tLc wi g tt te (own.map (·.2)) σ H (fun x H1 => gName i x σ H1 D.nx) := h
  refine wpAny_bind (thn (lc_core (Qf := fun _ s' => SP X pins D .next s') hc hN I hi ok hg ht he hs h fun L C s' m H' I' q hn f => ?_) fun _ s' hq => wpAny_pure (wpAny_pure hq))
  show wpAny _ _ (assign (.Name y py) X.env (.ref L)) _ _ _
  refine wpAny_assign_Name (store_ok2 (v := V.ref L) I' hN hy (.inl hyl) rfl (fun s2 I2 ⟨a, sb, ha⟩ => ?_) (.inr hyl))
  obtain ⟨f0, f1, f2, f3, f4, f5⟩ := f
  have haC : C ≠ a := by
    rcases ha with z | z
    · rw [z]; exact f1
    · exact fun e => f4 y a z e.symm
  refine ⟨m, hn.sameBut sb haC, fun h3 sb3 => ?_⟩
  exact ⟨_, H', I2.turned (t' := s2.toks) (fun b o hb e => (sb3.2 b hb).trans e) f0 f1 f3 f4 f5, q⟩
theorem sw_true {elt : Expr} {gs : List Comprehension} {scope : Scope} {pos py : Pos} {y : Str} {l : Nat} {env : Env} (hk : env.scope.kind = .function) (hy : env.scope.names.lookup y = some .local) (hl : (py.line == pos.line) = true)
    (ha : (scope.names.any fun (n, k) => n == y && (k == .local || k == .cell)) = false) : swapsWith (.ListComp elt gs scope pos) (some (.Name y py)) l env = pure true := by
  have ky : env.kindOf y = some .local := hy
  have hb : env.blockKind = .function := by unfold Env.blockKind; rw [hk]; rfl
  unfold swapsWith
  simp only [hb, ky, ha, Expr.pos, hl]
  rfl
end
def blkC (N : List Str) (sc scope : Scope) (own : List (Str × Nat)) : Bool :=
  (match scope.kind with | .function => true | _ => false) && (scope.names.all fun y => decide (scope.names.lookup y.1 = some y.2)) && (own.all fun p => decide (N[p.2]? = some p.1)) &&
    (scope.names.all fun y => match y.2 with
      | .free => (match sc.names.lookup y.1 with | some .cell => true | some .free => true | _ => false)
      | .local => decide (y.1 ∈ own.map (·.1)) || decide (y.1 ∉ N)
      | .cell => decide (y.1 ∈ own.map (·.1)) || decide (y.1 ∉ N)
      | _ => true)
theorem blkOk_by {N : List Str} {sc scope : Scope} {own : List (Str × Nat)} (h : blkC N sc scope own = true) : BlkOk N sc scope own := by
  unfold blkC at h
  simp only [Bool.and_eq_true, List.all_eq_true, decide_eq_true_eq] at h
  obtain ⟨⟨⟨h1, h2⟩, h3⟩, h4⟩ := h
  refine ⟨?_, h2, h3, fun y hy e => ?_, fun y hy e => ?_⟩
  · split at h1
    · assumption
    · cases h1
  · have q := h4 y hy
    simp only [e] at q
    split at q <;> first | exact .inl (by assumption) | exact .inr (by assumption) | cases q
  · have q := h4 y hy
    rcases e with e | e <;> (simp only [e, Bool.or_eq_true, decide_eq_true_eq] at q; exact q)
end L2
namespace L2
open PySem PySem.Spec PyProof.Rows
end L2
namespace L2
open PySem PySem.Spec PyProof.Rows
section
variable {κ : Type} [DecidableEq κ]
def valV (kvs : List (κ × V)) (k : κ) : Option V := (kvs.find? fun kv => decide (kv.1 = k)).map (·.2)
def putK (kvs : List (κ × V)) (k : κ) (v : V) : List (κ × V) :=
  if (kvs.any fun kv => decide (kv.1 = k)) = true then kvs.map (fun kv => if kv.1 = k then (kv.1, v) else kv) else kvs ++ [(k, v)]
def dropK (kvs : List (κ × V)) (k : κ) : List (κ × V) := kvs.filter fun kv => decide (kv.1 ≠ k)
theorem valV_pos {p : κ × V} {r : List (κ × V)} {k : κ} (e : p.1 = k) : valV (p :: r) k = some p.2 := by simp [valV, List.find?_cons, e]
theorem valV_neg {p : κ × V} {r : List (κ × V)} {k : κ} (e : ¬ p.1 = k) : valV (p :: r) k = valV r k := by simp [valV, List.find?_cons, e]
theorem valV_any (k : κ) : ∀ kvs : List (κ × V), (kvs.any fun kv => decide (kv.1 = k)) = (valV kvs k).isSome
  | [] => rfl
  | p :: r => by
    rw [List.any_cons]
    by_cases e : p.1 = k
    · simp only [valV_pos e, decide_eq_true e, Bool.true_or, Option.isSome_some]
    · rw [valV_neg e, decide_eq_false e, Bool.false_or]; exact valV_any k r
theorem valV_map (k j : κ) (y : V) : ∀ kvs : List (κ × V), valV (kvs.map fun kv => if kv.1 = k then (kv.1, y) else kv) j = (valV kvs j).map fun x => if j = k then y else x
  | [] => rfl
  | p :: r => by
    have ih := valV_map k j y r
    rw [List.map_cons]
    by_cases h : p.1 = k
    · rw [if_pos h]
      by_cases e : p.1 = j
      · rw [valV_pos (p := (p.1, y)) e, valV_pos e, Option.map_some, if_pos (e.symm.trans h)]
      · rw [valV_neg (p := (p.1, y)) e, valV_neg e, ih]
    · rw [if_neg h]
      by_cases e : p.1 = j
      · rw [valV_pos (p := p) e, valV_pos e, Option.map_some, if_neg (fun z => h (e.trans z))]
      · rw [valV_neg (p := p) e, valV_neg e, ih]
theorem valV_snoc (k j : κ) (y : V) : ∀ kvs : List (κ × V), valV kvs k = none → valV (kvs ++ [(k, y)]) j = if j = k then some y else valV kvs j
  | [], _ => by
    by_cases e : k = j
    · rw [if_pos e.symm]; exact valV_pos (p := (k, y)) e
    · rw [if_neg (fun z => e z.symm)]; exact valV_neg (p := (k, y)) e
  | p :: r, hn => by
    rw [List.cons_append]
    have hk : ¬ p.1 = k := fun z => by rw [valV_pos z] at hn; cases hn
    rw [valV_neg hk] at hn
    have ih := valV_snoc k j y r hn
    by_cases e : p.1 = j
    · rw [valV_pos e, valV_pos e, if_neg (fun z => hk (e.trans z))]
    · rw [valV_neg e, valV_neg e, ih]
theorem valV_put (kvs : List (κ × V)) (k j : κ) (y : V) : valV (putK kvs k y) j = if j = k then some y else valV kvs j := by
  unfold putK
  by_cases a : (kvs.any fun kv => decide (kv.1 = k)) = true
  · rw [if_pos a, valV_map]
    rw [valV_any] at a
    by_cases e : j = k
    · obtain ⟨x, hx⟩ := Option.isSome_iff_exists.mp a
      rw [if_pos e, e, hx, Option.map_some, if_pos rfl]
    · rw [if_neg e]
      cases valV kvs j with
      | none => rfl
      | some x => rw [Option.map_some, if_neg e]
  · rw [if_neg a]
    refine valV_snoc k j y kvs ?_
    rw [valV_any] at a
    cases q : valV kvs k with
    | none => rfl
    | some x => rw [q] at a; exact (a rfl).elim
theorem length_putK (kvs : List (κ × V)) (k : κ) (v : V) : (putK kvs k v).length ≤ kvs.length + 1 := by
  unfold putK
  split
  · rw [List.length_map]; omega
  · rw [List.length_append, List.length_cons, List.length_nil]; omega
theorem RelO.isSome_eq {o : Option V} {u : Option Value} (r : RelO o u) : o.isSome = u.isSome := by
  cases o with
  | none => cases u with
    | none => rfl
    | some _ => exact (show False from r).elim
  | some _ => cases u with
    | none => exact (show False from r).elim
    | some _ => rfl
theorem KV.val {kvs : List (κ × V)} {vs : List (κ × Value)} (r : KV kvs vs) (k : κ) : RelO (valV kvs k) (valueAt vs k) := by
  unfold KV at r
  induction r with
  | nil => exact True.intro
  | @cons p q ps qs h t ih =>
    obtain ⟨h1, h2⟩ := h
    by_cases e : p.1 = k
    · have e' : q.1 = k := h1.symm.trans e
      have b : valueAt (q :: qs) k = some q.2 := by simp [valueAt, List.find?_cons, e']
      rw [valV_pos e, b]; exact h2
    · have e' : ¬ q.1 = k := fun z => e (h1.trans z)
      have b : valueAt (q :: qs) k = valueAt qs k := by simp [valueAt, List.find?_cons, e']
      rw [valV_neg e, b]; exact ih
theorem KV.any {kvs : List (κ × V)} {vs : List (κ × Value)} (r : KV kvs vs) (k : κ) : (kvs.any fun kv => decide (kv.1 = k)) = vs.any fun kv => decide (kv.1 = k) := by
  unfold KV at r
  induction r with
  | nil => rfl
  | cons h t ih => rw [List.any_cons, List.any_cons, ih, h.1]
theorem KV.repl {kvs : List (κ × V)} {vs : List (κ × Value)} (r : KV kvs vs) (k : κ) {y : V} {u : Value} (ry : RelV y u) :
    KV (kvs.map fun kv => if kv.1 = k then (kv.1, y) else kv) (vs.map fun kv => if kv.1 = k then (kv.1, u) else kv) := by
  unfold KV at r ⊢
  induction r with
  | nil => exact .nil
  | @cons p q ps qs h t ih =>
    rw [List.map_cons, List.map_cons]
    refine .cons ?_ ih
    obtain ⟨h1, h2⟩ := h
    by_cases e : p.1 = k
    · rw [if_pos e, if_pos (h1.symm.trans e)]; exact ⟨h1, ry⟩
    · rw [if_neg e, if_neg (fun z => e (h1.trans z))]; exact ⟨h1, h2⟩
theorem KV.put {kvs : List (κ × V)} {vs : List (κ × Value)} (r : KV kvs vs) (k : κ) {y : V} {u : Value} (ry : RelV y u) : KV (putK kvs k y) (stored vs k u) := by
  unfold putK stored
  rw [r.any k]
  by_cases e : (vs.any fun kv => decide (kv.1 = k)) = true
  · rw [if_pos e, if_pos e]; exact r.repl k ry
  · rw [if_neg e, if_neg e]; exact Paired.snoc r ⟨rfl, ry⟩
theorem KV.drop {kvs : List (κ × V)} {vs : List (κ × Value)} (r : KV kvs vs) (k : κ) : KV (dropK kvs k) (without vs k) := by
  unfold KV at r ⊢
  unfold dropK without
  induction r with
  | nil => exact .nil
  | @cons p q ps qs h t ih =>
    obtain ⟨h1, h2⟩ := h
    rw [List.filter_cons, List.filter_cons]
    by_cases e : p.1 = k
    · have a : ¬ decide (p.1 ≠ k) = true := by simp [e]
      have b : ¬ decide (q.1 ≠ k) = true := by simp [h1.symm.trans e]
      rw [if_neg a, if_neg b]; exact ih
    · have e' : ¬ q.1 = k := fun z => e (h1.trans z)
      have a : decide (p.1 ≠ k) = true := by simp [e]
      have b : decide (q.1 ≠ k) = true := by simp [e']
      rw [if_pos a, if_pos b]; exact .cons ⟨h1, h2⟩ ih
theorem KV.length {kvs : List (κ × V)} {vs : List (κ × Value)} (r : KV kvs vs) : kvs.length = vs.length := Paired.length r
theorem dropK_le (kvs : List (κ × V)) (k : κ) : (dropK kvs k).length ≤ kvs.length := List.length_filter_le _ _
end
theorem kV_is {P : Program} {w : World} {k : Key} {u : Value} (r : RelV (kV k) u) : (mixKind P w).is k u = true := by
  cases k with
  | inl i => obtain ⟨t, e⟩ := (show ∃ t, u = Value.int i t from r); subst e; exact mixKind_int P w i t
  | inr x => obtain ⟨t, e⟩ := (show ∃ t, u = Value.str x t from r); subst e; exact mixKind_str P w x t
theorem items_are {P : Program} {w : World} : ∀ {ks : List Key} {us : List Value}, Vals (ks.map kV) us → ItemsAre (mixKind P w) ks us
  | [], _, r => by rw [List.map_nil] at r; cases r; exact .nil
  | k :: ks, _, r => by
    rw [List.map_cons] at r
    cases r with
    | cons h t => exact .cons (kV_is h) (items_are t)
abbrev KT (H : Hp) : List (List Key × V) → List (List Key × Addr × Value) → Prop := Paired fun p q => p.1 = q.1 ∧ H q.2.1 = some (.tup (p.1.map kV)) ∧ RelV p.2 q.2.2
theorem KT.val {H : Hp} {kvs : List (List Key × V)} {xs : List (List Key × Addr × Value)} (r : KT H kvs xs) (k : List Key) : RelO (valV kvs k) ((atKey xs k).map (·.2)) := by
  induction r with
  | nil => exact True.intro
  | @cons p q ps qs h t ih =>
    obtain ⟨h1, _, h2⟩ := h
    by_cases e : p.1 = k
    · have e' : q.1 = k := h1.symm.trans e
      have b : atKey (q :: qs) k = some q.2 := by simp [atKey, List.find?_cons, e']
      rw [valV_pos e, b]; exact h2
    · have e' : ¬ q.1 = k := fun z => e (h1.trans z)
      have b : atKey (q :: qs) k = atKey qs k := by simp [atKey, List.find?_cons, e']
      rw [valV_neg e, b]; exact ih
theorem KT.repl {H : Hp} {kvs : List (List Key × V)} {xs : List (List Key × Addr × Value)} (r : KT H kvs xs) (k : List Key) {y : V} {u : Value} (ry : RelV y u) :
    KT H (kvs.map fun kv => if kv.1 = k then (kv.1, y) else kv) (xs.map (putAt k u)) := by
  induction r with
  | nil => exact .nil
  | @cons p q ps qs h t ih =>
    rw [List.map_cons, List.map_cons]
    refine .cons ?_ ih
    obtain ⟨h1, h2, h3⟩ := h
    unfold putAt
    by_cases e : p.1 = k
    · rw [if_pos e, if_pos (h1.symm.trans e)]; exact ⟨h1, h2, ry⟩
    · rw [if_neg e, if_neg (fun z => e (h1.trans z))]; exact ⟨h1, h2, h3⟩
theorem KT.put {H : Hp} {kvs : List (List Key × V)} {xs : List (List Key × Addr × Value)} (r : KT H kvs xs) (k : List Key) {b : Addr} {y : V} {u : Value} (hb : H b = some (.tup (k.map kV))) (ry : RelV y u) :
    KT H (putK kvs k y) (storedH xs k b u) := by
  have e : (kvs.any fun kv => decide (kv.1 = k)) = (atKey xs k).isSome := by
    rw [valV_any, (r.val k).isSome_eq, Option.isSome_map]
  unfold putK storedH
  rw [e]
  by_cases q : (atKey xs k).isSome = true
  · rw [if_pos q, if_pos q]; exact r.repl k ry
  · rw [if_neg q, if_neg q]; exact Paired.snoc r ⟨rfl, hb, ry⟩
theorem KT.keeps {H H' : Hp} {kvs : List (List Key × V)} {xs : List (List Key × Addr × Value)} (r : KT H kvs xs) (ht : ∀ b ys, H b = some (.tup ys) → H' b = some (.tup ys)) : KT H' kvs xs :=
  Paired.mapP r fun _ _ z => ⟨z.1, ht _ _ z.2.1, z.2.2⟩
section
variable {P : Program} {w : World} {H : Hp} {h : Heap} {a : Addr}
theorem rd_of {u : HO} (ok : HOk P w H h) (e : Rd H a u) : ObjOk P w H h a u := e.ok ok
theorem dk_rd {kvs : List (Key × V)} (ok : HOk P w H h) (e : Rd H a (.dK kvs)) : kvs.length ≤ sizeLine ∧ (a == sysModules) = false ∧ ∃ vs, KV kvs vs ∧ h.DictOf (mixKind P w) a vs :=
  show ObjOk P w H h a (.dK kvs) from rd_of ok e
theorem dk_of {kvs : List (Key × V)} (ok : HOk P w H h) (e : H a = some (.dK kvs)) : kvs.length ≤ sizeLine ∧ (a == sysModules) = false ∧ ∃ vs, KV kvs vs ∧ h.DictOf (mixKind P w) a vs := dk_rd ok (.inl e)
theorem key_of {ks : List Key} (ok : HOk P w H h) (e : H a = some (.tup (ks.map kV))) : (tupleKind (mixKind P w)).is h ks a := by
  obtain ⟨_, its, r, o, h1, h2, n, h3⟩ := (show ObjOk P w H h a (.tup (ks.map kV)) from ok a _ e)
  exact ⟨o, its.toArray, n, h1, h2, h3, by simpa using items_are r⟩
theorem dt_rd {kvs : List (List Key × V)} (ok : HOk P w H h) (e : Rd H a (.dT kvs)) : kvs.length ≤ sizeLine ∧ (a == sysModules) = false ∧
    ∃ xs, KT H kvs xs ∧ h.DictOfH (tupleKind (mixKind P w)) a xs := by
  obtain ⟨z, y, xs, r, o, es, ep, h1, h2, h3, h4, h5⟩ := (show ObjOk P w H h a (.dT kvs) from rd_of ok e)
  refine ⟨z, y, xs, r, o, es, ep, h1, h2, h3, h4, fun x hx => ?_, h5⟩
  have all : ∀ {l : List (List Key × V)} {m : List (List Key × Addr × Value)}, KT H l m → ∀ x ∈ m, (tupleKind (mixKind P w)).is h x.1 x.2.1 := by
    intro l m q
    induction q with
    | nil => intro x hx; exact nomatch hx
    | @cons p q ps qs hq t ih =>
      intro x hx
      rcases List.mem_cons.mp hx with e | hx
      · subst e
        exact key_of ok (by rw [← hq.1]; exact hq.2.1)
      · exact ih x hx
  exact all r x hx
theorem dt_of {kvs : List (List Key × V)} (ok : HOk P w H h) (e : H a = some (.dT kvs)) : kvs.length ≤ sizeLine ∧ (a == sysModules) = false ∧
    ∃ xs, KT H kvs xs ∧ h.DictOfH (tupleKind (mixKind P w)) a xs := dt_rd ok (.inl e)
end
def DGet (H : Hp) (a : Addr) (y : V) (r : Option V) : Prop :=
  (∃ kvs k, Rd H a (.dK kvs) ∧ y = kV k ∧ r = valV kvs k) ∨ ∃ kvs k b, Rd H a (.dT kvs) ∧ y = .ref b ∧ H b = some (.tup (k.map kV)) ∧ r = valV kvs k
def DPut (H : Hp) (a : Addr) (y v : V) (H' : Hp) : Prop :=
  (∃ kvs k, H a = some (.dK kvs) ∧ y = kV k ∧ kvs.length < sizeLine ∧ H' = upd H a (.dK (putK kvs k v))) ∨
  ∃ kvs k b, H a = some (.dT kvs) ∧ y = .ref b ∧ H b = some (.tup (k.map kV)) ∧ kvs.length < sizeLine ∧ H' = upd H a (.dT (putK kvs k v))
theorem DGet.k {H : Hp} {a : Addr} {kvs : List (Key × V)} {k : Key} (e : H a = some (.dK kvs)) : DGet H a (kV k) (valV kvs k) := .inl ⟨kvs, k, .inl e, rfl, rfl⟩
theorem DPut.k {H : Hp} {a : Addr} {kvs : List (Key × V)} {k : Key} {v : V} (e : H a = some (.dK kvs)) (hl : kvs.length < sizeLine) : DPut H a (kV k) v (upd H a (.dK (putK kvs k v))) := .inl ⟨kvs, k, e, rfl, hl, rfl⟩
section
variable {X : Cx} {pins : List (Addr × Obj)} {σ : St} {H : Hp} {s : Shared} {a : Addr} {y v : V} {u r : Value} {o : Option V} {A : Around} {E : Value → Shared → Prop}
theorem Inv.big (I : Inv X pins σ H s) : sysModules < s.heap.objs.size := by
  have h : mainGlobals < s.heap.objs.size := (I.mod.glob.keeps I.bk).lt
  exact Nat.lt_trans (by decide) h
theorem d_getItem {Q : Value → Shared → Prop} (hu : A.units + 1 < cLine) (I : Inv X pins σ H s) (g : DGet H a y (some v)) (ry : RelV y u) (h : ∀ w' s', Inv X pins σ H s' → RelV v w' → Q w' s') :
    wpAny (model X.prog X.w) A (getItem (.ref a) u) Q E s := by
  rcases g with ⟨kvs, k, e, ey, l⟩ | ⟨kvs, k, b, e, ey, eb, l⟩
  · subst ey
    obtain ⟨z, hd, vs, rel, dd⟩ := dk_rd I.hok e
    obtain ⟨w', hw, rw'⟩ := RelO.some_of (v := v) (o := valueAt vs k) (by rw [l]; exact rel.val k)
    exact wpAny_getItem_of (kV_is ry) dd.mapOf hw (h w' _ (I.tok _) rw')
  · subst ey
    cases (show u = Value.ref b from ry)
    obtain ⟨z, hd, xs, rel, dd⟩ := dt_rd I.hok e
    obtain ⟨w', hw, rw'⟩ := RelO.some_of (v := v) (o := (atKey xs k).map (·.2)) (by rw [l]; exact rel.val k)
    obtain ⟨p, hp, hp2⟩ := Option.map_eq_some_iff.mp hw
    refine wpAny_getItem_heap (tupleKind_room_in1 hu) (key_of I.hok eb) dd hp ?_
    rw [hp2]
    exact h w' _ (I.tok _) rw'
theorem d_notIn {Q : Value → Shared → Prop} (hu : A.units + 1 < cLine) (I : Inv X pins σ H s) (g : DGet H a y o) (ry : RelV y u) (h : ∀ s', Inv X pins σ H s' → Q (.bool (!o.isSome)) s') :
    wpAny (model X.prog X.w) A (compareOp .NotIn u (.ref a)) Q E s := by
  rcases g with ⟨kvs, k, e, ey, l⟩ | ⟨kvs, k, b, e, ey, eb, l⟩
  · subst ey
    obtain ⟨z, hd, vs, rel, dd⟩ := dk_rd I.hok e
    refine wpAny_notIn_of (kV_is ry) hd dd.mapOf ?_
    rw [← (rel.val k).isSome_eq, ← l]
    exact h _ (I.tok _)
  · subst ey
    cases (show u = Value.ref b from ry)
    obtain ⟨z, hd, xs, rel, dd⟩ := dt_rd I.hok e
    refine wpAny_notIn_heap (tupleKind_room_in1 hu) (key_of I.hok eb) hd dd ?_
    have q := (rel.val k).isSome_eq
    rw [Option.isSome_map] at q
    rw [← q, ← l]
    exact h _ (I.tok _)
theorem d_write {h' : Heap} {t' : Nat} {ob : HO} (I : Inv X pins σ H s) (mu : Mut (H a)) (hs : Heap.SameBut a s.heap h') (he : ∃ q, h'.get? a = some q) (new : ObjOk X.prog X.w (upd H a ob) h' a ob) :
    Inv X pins σ (upd H a ob) { s with heap := h', toks := t' } :=
  I.write (x := a) (e := a) mu (.inl rfl) (fun b q hb z => (hs.2 b hb).trans z) he new
theorem dk_new {P : Program} {w : World} {H' : Hp} {h' : Heap} {kvs : List (Key × V)} {vs : List (Key × Value)} (z : kvs.length ≤ sizeLine) (hd : (a == sysModules) = false) (rel : KV kvs vs) (dd : h'.DictOf (mixKind P w) a vs) :
    ObjOk P w H' h' a (.dK kvs) := ⟨z, hd, vs, rel, dd⟩
theorem d_setItem {H' : Hp} {Q : Unit → Shared → Prop} (hu : A.units + 1 < cLine) (I : Inv X pins σ H s) (g : DPut H a y v H') (ry : RelV y u) (rv : RelV v r) (h : ∀ s', Inv X pins σ H' s' → Q () s') :
    wpAny (model X.prog X.w) A (setItem (.ref a) u r) Q E s := by
  rcases g with ⟨kvs, k, e, ey, l, eH⟩ | ⟨kvs, k, b, e, ey, eb, l, eH⟩
  · subst ey eH
    obtain ⟨z, hd, vs, rel, dd⟩ := dk_of I.hok e
    have hz : vs.length ≤ sizeLine := by rw [← rel.length]; exact z
    have hl : (putK kvs k v).length ≤ sizeLine := by have := length_putK kvs k v; omega
    refine wpAny_setItem_pairs (hsz := hz) (kV_is ry) dd fun h' dd' hs => h _ ?_
    have he : ∃ q, h'.get? a = some q := let ⟨q, _, _, hq, _⟩ := dd'; ⟨q, hq⟩
    exact d_write I (by rw [e]; exact True.intro) hs he (dk_new hl hd (rel.put k rv) dd')
  · subst ey eH
    cases (show u = Value.ref b from ry)
    obtain ⟨z, hd, xs, rel, dd⟩ := dt_of I.hok e
    have hz : xs.length ≤ sizeLine := by rw [← Paired.length rel]; exact z
    have hl : (putK kvs k v).length ≤ sizeLine := by have := length_putK kvs k v; omega
    refine wpAny_setItem_heap (hsz := hz) (tupleKind_room_in1 hu) (key_of I.hok eb) dd fun h' dd' hs => h _ ?_
    obtain ⟨q, es, ep, hq, h2, h3, h4, _, h5⟩ := dd'
    refine d_write I (by rw [e]; exact True.intro) hs ⟨q, hq⟩ ⟨hl, hd, _, (rel.put k eb rv).keeps fun c ys ec => ?_, q, es, ep, hq, h2, h3, h4, h5⟩
    rw [upd_ne (ne_of ec e (fun z => nomatch z))]
    exact ec
end
section
variable {X : Cx} {pins : List (Addr × Obj)} {σ : St} {H : Hp} {s : Shared} {a : Addr} {kvs : List (Key × V)} {k : Key} {u : Value} {A : Around} {E : Value → Shared → Prop}
theorem d_pop {v : V} {more : List Value} {Q : Value → Shared → Prop} (I : Inv X pins σ H s) (e : H a = some (.dK kvs)) (ry : RelV (kV k) u) (l : valV kvs k = some v) (hm : more = [] ∨ ∃ x, more = [x])
    (h : ∀ w' s', Inv X pins σ (upd H a (.dK (dropK kvs k))) s' → RelV v w' → Q w' s') : wpAny (model X.prog X.w) A (call (.builtin "dict.pop") (.ref a :: u :: more)) Q E s := by
  obtain ⟨z, hd, vs, rel, dd⟩ := dk_of I.hok e
  obtain ⟨w', hw, rw'⟩ := RelO.some_of (v := v) (o := valueAt vs k) (by rw [← l]; exact rel.val k)
  have hp : (keyPart u).isSome = true := by
    cases k with
    | inl i => obtain ⟨t, q⟩ := (show ∃ t, u = Value.int i t from ry); subst q; rfl
    | inr x => obtain ⟨t, q⟩ := (show ∃ t, u = Value.str x t from ry); subst q; rfl
  have ha : argsOk "dict.pop" ⟨.ref a :: u :: more, []⟩ := by
    rcases hm with q | ⟨x, q⟩
    · subst q; exact PySem.F.args_dict_pop_2 _ _
    · subst q; exact PySem.F.args_dict_pop_3 _ _ _
  refine call_meetsIn PySem.F.slot_dict_pop dd.typeIs PySem.F.entry_dict_pop ha (meets_dict_pop_there (mixKind X.prog X.w) a (kV_is ry) more hm hp)
    ⟨vs, w', dd, by rw [← rel.length]; exact z, hw, fun h' dd' hs => h w' _ ?_ rw'⟩
  have he : ∃ q, h'.get? a = some q := let ⟨q, _, _, hq, _⟩ := dd'; ⟨q, hq⟩
  exact d_write I (by rw [e]; exact True.intro) hs he (dk_new (Nat.le_trans (dropK_le kvs k) z) hd (rel.drop k) dd')
theorem d_len {Q : Value → Shared → Prop} (I : Inv X pins σ H s) (e : Rd H a (.dK kvs)) (h : ∀ t s', Inv X pins σ H s' → Q (.int kvs.length t) s') : wpAny (model X.prog X.w) A (call (.builtin "len") [.ref a]) Q E s := by
  obtain ⟨z, hd, vs, rel, dd⟩ := dk_rd I.hok e
  refine call_len_dict hd dd (by rw [← rel.length]; rw [sizeLine_eq] at z; omega) ?_
  rw [← rel.length]
  exact h _ _ (I.tok _)
end
def NoSl (i : Expr) : Prop := ∀ ov iv, subscripted i false ov iv = operate [ov, iv] (getItem ov iv)
theorem subD_of {prog : Program} {w : World} {A : Around} {E : Value → Shared → Prop} {s : Shared} {env : Env} {value slice : Expr} {pos : Pos} {T id : String} {Q : Value → Shared → Prop}
    (hl : typeLookup (.type T) "__getitem__" = pure (some (.builtin id))) (hs : NoSl slice)
    (h : wpAny (model prog w) A (eval value env) (fun o s₁ => wpAny (model prog w) A (eval slice env) (fun i s₂ => s₂.TypeIs o T ∧ wpAny (model prog w) A (getItem o i) Q E s₂) E s₁) E s) :
    wpAny (model prog w) A (eval (.Subscript value slice pos) env) Q E s := by
  refine Subscript_ (wpAny_mono h (fun o s₁ h₁ => wpAny_mono h₁ (fun i s₂ h₂ => ?_) fun _ _ x => x) fun _ _ x => x)
  obtain ⟨hT, h₂⟩ := h₂
  unfold subscriptTail
  refine wpAny_bind ?_
  rw [getitemInPython_of_ne hT.not_modules]
  refine wpAny_bind (wpAny_specialOf hT hl ?_)
  have fin : wpAny (model prog w) A (subscripted slice false o i) (fun r s₃ => wpAny (model prog w) A (letTemporaryGo value o r >>= fun _ => pure r) Q E s₃) E s₂ := by
    rw [hs o i]
    exact wpAny_operating (wpAny_mono h₂ (fun r s₃ h₃ => wpAny_bind (wpAny_letTemporaryGo (wpAny_pure h₃))) fun _ _ x => x)
  first
    | exact wpAny_pure (wpAny_bind fin)
    | exact wpAny_bind (wpAny_pure (wpAny_bind fin))
    | exact wpAny_bind fin
theorem dict_typeIs {X : Cx} {pins : List (Addr × Obj)} {σ : St} {H : Hp} {s : Shared} {a : Addr} {y : V} {o : Option V} (I : Inv X pins σ H s) (g : DGet H a y o) : s.TypeIs (.ref a) "dict" := by
  rcases g with ⟨kvs, k, e, _, _⟩ | ⟨kvs, k, b, e, _, _, _⟩
  · obtain ⟨_, _, vs, _, dd⟩ := dk_rd I.hok e
    exact dd.typeIs
  · obtain ⟨_, _, xs, _, dd⟩ := dt_rd I.hok e
    exact dd.typeIs
def tDGet (td ty : TE) : TE := fun σ H Q => td σ H fun x H1 => ty σ H1 fun y H2 => ∃ a v, x = .ref a ∧ DGet H2 a y (some v) ∧ Q v H2
def tDNotIn (ty td : TE) : TE := fun σ H Q => ty σ H fun y H1 => td σ H1 fun x H2 => ∃ a o, x = .ref a ∧ DGet H2 a y o ∧ Q (.bl (!o.isSome)) H2
def sDPut (td ty tv : TE) : TS := fun D σ H => tv σ H fun v H1 => td σ H1 fun x H2 => ty σ H2 fun y H3 => ∃ a H4, x = .ref a ∧ DPut H3 a y v H4 ∧ D.nx σ H4
def sDAug (td ty tv : TE) (rd : V → V → Hp → VK → Prop) : TS := fun D σ H => td σ H fun x H1 => ty σ H1 fun y H2 => ∃ a v, x = .ref a ∧ DGet H2 a y (some v) ∧
  tv σ H2 fun y2 H3 => rd v y2 H3 fun z H4 => ∃ H5, DPut H4 a y z H5 ∧ D.nx σ H5
section
variable {X : Cx} {o i e value : Expr} {pos pos' tpos : Pos} {td ty tv : TE}
theorem pe_dget (hu : X.A.units + 1 < cLine) (ho : PE X o td) (hi : PE X i ty) (hs : NoSl i) : PE X (.Subscript o i pos) (tDGet td ty) := by
  intro pins s σ H Q I h
  refine subD_of PySem.F.slot_dict_getitem.lookup hs (thn (ho pins s σ H _ I h) fun u s1 ⟨x, H1, I1, rx, q1⟩ => thn (hi pins s1 σ H1 _ I1 q1) fun iv s2 ⟨y, H2, I2, ry, a, v, ex, g, q2⟩ => ?_)
  subst ex
  obtain rfl : u = Value.ref a := rx
  exact ⟨dict_typeIs I2 g, d_getItem hu I2 g ry fun w' s3 I3 rw' => ⟨v, H2, I3, rw', q2⟩⟩
theorem pc_dnotin (hu : X.A.units + 1 < cLine) (hi : PE X i ty) (ho : PE X o td) : PC X .NotIn i o (tDNotIn ty td) := by
  intro pins s σ H Q I h
  refine thn (hi pins s σ H _ I h) fun iv s1 ⟨y, H1, I1, ry, q1⟩ => thn (ho pins s1 σ H1 _ I1 q1) fun u s2 ⟨x, H2, I2, rx, a, ov, ex, g, q2⟩ => ?_
  subst ex
  obtain rfl : u = Value.ref a := rx
  exact d_notIn hu I2 g ry fun s3 I3 => ⟨.bl (!ov.isSome), H2, I3, rfl, q2⟩
theorem ps_dput (hu : X.A.units + 1 < cLine) (ho : PE X o td) (hi : PE X i ty) (hv : PE X value tv) (hs : swapsWith value (some (.Subscript o i pos')) pos.line X.env = pure false) :
    PS X (.Assign [.Subscript o i pos'] value pos) (sDPut td ty tv) := by
  intro pins s σ H D I h
  refine wpAny_Assign_Subscript (thn (hv pins s σ H _ I h) fun r s1 ⟨v, H1, I1, rv, q1⟩ => thn (ho pins s1 σ H1 _ I1 q1) fun u s2 ⟨x, H2, I2, rx, q2⟩ => thn (hi pins s2 σ H2 _ I2 q2) fun iv s3 ⟨y, H3, I3, ry, a, H4, ex, g, q3⟩ => ?_) hs
  subst ex
  obtain rfl : u = Value.ref a := rx
  exact d_setItem hu I3 g ry rv fun s4 I4 => ⟨σ, H4, I4, q3⟩
theorem ps_daug {op : Operator} {rd : V → V → Hp → VK → Prop} (hu : X.A.units + 1 < cLine) (ho : PE X o td) (hi : PE X i ty) (hv : PE X value tv) (hop : InOp X op rd)
    (ha : ∀ ov iv new, augStore i ov iv new = (do holding [new, ov, iv] (setItem ov iv new); release [new, ov, iv] []; pure .next)) : PS X (.AugAssign (.Subscript o i tpos) op value pos) (sDAug td ty tv rd) := by
  intro pins s σ H D I h
  refine wpAny_AugAssign_SubscriptAny (thn (ho pins s σ H _ I h) fun u s1 ⟨x, H1, I1, rx, q1⟩ => thn (hi pins s1 σ H1 _ I1 q1) fun iv s2 ⟨y, H2, I2, ry, a, v, ex, g, q2⟩ => ?_) ha
  subst ex
  obtain rfl : u = Value.ref a := rx
  refine d_getItem hu I2 g ry fun w' s3 I3 rw' => thn (hv pins s3 σ H2 _ I3 q2) fun w2 s4 ⟨y2, H3, I4, ry2, q3⟩ => thn (hop pins s4 σ H3 v y2 w' w2 _ I4 rw' ry2 q3) fun w3 s5 ⟨z, H4, I5, rz, H5, g5, q4⟩ => ?_
  exact d_setItem hu I5 g5 ry rz fun s6 I6 => ⟨σ, H5, I6, q4⟩
end
theorem dk_empty {P : Program} {w : World} {H : Hp} (h : Heap) (hb : sysModules < h.objs.size) : ObjOk P w H (h.push { cls := .type "dict", data := .dict #[] }) h.objs.size (.dK []) :=
  ⟨Nat.zero_le _, beq_eq_false_iff_ne.mpr (Ne.symm (Nat.ne_of_lt hb)), [], .nil, Heap.DictOf.new h⟩
def tDNewK : TE := fun _ H Q => ∀ p, H p = none → Q (.ref p) (upd H p (.dK []))
section
variable {X : Cx} {pos : Pos}
theorem pe_dnewK : PE X (.Dict [] [] pos) tDNewK := fun pins s σ H Q I h =>
  wpAny_Dict_empty ⟨.ref s.heap.objs.size, _, I.laid (a := s.heap.objs.size) (o := .dK []) (t' := s.toks) (fun _ _ q => Heap.get?_push_of_some _ q) (Nat.le_refl _) (dk_empty s.heap I.big), rfl, h _ (I.hok.fresh (Nat.le_refl _))⟩
end
structure M1 (X : Cx) (o : Expr) (m : Str) (apos : Pos) (e : Expr) (cpos : Pos) : Prop where
  base : attributeBase o m X.env (eval o X.env) = eval o X.env
  few : ((backTo cpos (starEach [e] X.env)).all (fun x => !x.1) && (backToKw cpos (keywordEach [] X.env)).all (fun x => x.1.isSome)
    && decide (([e] : List Expr).length + ([] : List Keyword).length + (if ([] : List Keyword).isEmpty then 0 else 1) < 30)) = true
  line : (apos.endLine == cpos.line) = true
  trees : backTo cpos (starEach [e] X.env) = [(false, eval e X.env)]
def IsD (H : Hp) (a : Addr) : Prop := (∃ kvs, Rd H a (.dK kvs)) ∨ ∃ kvs, Rd H a (.dT kvs)
theorem isD_at {X : Cx} {pins : List (Addr × Obj)} {σ : St} {H : Hp} {s : Shared} {a : Addr} (I : Inv X pins σ H s) (d : IsD H a) :
    s.TypeIs (.ref a) "dict" ∧ (∀ b, Value.ref a = .ref b → ∃ ob, s.heap.get? b = some ob ∧ ob.dict = none) ∧ (a == sysModules) = false := by
  rcases d with ⟨kvs, e⟩ | ⟨kvs, e⟩
  · obtain ⟨_, hd, vs, _, dd⟩ := dk_rd I.hok e
    refine ⟨dd.typeIs, fun b q => ?_, hd⟩
    cases q
    obtain ⟨ob, _, _, h1, h2, _⟩ := dd
    exact ⟨ob, h1, h2.2.1⟩
  · obtain ⟨_, hd, xs, _, dd⟩ := dt_rd I.hok e
    refine ⟨dd.typeIs, fun b q => ?_, hd⟩
    cases q
    obtain ⟨ob, _, _, h1, h2, _⟩ := dd
    exact ⟨ob, h1, h2.2.1⟩
def tDPop1 (td ty : TE) : TE := fun σ H Q => td σ H fun x H1 => ∃ a, x = .ref a ∧ IsD H1 a ∧ ty σ H1 fun y H2 => ∃ kvs k v, H2 a = some (.dK kvs) ∧ y = kV k ∧ valV kvs k = some v ∧ Q v (upd H2 a (.dK (dropK kvs k)))
section
variable {X : Cx} {o e f : Expr} {apos cpos : Pos} {td ty tx : TE}
theorem pe_dpop1 (ho : PE X o td) (he : PE X e ty) (m : M1 X o "pop" apos e cpos) : PE X (.Call (.Attribute o "pop" apos) [e] [] cpos) (tDPop1 td ty) := by
  intro pins s σ H Q I h
  refine wpAny_Call_method m.base m.few m.line PySem.F.plainAttrs_dict PySem.F.slot_dict_pop PySem.F.type_dict_pop (thn (ho pins s σ H _ I h) fun u s1 ⟨x, H1, I1, rx, a, ex, d, q1⟩ => ?_)
  subst ex
  obtain rfl : u = Value.ref a := rx
  obtain ⟨t1, t2, _⟩ := isD_at I1 d
  refine ⟨t1, t2, ?_⟩
  rw [m.trees]
  refine Calls.callWith_builtin rfl (Calls.evalArgs_plain (Calls.spliced_cons (thn (he pins s1 σ H1 _ I1 q1) fun iv s2 ⟨y, H2, I2, ry, kvs, k, v, ea, ey, l, q2⟩ => Calls.spliced_nil ?_)))
  subst ey
  exact d_pop I2 ea ry l (.inl rfl) fun w' s3 I3 rw' => ⟨v, _, I3, rw', q2⟩
end
end L2
namespace L2
open PySem PySem.Spec PyProof.Rows
section
variable {prog : Program} {w : World} {A : Around} {E : Value → Shared → Prop}
end
end L2
namespace L2
open PySem PySem.Spec PyProof.Rows
section
variable {X : Cx} {pins : List (Addr × Obj)} {σ : St} {H : Hp} {s : Shared} {h' : Heap}
theorem Inv.turnedNew {t' : Nat} {ch : List Addr} {T : Addr} {ob : HO} (I : Inv X pins σ H s) (k : ∀ b o, b ∉ ch → s.heap.get? b = some o → h'.get? b = some o) (hf : ∀ b ∈ ch, FpOk X pins H b) (hT : s.heap.objs.size ≤ T)
    (new : ObjOk X.prog X.w (upd H T ob) h' T ob) : Inv X pins σ (upd H T ob) { s with heap := h', toks := t' } := by
  have hn : H T = none := I.hok.fresh hT
  have nit : ∀ b u, H b = some u → b ∉ ch := fun b u e z => by
    have q := (hf b z).1
    rw [q] at e; cases e
  refine I.step (g' := s.gens) (d' := s.drawn) (ch := ch) (fun b hb => ⟨(hf b hb).2.2.2.1, (hf b hb).2.1, (hf b hb).2.2.2.2.1, (hf b hb).2.2.2.2.2⟩) (fun b o _ _ hc e _ => k b o hc e) (fun b o _ _ hc e _ => ⟨o.slots, k b o hc e⟩)
    (fun b o _ e n => ?_) (fun b o hc e => ⟨o, k b o hc e⟩) (fun b xs e => ?_) (fun b o u e => ?_) (fun b ps e => ⟨#[], ?_⟩) (fun m hm => ?_) (fun b u e => ?_) I.bare
  · rw [upd_ne (Nat.ne_of_lt (Nat.lt_of_lt_of_le (Heap.lt_size e) hT))]; exact n
  · rw [upd_ne (ne_of_none e hn)]; exact e
  · rw [upd_ne (ne_of_none e hn)]; exact e
  · rw [upd_ne (ne_of_none e hn), e]; simp
  · obtain ⟨o, es, ep, ho, r⟩ := hm
    exact ⟨o, es, ep, k _ o (fun z => (hf _ z).2.1 rfl) ho, r⟩
  · by_cases hb : b = T
    · subst hb
      rw [upd_same] at e
      cases e
      exact new
    · rw [upd_ne hb] at e
      refine (I.hok b u e).stay (fun c v hc q => k c v ?_ q) (fun c q => by rw [upd_ne (ne_of_none q hn)]; exact q) fun c xs q => by rw [upd_ne (ne_of_none q hn)]; exact q
      rcases hc with z | z
      · rw [z]; exact nit b u e
      · exact nit c _ z
theorem Inv.lock {d : Addr} {u : HO} (I : Inv X pins σ H s) (h : H d = some u) (mu : Mut (some u)) : ∃ od, Inv X pins σ (upd H d (.frz od u)) s := by
  have x := I.hok d u h
  have ex : ∃ od, s.heap.get? d = some od := by
    cases u with
    | lst xs => obtain ⟨_, _, _, _, e⟩ := x; exact ⟨_, e⟩
    | dK kvs => obtain ⟨_, _, _, _, o, _, _, e, _⟩ := x; exact ⟨o, e⟩
    | dT kvs => obtain ⟨_, _, _, _, o, _, _, e, _⟩ := x; exact ⟨o, e⟩
    | set S n => obtain ⟨o, _, _, _, e, _⟩ := x; exact ⟨o, e⟩
    | ins C dx fs => obtain ⟨_, _, _, e, _⟩ := x; exact ⟨_, e⟩
    | ext φ => obtain ⟨_, ⟨_, e⟩, _⟩ := x; exact ⟨_, e⟩
    | _ => exact False.elim mu
  obtain ⟨od, e⟩ := ex
  have new : ObjOk X.prog X.w (upd H d (.frz od u)) s.heap d (.frz od u) := by
    refine ⟨e, x.stay (fun b v _ q => q) (fun b q => ?_) fun b xs q => ?_⟩
    · rw [upd_ne (fun z => by rw [z, h] at q; cases q; exact mu)]; exact q
    · rw [upd_ne (fun z => by rw [z, h] at q; cases q; exact mu)]; exact q
  exact ⟨od, I.write (x := d) (e := d) (t' := s.toks) (h' := s.heap) (by rw [h]; exact mu) (.inl rfl) (fun b v _ q => q) ⟨od, e⟩ new⟩
theorem Inv.nofrz {d : Addr} {u : HO} (I : Inv X pins σ H s) (h : H d = some u) (mu : Mut (some u)) : ∀ o' u', X.H_0 d ≠ some (.frz o' u') := fun o' u' e => by
  have q := I.base.frzs d o' u' e
  rw [h] at q
  cases q
  exact mu
theorem Inv.unlock {d : Addr} {od : Obj} {u : HO} (I : Inv X pins σ H s) (h : H d = some (.frz od u)) (hn : ∀ o' u', X.H_0 d ≠ some (.frz o' u')) : Inv X pins σ (upd H d u) s := by
  have neH : ∀ b o, H b = some o → (∀ o' u', o ≠ .frz o' u') → b ≠ d := fun b o e hne z => by
    rw [z, h] at e
    cases e
    exact hne _ _ rfl
  have neN : ∀ b, H b = none → b ≠ d := fun b e z => by rw [z, h] at e; cases e
  refine ⟨I.ok, I.os, I.bare, ⟨I.base.keep, I.base.slot, fun b o e n hx => ?_, I.base.there, fun b xs e => ?_, fun b o x e => ?_, fun b ps e => ?_⟩, I.loc, I.cell, ?_, fun x c e => ?_, fun p hp => ?_, fun b o e => ?_, I.len⟩
  · rw [upd_ne (neN b (I.base.free b o e n hx))]; exact I.base.free b o e n hx
  · have q := I.base.tups b xs e
    rw [upd_ne (neH b _ q (fun _ _ z => nomatch z))]; exact q
  · have q := I.base.frzs b o x e
    rw [upd_ne (fun z => by rw [z] at e; exact hn _ _ e)]; exact q
  · obtain ⟨m, q⟩ := I.base.tbls b ps e
    exact ⟨m, by rw [upd_ne (neH b _ q (fun _ _ z => nomatch z))]; exact q⟩
  · rw [upd_ne (neN _ I.free)]; exact I.free
  · rw [upd_ne (neN c (I.freeC x c e))]; exact I.freeC x c e
  · obtain ⟨e, n, r⟩ := I.pin p hp
    exact ⟨e, by rw [upd_ne (neN _ n)]; exact n, r⟩
  · by_cases hb : b = d
    · rw [hb, upd_same] at e
      cases e
      rw [hb]
      obtain ⟨_, x⟩ := I.hok d _ h
      exact x.stay (fun c v _ q => q) (fun c q => by rw [upd_ne (neH c _ q (fun _ _ z => nomatch z))]; exact q) fun c xs q => by rw [upd_ne (neH c _ q (fun _ _ z => nomatch z))]; exact q
    · rw [upd_ne hb] at e
      exact (I.hok b o e).stay (fun c v _ q => q) (fun c q => by rw [upd_ne (neH c _ q (fun _ _ z => nomatch z))]; exact q) fun c xs q => by rw [upd_ne (neH c _ q (fun _ _ z => nomatch z))]; exact q
end
def tLock (t : TS) : TS := fun D σ H => ∃ d u, H d = some u ∧ Mut (some u) ∧ ∀ od, t ⟨fun σ' H' => H' d = some (.frz od u) ∧ D.nx σ' (upd H' d u), fun v H' => H' d = some (.frz od u) ∧ D.rt v (upd H' d u), fun σ' H' => H' d = some (.frz od u) ∧ D.bk σ' (upd H' d u), fun σ' H' => H' d = some (.frz od u) ∧ D.ct σ' (upd H' d u)⟩ σ (upd H d (.frz od u))
def tLockE (t : TE) : TE := fun σ H Q => ∃ d u, H d = some u ∧ Mut (some u) ∧ ∀ od, t σ (upd H d (.frz od u)) fun v H' => H' d = some (.frz od u) ∧ Q v (upd H' d u)
section
variable {X : Cx}
theorem ps_lock {st : Stmt} {t : TS} (h : PS X st t) : PS X st (tLock t) := by
  intro pins s σ H D I hw
  obtain ⟨d, u, hd, mu, hw⟩ := hw
  obtain ⟨od, I1⟩ := I.lock hd mu
  refine thn (h pins s σ _ _ I1 (hw od)) fun f s1 q => ?_
  cases f with
  | next => obtain ⟨σ', H', I2, e, q⟩ := q; exact ⟨σ', _, I2.unlock e (I.nofrz hd mu), q⟩
  | brk => obtain ⟨σ', H', I2, e, q⟩ := q; exact ⟨σ', _, I2.unlock e (I.nofrz hd mu), q⟩
  | cont => obtain ⟨σ', H', I2, e, q⟩ := q; exact ⟨σ', _, I2.unlock e (I.nofrz hd mu), q⟩
  | ret v => obtain ⟨x, σ', H', I2, r, e, q⟩ := q; exact ⟨x, σ', _, I2.unlock e (I.nofrz hd mu), r, q⟩
theorem pe_lock {e : Expr} {t : TE} (h : PE X e t) : PE X e (tLockE t) := by
  intro pins s σ H Q I hw
  obtain ⟨d, u, hd, mu, hw⟩ := hw
  obtain ⟨od, I1⟩ := I.lock hd mu
  refine thn (h pins s σ _ _ I1 (hw od)) fun v s1 ⟨x, H1, I2, r, e2, q⟩ => ?_
  exact ⟨x, _, I2.unlock e2 (I.nofrz hd mu), r, q⟩
theorem pi_one {tg : Expr} {pins : List (Addr × Obj)} {σ : St} {H : Hp} {s : Shared} {R : It → Hp → Prop} {J : It} {tn : Nat → Heap → Prop} {tk : Nat} (I : Inv X pins σ H s) (o : Obj)
    (T : Turn X.prog X.w X.K tg J [s.heap.objs.size] s.heap.objs.size tn) (st : tn 0 (s.heap.push o)) (q : R J H) : PIE X pins σ tg R (.ref s.heap.objs.size) { s with heap := s.heap.push o, toks := tk } := by
  refine ⟨s.heap.objs.size, [s.heap.objs.size], tn, J, H, rfl, I.kept fun b ob e => Heap.get?_push_of_some _ e, T, st, fun b hb => ?_, q⟩
  have e : b = s.heap.objs.size := by simpa using hb
  subst e
  exact I.fpOk (Nat.le_refl _) (I.hok.fresh (Nat.le_refl _))
end
section
variable {prog : Program} {w : World} {A : Around} {E : Value → Shared → Prop} {s : Shared}
theorem iter_keys {d : Addr} {o : Obj} {es : Array DictEntry} {ep : Nat} {Q : Value → Shared → Prop} (hd : (d == sysModules) = false) (ho : s.heap.get? d = some o) (hc : o.ExactDict) (hdat : o.data = .dict es ep)
    (hQ : Q (.ref s.heap.objs.size) { s with heap := s.heap.push { cls := .type "dict_keyiterator", data := .fields #[.ref d, .int 0 0, .int es.size 0, .int ep 0] } }) :
    wpAny (model prog w) A (pyIter (.ref d)) Q E s := by
  have hT : s.TypeIs (.ref d) "dict" := ⟨o, ho, hc.1⟩
  refine wpAny_pyIter_slot hT F.slot_dict_iter (wpAny_call_entry F.slot_dict_iter hT F.entry_dict_iter ?_ (F.args_dict_iter_1 _))
  unfold Builtin.«dict.__iter__»
  refine wpAny_bind ?_
  unfold Builtin.Dict.dictSlotNone
  refine wpAny_bind (wpAny_notOrdered_dict hT ?_)
  show wpAny _ _ (pure (Value.ref d)) _ _ s
  refine wpAny_pure ?_
  show wpAny _ _ (Builtin.Dict.showsAll d >>= _) _ _ s
  unfold Builtin.Dict.showsAll
  rw [if_neg (by rw [hd]; exact Bool.false_ne_true)]
  refine wpAny_bind (wpAny_pure ?_)
  refine wpAny_bind (wpAny_dictEntries ho hdat ?_)
  refine wpAny_bind (wpAny_dictEpoch ho hdat ?_)
  refine wpAny_bind (wpAny_newObj_type (wpAny_pure ⟨_, rfl, "dict_keyiterator", _, ⟨_, Heap.get?_push_size _ rfl, rfl⟩, F.slot_dict_keyiterator_next.lookup, ?_⟩))
  simpa [rawInt] using hQ
theorem next_key_item {it d : Addr} {i n ep : Nat} {od : Obj} {es : Array DictEntry} {en : DictEntry} {Q : Option Value → Shared → Prop} (hit : s.heap.IsKeyIter it d i n ep) (hod : s.heap.get? d = some od) (hdd : od.data = .dict es ep)
    (hsz : es.size = n) (hx : es[i]? = some en) (hQ : ∀ h', h'.IsKeyIter it d (i + 1) n ep → Heap.SameBut it s.heap h' → Q (some en.key) { s with heap := h' }) : wpAny (model prog w) A (pyNext (.ref it)) Q E s := by
  obtain ⟨o, ho, hc, hd⟩ := id hit
  unfold pyNext
  refine wpAny_bind (wpAny_attempt (wpAny_callSpecial?_slot (name := Str.ofString "__next__") hit.typeIs F.slot_dict_keyiterator_next
    (wpAny_call_entry F.slot_dict_keyiterator_next hit.typeIs F.entry_dict_keyiterator_next ?_ (F.args_dict_keyiterator_next_1 _))))
  refine wpAny_bind (wpAny_pure ?_)
  refine wpAny_bind ?_
  refine wpAny_bind ?_
  first | refine wpAny_bind (wpAny_typeNameOfWhole_keyiter hit.typeIs (wpAny_pure ?_)) | refine wpAny_bind (wpAny_typeNameOf_keyiter hit.typeIs (wpAny_pure ?_))
  refine wpAny_bind (wpAny_fieldsOf ho hd ?_)
  have hown : Builtin.Dict_items.ownsTuple "dict_keyiterator" = false := by decide
  simp only [hown, Bool.false_eq_true, if_false]
  show wpAny _ _ (if (Value.ref d == Value.none) = true then _ else _) _ _ s
  rw [if_neg (show ¬ ((Value.ref d == Value.none) = true) from Bool.false_ne_true)]
  refine wpAny_bind (wpAny_pure ?_)
  refine wpAny_bind (wpAny_dictEntries hod hdd ?_)
  rw [if_neg (by rw [hsz]; simp)]
  refine wpAny_bind (wpAny_pure ?_)
  refine wpAny_bind (wpAny_dictEpoch hod hdd ?_)
  rw [if_neg (by simp)]
  refine wpAny_pure ?_
  obtain ⟨hlt', hen⟩ := Array.getElem?_eq_some_iff.mp hx
  simp only [show ¬ ((i : Int) < 0) from by omega, if_false, Int.toNat_natCast, Array.getElem?_eq_getElem hlt']
  refine wpAny_bind ?_
  first | refine wpAny_bind (wpAny_typeNameOfWhole_keyiter hit.typeIs (wpAny_pure ?_)) | refine wpAny_bind (wpAny_typeNameOf_keyiter hit.typeIs (wpAny_pure ?_))
  refine wpAny_bind (wpAny_isOneOf_keyiter hit.typeIs ?_)
  show wpAny _ _ (setField (.ref it) 1 (rawInt ((i : Int) + 1)) >>= _) _ _ s
  refine wpAny_bind (wpAny_setField ho hd (by simp) ?_)
  have hit' : (s.heap.update it (Obj.mapFields (·.setIfInBounds 1 (rawInt ((i : Int) + 1))))).IsKeyIter it d (i + 1) n ep :=
    ⟨_, Heap.get?_update_self _ ho (Obj.isFreed_of_fields (Obj.data_mapFields hd _)), (Obj.cls_mapFields ..).trans hc, by rw [Obj.data_mapFields hd]; simp [rawInt]⟩
  refine wpAny_bind (wpAny_holding ?_)
  refine wpAny_bind (wpAny_isOneOf_keyiter (s := { s with heap := s.heap.update it (Obj.mapFields (·.setIfInBounds 1 (rawInt ((i : Int) + 1)))) }) hit'.typeIs ?_)
  show wpAny _ _ (pure es[i].key) _ _ _
  rw [hen]
  exact wpAny_pure (wpAny_pure ⟨_, rfl, wpAny_pure (hQ _ hit' (Heap.SameBut.update ..))⟩)
theorem next_key_end {it d : Addr} {i n ep : Nat} {od : Obj} {es : Array DictEntry} {Q : Option Value → Shared → Prop} (hh : A.handled = none) (hit : s.heap.IsKeyIter it d i n ep) (hod : s.heap.get? d = some od) (hdd : od.data = .dict es ep)
    (hsz : es.size = n) (hge : n ≤ i) (hQ : ∀ h', Heap.ExtBut it s.heap h' → Q none { s with heap := h' }) : wpAny (model prog w) A (pyNext (.ref it)) Q E s := by
  obtain ⟨o, ho, hc, hd⟩ := id hit
  unfold pyNext
  refine wpAny_bind (wpAny_attempt (wpAny_callSpecial?_slot (name := Str.ofString "__next__") hit.typeIs F.slot_dict_keyiterator_next
    (wpAny_call_entry F.slot_dict_keyiterator_next hit.typeIs F.entry_dict_keyiterator_next ?_ (F.args_dict_keyiterator_next_1 _))))
  refine wpAny_bind (wpAny_pure ?_)
  refine wpAny_bind ?_
  refine wpAny_bind ?_
  first | refine wpAny_bind (wpAny_typeNameOfWhole_keyiter hit.typeIs (wpAny_pure ?_)) | refine wpAny_bind (wpAny_typeNameOf_keyiter hit.typeIs (wpAny_pure ?_))
  refine wpAny_bind (wpAny_fieldsOf ho hd ?_)
  have hown : Builtin.Dict_items.ownsTuple "dict_keyiterator" = false := by decide
  simp only [hown, Bool.false_eq_true, if_false]
  show wpAny _ _ (if (Value.ref d == Value.none) = true then _ else _) _ _ s
  rw [if_neg (show ¬ ((Value.ref d == Value.none) = true) from Bool.false_ne_true)]
  refine wpAny_bind (wpAny_pure ?_)
  refine wpAny_bind (wpAny_dictEntries hod hdd ?_)
  rw [if_neg (by rw [hsz]; simp)]
  refine wpAny_bind (wpAny_pure ?_)
  refine wpAny_bind (wpAny_dictEpoch hod hdd ?_)
  rw [if_neg (by simp)]
  refine wpAny_pure ?_
  have hge' : es.size ≤ i := by rw [hsz]; exact hge
  simp only [show ¬ ((i : Int) < 0) from by omega, if_false, Int.toNat_natCast, Array.getElem?_eq_none hge']
  refine wpAny_bind ?_
  first | refine wpAny_bind (wpAny_typeNameOfWhole_keyiter hit.typeIs (wpAny_pure ?_)) | refine wpAny_bind (wpAny_typeNameOf_keyiter hit.typeIs (wpAny_pure ?_))
  show wpAny _ _ (setField (.ref it) 0 .none >>= _) _ _ s
  refine wpAny_bind (wpAny_setField ho hd (by simp) ?_)
  show wpAny _ _ (newExc (.type "StopIteration") [] >>= _) _ _ _
  refine wpAny_bind ?_
  simp only [newExc, newTuple]
  refine wpAny_bind (wpAny_newObj_type ?_ (by size_fits))
  refine wpAny_bind (m := firstArgMember _ _) (wpAny_of_eq (a := Value.none) (by first | rfl | (simp only [firstArgMember]; rfl)) ?_)
  refine wpAny_newObj_type ?_ (by size_fits)
  simp only [raiseNew]
  refine wpAny_bind (wpAny_handled ?_)
  rw [show A.in1.handled = none from hh]
  refine wpAny_bind (wpAny_pure (wpAny_throw ?_))
  refine wpAny_bind (wpAny_isInstance (T := "StopIteration") (b := true) ⟨_, Heap.get?_push_size _ rfl, rfl⟩ isSubtype_stop ?_)
  exact wpAny_pure (hQ _ (((Heap.SameBut.update ..).extBut.push _).push _))
end
theorem kv_get {κ : Type} {kvs : List (κ × V)} {vs : List (κ × Value)} (h : KV kvs vs) : ∀ {i : Nat} {k : κ} {v : V}, kvs[i]? = some (k, v) → ∃ u, vs[i]? = some (k, u) ∧ RelV v u := by
  unfold KV at h
  induction h with
  | nil => intro i k v e; simp at e
  | @cons a b l₁ l₂ r t ih =>
    intro i k v e
    cases i with
    | zero =>
      simp only [List.getElem?_cons_zero, Option.some.injEq] at e
      subst e
      refine ⟨b.2, ?_, r.2⟩
      simp only [List.getElem?_cons_zero]
      exact congrArg some (Prod.ext r.1.symm rfl)
    | succ j =>
      simp only [List.getElem?_cons_succ] at e ⊢
      exact ih e
theorem paired_get {α β : Type} {G : α → β → Prop} {l₁ : List α} {l₂ : List β} (h : Paired G l₁ l₂) : ∀ {i : Nat} {a : α}, l₁[i]? = some a → ∃ b, l₂[i]? = some b ∧ G a b := by
  induction h with
  | nil => intro i a e; simp at e
  | @cons a b l₁ l₂ r t ih =>
    intro i a' e
    cases i with
    | zero =>
      simp only [List.getElem?_cons_zero, Option.some.injEq] at e
      subst e
      exact ⟨b, rfl, r⟩
    | succ j =>
      simp only [List.getElem?_cons_succ] at e ⊢
      exact ih e
theorem relV_key {k : Key} {u : Value} (h : keyIs k u = true) : RelV (kV k) u := by
  rcases keyIs_shape h with ⟨i, t, rfl, rfl⟩ | ⟨x, t, rfl, rfl⟩
  · exact ⟨t, rfl⟩
  · exact ⟨t, rfl⟩
section
variable {X : Cx} {pins : List (Addr × Obj)} {σ : St} {H : Hp} {s : Shared} {d : Addr} {o : Obj}
theorem Inv.frzK {kvs : List (Key × V)} (I : Inv X pins σ H s) (h : H d = some (.frz o (.dK kvs))) :
    (d == sysModules) = false ∧ s.heap.get? d = some o ∧ o.ExactDict ∧ ∃ (es : Array DictEntry) (ep : Nat) (vs : List (Key × Value)), o.data = .dict es ep ∧ es.size = kvs.length ∧ KV kvs vs ∧ s.heap.DictAt (mixKind X.prog X.w) d vs ep := by
  obtain ⟨hd, z, hs, vs, kv, o', es, ep, ho, hx, hdt, r⟩ := I.hok d _ h
  rw [hd] at ho
  cases ho
  refine ⟨hs, hd, hx, es, ep, vs, hdt, ?_, kv, o, es, hd, hx, hdt, r⟩
  have l1 := r.2.1.length
  have l2 : kvs.length = vs.length := Paired.length kv
  rw [Array.length_toList] at l1
  omega
theorem Inv.frzT {kvs : List (List Key × V)} (I : Inv X pins σ H s) (h : H d = some (.frz o (.dT kvs))) :
    (d == sysModules) = false ∧ s.heap.get? d = some o ∧ o.ExactDict ∧ ∃ (es : Array DictEntry) (ep : Nat), o.data = .dict es ep ∧ es.size = kvs.length ∧
      ∀ (i : Nat) (k : List Key) (v : V), kvs[i]? = some (k, v) → ∃ (en : DictEntry) (q : Addr), es[i]? = some en ∧ en.key = .ref q ∧ H q = some (.tup (k.map kV)) := by
  obtain ⟨hd, z, hs, xs, pr, o', es, ep, ho, hx, hdt, he, _⟩ := I.hok d _ h
  rw [hd] at ho
  cases ho
  refine ⟨hs, hd, hx, es, ep, hdt, ?_, fun i k v e => ?_⟩
  · have l1 : es.size = xs.length := size_of_entries he
    have l2 : kvs.length = xs.length := Paired.length pr
    omega
  · obtain ⟨b, hb, e1, e2, _⟩ := paired_get pr e
    have q := entry_at he i
    rw [hb] at q
    exact ⟨_, b.2.1, q, rfl, e2⟩
end
def Itk (d : Addr) (o : Obj) (kvs : List (Key × V)) : It :=
  ⟨fun i H => H d = some (.frz o (.dK kvs)) ∧ i < kvs.length, fun i H x H' => H' = H ∧ ∃ k v, kvs[i]? = some (k, v) ∧ x = kV k, fun i H => H d = some (.frz o (.dK kvs)) ∧ kvs.length ≤ i⟩
def Itkt (d : Addr) (o : Obj) (kvs : List (List Key × V)) : It :=
  ⟨fun i H => H d = some (.frz o (.dT kvs)) ∧ i < kvs.length, fun i H x H' => H' = H ∧ ∃ (k : List Key) (v : V) (q : Addr), kvs[i]? = some (k, v) ∧ x = .ref q ∧ H q = some (.tup (k.map kV)), fun i H => H d = some (.frz o (.dT kvs)) ∧ kvs.length ≤ i⟩
def Itd (d : Addr) (o : Obj) (kvs : List (Key × V)) : It :=
  ⟨fun i H => H d = some (.frz o (.dK kvs)) ∧ i < kvs.length, fun i H x H' => H' = H ∧ ∃ k, kvs[i]? = some (k, x), fun i H => H d = some (.frz o (.dK kvs)) ∧ kvs.length ≤ i⟩
theorem dict_ep {o : Obj} {es es' : Array DictEntry} {ep ep' : Nat} (h : o.data = .dict es ep) (h' : o.data = .dict es' ep') : es' = es ∧ ep' = ep := by
  rw [h] at h'
  cases h'
  exact ⟨rfl, rfl⟩
section
variable {P : Program} {w : World} {K : PySem.W.Frag} {tg : Expr} {d : Addr} {o : Obj} {es : Array DictEntry} {ep : Nat}
theorem turn_keys {kvs : List (Key × V)} (it : Addr) (hod : o.data = .dict es ep) : Turn P w K tg (Itk d o kvs) [it] it (fun i h => h.IsKeyIter it d i kvs.length ep) where
  mem := by simp
  obj := fun i h st b hb => by
    have e : b = it := by simpa using hb
    subst e
    obtain ⟨oi, e, c, dd⟩ := st
    exact ⟨oi, e, fun v z => by rw [dd] at z; cases z⟩
  keep := fun i h h' st k => st.at fun oi e => k it (by simp) oi e
  item := by
    intro X hP hw hK hc i pins s σ H E I hf st hg
    subst hP hw hK
    obtain ⟨hd, hi⟩ := hg
    obtain ⟨f0, f1, f2, f3, f4, f5⟩ := hf it (by simp)
    obtain ⟨hs, hgd, hx, es', ep', vs, hdt, hsz, kv, hm⟩ := I.frzK hd
    obtain ⟨rfl, rfl⟩ := dict_ep hod hdt
    obtain ⟨⟨k, v⟩, hkv⟩ : ∃ p, kvs[i]? = some p := ⟨kvs[i], List.getElem?_eq_getElem hi⟩
    obtain ⟨u, hu, ru⟩ := kv_get kv hkv
    have hl : kvs.length = vs.length := Paired.length kv
    rw [hl] at st
    refine wpAny_pyNext_dict_item st hm hu fun key h' hkey st' sb => ?_
    have I1 : Inv X pins σ H { s with heap := h' } := I.turned (t' := s.toks) (fun b ob hb e => (sb.2 b hb).trans e) f0 f1 f3 f4 f5
    obtain ⟨oi, e, c, dd⟩ := id st'
    refine ⟨key, rfl, go_of (s := { s with heap := h' }) e c dd (by decide) ⟨kV k, H, I1, relV_key (show keyIs k key = true from hkey), ⟨rfl, k, v, hkv, rfl⟩, ?_, fun b hb => (hf b hb).1⟩⟩
    show h'.IsKeyIter it d (i + 1) kvs.length _
    rw [hl]
    exact st'
  done := by
    intro X hP hw hK hc i pins s σ H E I hf st hg
    subst hP hw hK
    obtain ⟨hd, hi⟩ := hg
    obtain ⟨f0, f1, f2, f3, f4, f5⟩ := hf it (by simp)
    obtain ⟨hs, hgd, hx, es', ep', vs, hdt, hsz, kv, hm⟩ := I.frzK hd
    obtain ⟨rfl, rfl⟩ := dict_ep hod hdt
    exact next_key_end (I.ok.hd hc) st hgd hdt hsz hi fun h' eb => ⟨rfl, I.turned (t' := s.toks) (fun b ob hb e => eb b ob hb e) f0 f1 f3 f4 f5⟩
  self := fun A i s Q E st h => wpAny_pyIter_keyiter st h
theorem turn_keysT {kvs : List (List Key × V)} (it : Addr) (hod : o.data = .dict es ep) : Turn P w K tg (Itkt d o kvs) [it] it (fun i h => h.IsKeyIter it d i kvs.length ep) where
  mem := by simp
  obj := fun i h st b hb => by
    have e : b = it := by simpa using hb
    subst e
    obtain ⟨oi, e, c, dd⟩ := st
    exact ⟨oi, e, fun v z => by rw [dd] at z; cases z⟩
  keep := fun i h h' st k => st.at fun oi e => k it (by simp) oi e
  item := by
    intro X hP hw hK hc i pins s σ H E I hf st hg
    subst hP hw hK
    obtain ⟨hd, hi⟩ := hg
    obtain ⟨f0, f1, f2, f3, f4, f5⟩ := hf it (by simp)
    obtain ⟨hs, hgd, hx, es', ep', hdt, hsz, ent⟩ := I.frzT hd
    obtain ⟨rfl, rfl⟩ := dict_ep hod hdt
    obtain ⟨⟨k, v⟩, hkv⟩ : ∃ p, kvs[i]? = some p := ⟨kvs[i], List.getElem?_eq_getElem hi⟩
    obtain ⟨en, q, hen, hkey, hq⟩ := ent i k v hkv
    refine next_key_item st hgd hdt hsz hen fun h' st' sb => ?_
    have I1 : Inv X pins σ H { s with heap := h' } := I.turned (t' := s.toks) (fun b ob hb e => (sb.2 b hb).trans e) f0 f1 f3 f4 f5
    obtain ⟨oi, e, c, dd⟩ := id st'
    exact ⟨en.key, rfl, go_of (s := { s with heap := h' }) e c dd (by decide) ⟨.ref q, H, I1, hkey, ⟨rfl, k, v, q, hkv, rfl, hq⟩, st', fun b hb => (hf b hb).1⟩⟩
  done := by
    intro X hP hw hK hc i pins s σ H E I hf st hg
    subst hP hw hK
    obtain ⟨hd, hi⟩ := hg
    obtain ⟨f0, f1, f2, f3, f4, f5⟩ := hf it (by simp)
    obtain ⟨hs, hgd, hx, es', ep', hdt, hsz, ent⟩ := I.frzT hd
    obtain ⟨rfl, rfl⟩ := dict_ep hod hdt
    exact next_key_end (I.ok.hd hc) st hgd hdt hsz hi fun h' eb => ⟨rfl, I.turned (t' := s.toks) (fun b ob hb e => eb b ob hb e) f0 f1 f3 f4 f5⟩
  self := fun A i s Q E st h => by
    refine wpAny_pyIter_slot st.typeIs F.slot_dict_keyiterator_iter (wpAny_call_entry F.slot_dict_keyiterator_iter st.typeIs F.entry_dict_keyiterator_iter ?_ (F.args_dict_keyiterator_iter_1 _))
    show wpAny _ _ (ret (.ref it)) _ _ s
    exact wpAny_pure ⟨_, rfl, "dict_keyiterator", _, st.typeIs, F.slot_dict_keyiterator_next.lookup, h⟩
theorem turn_vals {kvs : List (Key × V)} (it : Addr) (hod : o.data = .dict es ep) : Turn P w K tg (Itd d o kvs) [it] it (fun i h => h.IsValIter it d i kvs.length ep) where
  mem := by simp
  obj := fun i h st b hb => by
    have e : b = it := by simpa using hb
    subst e
    obtain ⟨oi, e, c, dd⟩ := st
    exact ⟨oi, e, fun v z => by rw [dd] at z; cases z⟩
  keep := fun i h h' st k => st.at fun oi e => k it (by simp) oi e
  item := by
    intro X hP hw hK hc i pins s σ H E I hf st hg
    subst hP hw hK
    obtain ⟨hd, hi⟩ := hg
    obtain ⟨f0, f1, f2, f3, f4, f5⟩ := hf it (by simp)
    obtain ⟨hs, hgd, hx, es', ep', vs, hdt, hsz, kv, hm⟩ := I.frzK hd
    obtain ⟨rfl, rfl⟩ := dict_ep hod hdt
    obtain ⟨⟨k, v⟩, hkv⟩ : ∃ p, kvs[i]? = some p := ⟨kvs[i], List.getElem?_eq_getElem hi⟩
    obtain ⟨u, hu, ru⟩ := kv_get kv hkv
    have hl : kvs.length = vs.length := Paired.length kv
    rw [hl] at st
    refine wpAny_pyNext_values_item st hm hu fun h' st' sb => ?_
    have I1 : Inv X pins σ H { s with heap := h' } := I.turned (t' := s.toks) (fun b ob hb e => (sb.2 b hb).trans e) f0 f1 f3 f4 f5
    obtain ⟨oi, e, c, dd⟩ := id st'
    refine ⟨u, rfl, go_of (s := { s with heap := h' }) e c dd (by decide) ⟨v, H, I1, ru, ⟨rfl, k, hkv⟩, ?_, fun b hb => (hf b hb).1⟩⟩
    show h'.IsValIter it d (i + 1) kvs.length _
    rw [hl]
    exact st'
  done := by
    intro X hP hw hK hc i pins s σ H E I hf st hg
    subst hP hw hK
    obtain ⟨hd, hi⟩ := hg
    obtain ⟨f0, f1, f2, f3, f4, f5⟩ := hf it (by simp)
    obtain ⟨hs, hgd, hx, es', ep', vs, hdt, hsz, kv, hm⟩ := I.frzK hd
    obtain ⟨rfl, rfl⟩ := dict_ep hod hdt
    have hl : kvs.length = vs.length := Paired.length kv
    rw [hl] at st
    exact wpAny_pyNext_values_end (I.ok.hd hc) st hm (List.getElem?_eq_none (by omega)) fun h' eb => ⟨rfl, I.turned (t' := s.toks) (fun b ob hb e => eb b ob hb e) f0 f1 f3 f4 f5⟩
  self := fun A i s Q E st h => wpAny_pyIter_valiter st h
end
def iKeys (td : TE) : TI := fun σ H R => td σ H fun x H1 => ∃ d o, x = .ref d ∧ ((∃ kvs, H1 d = some (.frz o (.dK kvs)) ∧ R (Itk d o kvs) H1) ∨ ∃ kvs, H1 d = some (.frz o (.dT kvs)) ∧ R (Itkt d o kvs) H1)
def iVals (td : TE) : TI := fun σ H R => td σ H fun x H1 => ∃ d o kvs, x = .ref d ∧ H1 d = some (.frz o (.dK kvs)) ∧ R (Itd d o kvs) H1
section
variable {X : Cx} {tg e : Expr} {td : TE} {apos cpos : Pos}
theorem pi_keys (he : PE X e td) : PI X tg e (iKeys td) := by
  intro pins s σ H R I h
  refine thn (he pins s σ H _ I h) fun u s1 ⟨x, H1, I1, rx, d, o, ex, q⟩ => ?_
  subst ex
  obtain rfl : u = Value.ref d := rx
  rcases q with ⟨kvs, hd, q⟩ | ⟨kvs, hd, q⟩
  · obtain ⟨hs, hgd, hx, es, ep, vs, hdt, hsz, kv, hm⟩ := I1.frzK hd
    refine iter_keys hs hgd hx hdt (pi_one (tk := s1.toks) I1 _ (turn_keys _ hdt) ⟨_, Heap.get?_push_size _ rfl, rfl, ?_⟩ q)
    rw [hsz] <;> rfl
  · obtain ⟨hs, hgd, hx, es, ep, hdt, hsz, ent⟩ := I1.frzT hd
    refine iter_keys hs hgd hx hdt (pi_one (tk := s1.toks) I1 _ (turn_keysT _ hdt) ⟨_, Heap.get?_push_size _ rfl, rfl, ?_⟩ q)
    rw [hsz] <;> rfl
theorem pi_values (he : PE X e td) (hbase : attributeBase e "values" X.env (eval e X.env) = eval e X.env := by rfl) (hline : (apos.endLine == cpos.line) = true := by rfl) : PI X tg (.Call (.Attribute e "values" apos) [] [] cpos) (iVals td) := by
  intro pins s σ H R I h
  refine wpAny_Call_method (T := "dict") (id := "dict.values") hbase rfl hline F.plainAttrs_dict F.slot_dict_values F.type_dict_values (thn (he pins s σ H _ I h) fun u s1 ⟨x, H1, I1, rx, d, o, kvs, ex, hd, q⟩ => ?_)
  subst ex
  obtain rfl : u = Value.ref d := rx
  obtain ⟨hs, hgd, hx, es, ep, vs, hdt, hsz, kv, hm⟩ := I1.frzK hd
  have hl : kvs.length = vs.length := Paired.length kv
  refine ⟨hm.dictOf.typeIs, hm.dictOf.mapOf.noDict, ?_⟩
  have I2 : Inv X pins σ H1 { s1 with heap := s1.heap.push { cls := .type "dict_values", data := .fields #[.ref d] } } := I1.kept (t' := s1.toks) fun b ob q => Heap.get?_push_of_some _ q
  have fin : wpAny (model X.prog X.w) X.A (pyIter (.ref s1.heap.objs.size)) (PIE X pins σ tg R) X.xe { s1 with heap := s1.heap.push { cls := .type "dict_values", data := .fields #[.ref d] } } := by
    refine wpAny_pyIter_values (d := d) (knd := mixKind X.prog X.w) ⟨_, Heap.get?_push_size _ rfl, rfl, rfl⟩ (hm.push _) (pi_one (tk := s1.toks) I2 _ (turn_vals _ hdt) ⟨_, Heap.get?_push_size _ rfl, rfl, ?_⟩ q)
    rw [hl] <;> rfl
  show wpAny _ _ (callWith cpos (.builtin "dict.values") [.ref d] [] []) _ X.xe s1
  exact method_meetsIn F.slot_dict_values F.entry_dict_values rfl (PySem.evalArgs_none ⟨rfl, hm.dictOf.typeIs, F.args_dict_values_1 _, _, meets_dict_values (mixKind X.prog X.w) d hs, ⟨vs, hm.dictOf⟩, fin⟩)
end
def Ite (K : PySem.W.Frag) (a : Addr) : It :=
  ⟨fun i H => ∃ (xs : List V) (x : V), SqL K H a xs ∧ xs[i]? = some x, fun i H v H' => ∃ T x, v = .ref T ∧ H T = none ∧ H' = upd H T (.tup [.int (i : Nat), x]) ∧ ∀ xs, SqL K H a xs → xs[i]? = some x, fun i H => ∃ xs : List V, SqL K H a xs ∧ xs.length ≤ i⟩
theorem turn_enum {P : Program} {w : World} {K : PySem.W.Frag} {elts : List Expr} {kk : Nat} {tpos : Pos} (a e it : Addr) :
    Turn P w K (.Tuple elts kk tpos) (Ite K a) [e, it] e (fun i h => (∃ old, IsEnum h e it ((i : Nat) : Int) old) ∧ h.IsListIter it a i ∧ e ≠ it) where
  mem := by simp
  obj := fun i h st b hb => by
    obtain ⟨⟨old, he⟩, ⟨o, ho, hc, hd⟩, _⟩ := st
    have e' : b = e ∨ b = it := by simpa using hb
    rcases e' with z | z
    · rw [z]; exact ⟨_, he, fun v q => nomatch q⟩
    · rw [z]; exact ⟨o, ho, fun v q => by rw [hd] at q; cases q⟩
  keep := fun i h h' st k => let ⟨⟨old, he⟩, hi, hne⟩ := st; ⟨⟨old, k e (by simp) _ he⟩, hi.at fun o q => k it (by simp) o q, hne⟩
  item := by
    intro X hP hw hK hc i pins s σ H E I hf st hg
    subst hP hw hK
    obtain ⟨⟨old, he⟩, hit, hne⟩ := st
    obtain ⟨xs, x, hq, hx⟩ := hg
    obtain ⟨its, rv, p, hz⟩ := I.list hq
    obtain ⟨u, hu, ru⟩ := rv.get hx
    have hel : e < s.heap.objs.size := Heap.lt_size he
    have hil : it < s.heap.objs.size := by obtain ⟨_, q, _⟩ := hit; exact Heap.lt_size q
    refine wpAny_pyNext_enum_item he hit p.isList (x := u) (by simpa using hu) hne fun h' ho hit' hT hsz hk => ?_
    refine ⟨_, rfl, wpAny_letOwnedTupleGo_enum (s := { s with heap := h', toks := s.toks + 1 }) ho fun h'' he' sb => ?_⟩
    have hT2 : h''.get? s.heap.objs.size = some { cls := .type "tuple", data := .seq #[.int i s.toks, u] } := (sb.2 _ (Nat.ne_of_gt hel)).trans hT
    have new : ObjOk X.prog X.w (upd H s.heap.objs.size (.tup [.int (i : Nat), x])) h'' s.heap.objs.size (.tup [.int (i : Nat), x]) :=
      ⟨by show 2 ≤ sizeLine; decide, [.int i s.toks, u], .cons ⟨_, rfl⟩ (.cons ru .nil), ⟨_, hT2, rfl, _, rfl⟩⟩
    have I1 : Inv X pins σ (upd H s.heap.objs.size (.tup [.int (i : Nat), x])) { s with heap := h'', toks := s.toks + 1 } :=
      I.turnedNew (ch := [e, it]) (fun b ob hb q => (sb.2 b (fun z => hb (by simp [z]))).trans (hk b ob (fun z => hb (by simp [z])) (fun z => hb (by simp [z])) q)) hf (Nat.le_refl _) new
    refine ⟨.ref s.heap.objs.size, _, I1, rfl, ⟨_, x, rfl, I.hok.fresh (Nat.le_refl _), rfl, fun ys hy => by rw [I.list_inj hy hq]; exact hx⟩, ⟨⟨u, ?_⟩, hit'.at fun o q => (sb.2 it (Ne.symm hne)).trans q, hne⟩, fun b hb => ?_⟩
    · have e1 : ((i + 1 : Nat) : Int) = (i : Int) + 1 := by omega
      rw [e1]; exact he'
    · have hb' : b < s.heap.objs.size := by
        have e' : b = e ∨ b = it := by simpa using hb
        rcases e' with z | z
        · rw [z]; exact hel
        · rw [z]; exact hil
      rw [upd_ne (Nat.ne_of_lt hb')]
      exact (hf b hb).1
  done := by
    intro X hP hw hK hc i pins s σ H E I hf st hg
    subst hP hw hK
    obtain ⟨⟨old, he⟩, hit, hne⟩ := st
    obtain ⟨xs, hq, hx⟩ := hg
    obtain ⟨its, rv, p, hz⟩ := I.list hq
    obtain ⟨f0, f1, f2, f3, f4, f5⟩ := hf it (by simp)
    have hl := rv.length
    exact wpAny_pyNext_enum_end (I.ok.hd hc) he hit p.isList (by simp; omega) fun h' eb => ⟨rfl, I.turned (t' := s.toks) (fun b o hb q => eb b o hb q) f0 f1 f3 f4 f5⟩
  self := fun A i s Q E st h => let ⟨⟨_, he⟩, _⟩ := st; wpAny_pyIter_enum he h
def iEnum (K : PySem.W.Frag) (ta : TA) : TI := fun σ H R => ta σ H fun vs H1 => ∃ a xs, vs = [.ref a] ∧ SqL K H1 a xs ∧ R (Ite K a) H1
theorem pi_enum {X : Cx} {e : Expr} {ta : TA} {p pos tpos : Pos} {elts : List Expr} {kk : Nat} (hg : Gl X "enumerate") (hm : X.mg "enumerate" = none) (ha : PA X [e] ta) (hs : starEach [e] X.env = [(false, eval e X.env)] := by rfl) :
    PI X (.Tuple elts kk tpos) (.Call (.Name "enumerate" p) [e] [] pos) (iEnum X.K ta) := by
  intro pins s σ H R I h
  refine Call_ (ld_blt I hg hm boot_enumerate (PyProof.Rows.callWith_type1 (thn (ha pos pins s σ H _ I h) fun us s1 ⟨vs, H1, I1, r1, q1⟩ => ?_) hs rfl))
  obtain ⟨a, xs, ex, hq, q⟩ := q1
  subst ex
  cases r1 with
  | cons r rr =>
    cases rr
    cases r
    obtain ⟨its, rv, p', hz⟩ := I1.list hq
    refine call_enumerate_list p'.isList fun h' he hit hsz hk => wpAny_pyIter_enum he ?_
    have I2 : Inv X pins σ H1 { s1 with heap := h' } := I1.kept (t' := s1.toks) hk
    refine ⟨s1.heap.objs.size + 1, [s1.heap.objs.size + 1, s1.heap.objs.size], _, _, H1, rfl, I2, turn_enum a (s1.heap.objs.size + 1) s1.heap.objs.size, ⟨⟨.none, he⟩, hit, Nat.succ_ne_self _⟩, fun b hb => ?_, q⟩
    have e' : b = s1.heap.objs.size + 1 ∨ b = s1.heap.objs.size := by simpa using hb
    have hle : s1.heap.objs.size ≤ b := by
      rcases e' with z | z
      · rw [z]; exact Nat.le_add_right _ _
      · rw [z]; exact Nat.le_refl _
    exact I1.fpOk hle (I1.hok.fresh hle)
end L2
section 
namespace Bits
open PySem PyProof.Rows
end Bits
end 
section 
namespace TL
open PySem PySem.Builtin PySem.Builtin.Str PySem.StrLaws
end TL
end 
namespace L2
open PySem PySem.Spec PyProof.Rows
section
variable {X : Cx}
end
section
variable {X : Cx} {o e : Expr} {to te : TE}
end
end L2
namespace L2
open PySem PySem.Spec PyProof.Rows
end L2
namespace Att
open PySem PySem.W PySem.Calls PyProof.Rows
section
variable {prog : Program} {w : World} {A : Around} {E : Value → Shared → Prop} {s : Shared} {K : Frag}
theorem make_obj {R : Result → Shared → Prop} {C fI : Addr} {rest : List Value} {kw : List (Str × Value)}
    (X : K.In s.heap) (hm : makesIn K C = true) (hi : findIn K (.ref C) "__init__" = some (some (.ref fI))) (hf : isFn K (.ref fI) = true)
    (h : codeAny (model prog w) (A.under (.builtin "type.__call__" ⟨.ref C :: rest, kw⟩)) (.call (.ref fI) ⟨.ref (s.heap.objs.size + 1) :: rest, kw⟩) (InitBack (s.heap.objs.size + 1) R)
      { s with heap := (s.heap.push emptyDict).push (instObj C s.heap.objs.size) }) : codeAny (model prog w) A (.call (.ref C) ⟨rest, kw⟩) R s := by
  obtain ⟨hh, g, d, t, os⟩ := s
  exact make_core (makes_of X hm) (looks_findIn X hi) (fun self => bind_fn X self (beq_iff_eq.mp hf)) (.inl rfl) h
theorem get_field {x C : Addr} {ox : Obj} {es : List DictEntry} {n : Nat} {name : Str} {expr : Bool} {v : Value} {Q : Value → Shared → Prop}
    (X : K.In s.heap) (I : PySem.W.InstAt s.heap x ox C (some (dictOf es n))) (hg : plainGet K C name = true) (hh : hasDictIn K C = true) (ha : findIn K (.ref C) name = some none)
    (hl : getL name es = some (some v)) (hv : handedIn v = true) (h : Q v { s with toks := s.toks + 1 }) : wpAny (model prog w) A (getAttr (.ref x) name expr) Q E s :=
  get_value X I (plainGet_of hg).1 (findObj_own hh ha rfl hl) hv h
end
end Att
namespace L2
open PySem PySem.Spec PyProof.Rows
end L2
namespace L2
open PySem PySem.Spec PyProof.Rows
end L2
/- THE LAST THEOREM (shape; LID, My.* are yours):
   My.Adr: a structure of the addresses that your layer names (classes, functions); My.Txt K t: a structure (Prop) of the equations over K;
   My.txt_mk : {K} {implicit addresses ..} (e1 : nsIn K mainGlobals "law" = some (some (.ref f))) (e2 : K.lookup f = some ⟨oc, od, .func (fnOf "law" "law" params body scope dV kV doc pm an cdv ct), sl⟩) (e3 : codeIn K cdv "law" = true) .. : ∃ t, My.Txt K t
set_option maxRecDepth 100000 in
set_option maxHeartbeats 0 in
theorem PySem.Challenge.cw_LID_holds : PySem.Challenge.rw_LID.Holds := by
  w_on; o_law; k_head; (case hw => w_witness2)
  k_fill
  refine L2.walk_of (l := PySem.Challenge.rw_LID) (n := 63) (k := 40) (x := "script") (CX := fun w => ..) (sp := fun _ => My.sp_law) rfl (by decide) rfl ⟨rfl, by decide, by decide⟩ (fun w h Y => PySem.W.kIn_of Y) ?F ?S ?C
  case F =>
    intro w mg fa h KX G hmg
    have T : ∃ t, My.Txt (L2.KOf KX) t := by
      dsimp only [L2.KOf]                          -- K must stand as «<heap const> w.params» for k_is
      refine' My.txt_mk ?e1 ?e2 ?e3 ..
      (case e1 => PySem.W.k_is)                    -- in the order: a name -> its address -> its object -> its parts
      (case e2 => PySem.W.k_is)
      ..
    obtain ⟨t, T⟩ := T
    have e0 := hmg.symm.trans (PySem.W.mg_of KX G T.law)
    cases e0                                       -- fa is the law's own address
    exact ⟨_, fun s u => .of_eq rfl, fun base kb nb => My.law_fn T kb nb⟩     -- if «.of_eq rfl» comes too early: refine' ⟨_, ?b, fun base kb nb => My.law_fn T kb nb⟩; exact fun s u => .of_eq rfl
  case S => exact fun w H a ns hl hO hS => ..
  case C => exact ..
(the tactic k_is has no namespace: write k_is) -/
namespace L2
open PySem PySem.Spec PyProof.Rows
def inClass (s : Stmt) (j : Nat) : Stmt := match s with
  | .ClassDef _ _ _ body _ _ _ _ _ _ _ => body.getD j (.Pass ⟨0, 0, 0, 0⟩)
  | _ => .Pass ⟨0, 0, 0, 0⟩
def defArgs (s : Stmt) : Arguments := match s with
  | .FunctionDef _ a _ _ _ _ _ _ _ _ => a
  | _ => { posonlyargs := [], args := [], vararg := none, kwonlyargs := [], kw_defaults := [], kwarg := none, defaults := [] }
def defBody (s : Stmt) : List Stmt := match s with
  | .FunctionDef _ _ b _ _ _ _ _ _ _ => b
  | _ => []
def defScope (s : Stmt) : Scope := match s with
  | .FunctionDef _ _ _ _ _ _ sc _ _ _ => sc
  | _ => { kind := .function, names := [], isGenerator := false, isCoroutine := false }
abbrev CX0 : CXT := fun _ _ _ _ _ _ => False
abbrev E0 : XK := fun _ _ _ => False
theorem pass0 {X : Cx} : Passes CX0 X E0 := fun _ _ _ _ _ _ _ h => h.elim
structure Fun (K : PySem.W.Frag) (x qual : Str) (st : Stmt) (f : Addr) (fd : FuncData) : Prop where
  ex : ∃ (oc : Value) (od : Option Addr) (kV doc pm : Value) (an : Option Addr) (cdv ct : Value) (osl : Array (Option Value)),
    fd = PySem.W.fnOf x qual (defArgs st) (defBody st) (defScope st) .none kV doc pm an cdv ct ∧ K.lookup f = some ⟨oc, od, .func fd, osl⟩ ∧ PySem.W.codeIn K cdv qual = true
  kp : PySem.W.keepIn K (.ref f) = true
section
variable {P : Program} {w : World} {K : PySem.W.Frag} {mg : Str → Option Value} {base : Heap}
theorem Fun.ok {x qual : Str} {st : Stmt} {f : Addr} {fd : FuncData} {N ps : List Str} {k : Nat} {sp : Sp} (F : Fun K x qual st f fd) (S : FnScope N ps (defScope st)) (len : ∀ vs H Q E, sp vs H Q E → vs.length = ps.length)
    (hbody : ∀ (cdv : Value) (A : Around) (outer : List Env) (s : Shared) (H : Hp) (vs : List V) (Q : VK) (E : XK), Room k (A.deeper (envOfC qual (defScope st) s.heap.objs.size f cdv)) → sp vs H Q E →
      ∃ t, PSs (cxOf CX0 P w K mg base N qual (defScope st) f cdv A outer s H E).nox (defBody st) t ∧ t { nx := fun _ H' => Q .non H', rt := Q } (start N vs) H) : FnOk P w K mg base CX0 (k + 1) f fd ps sp := by
  obtain ⟨oc, od, kV, doc, pm, an, cdv, ct, osl, rfl, lk, hcd⟩ := F.ex
  refine fn_of lk hcd S len fun A outer s H vs Q E hr hsp => ?_
  obtain ⟨t, h, q⟩ := hbody cdv A outer s H vs Q E hr hsp
  exact ⟨t, h.nox, q⟩
theorem Fun.binds {x qual : Str} {st : Stmt} {f : Addr} {fd : FuncData} {ps : List Str} (F : Fun K x qual st f fd)
    (h : ∀ (kV doc pm : Value) (an : Option Addr) (cdv ct : Value) (us : List Value), us.length = ps.length → bindArgs (PySem.W.fnOf x qual (defArgs st) (defBody st) (defScope st) .none kV doc pm an cdv ct) ⟨us, []⟩ = pure (ps.zip us)) : Binds K fd ps [] := by
  obtain ⟨oc, od, kV, doc, pm, an, cdv, ct, osl, rfl, lk, hcd⟩ := F.ex
  exact .all (h kV doc pm an cdv ct)
theorem fun_mk {x qual : Str} {st : Stmt} {f : Addr} {oc : Value} {od an : Option Addr} {osl : Array (Option Value)} {kV doc pm cdv ct : Value} (l : K.lookup f = some ⟨oc, od, .func (PySem.W.fnOf x qual (defArgs st) (defBody st) (defScope st) .none kV doc pm an cdv ct), osl⟩)
    (c : PySem.W.codeIn K cdv qual = true) (k : PySem.W.keepIn K (.ref f) = true) : Fun K x qual st f (PySem.W.fnOf x qual (defArgs st) (defBody st) (defScope st) .none kV doc pm an cdv ct) := ⟨⟨oc, od, kV, doc, pm, an, cdv, ct, osl, rfl, l, c⟩, k⟩
end
theorem hu_of {A : Around} {k : Nat} (hr : Room k A) : A.units + 1 < cLine := Nat.lt_of_le_of_lt (Nat.add_le_add_left (by decide : 1 ≤ 64) _) hr.units
theorem small1000 {n : Nat} (h : n ≤ 1000) : n < sizeLine := Nat.lt_of_le_of_lt h (by decide)
section
variable {X : Cx}
theorem pv (i : Nat) {x : Str} {pos : Pos} (hN : X.N[i]? = some x := by rfl) (hv : Vis X.env.scope x := by first | exact Or.inl rfl | exact Or.inr (Or.inl rfl) | exact Or.inr (Or.inr rfl)) (hd : (x == ("__debug__" : Str)) = false := by decide)
    (hcd : (x == ("__classdict__" : Str)) = false := by decide) : PE X (.Name x pos) (tVar i) := pe_var hN hv hd hcd
theorem call_lenD : CallR X (.builtin "len") (fun xs H Q => ∃ a kvs, xs = [V.ref a] ∧ H a = some (.dK kvs) ∧ Q (.int kvs.length) H) := by
  intro pins s σ H xs us Q I r h
  obtain ⟨a, kvs, rfl, ha, q⟩ := h
  obtain ⟨u, rfl, ru⟩ := vals1 r
  cases ru
  exact d_len I (.inl ha) fun t s' I' => ⟨.int kvs.length, H, I', ⟨t, rfl⟩, q⟩
end
theorem iteF {A B : Prop} (h : B) : if false = true then A else B := by
  rw [if_neg Bool.false_ne_true]
  exact h
theorem iteT {A B : Prop} (h : A) : if true = true then A else B := by
  rw [if_pos rfl]
  exact h
theorem ite2 {c A B : Prop} [Decidable c] (h1 : c → A) (h2 : ¬ c → B) : if c then A else B := by
  by_cases h : c
  · rw [if_pos h]
    exact h1 h
  · rw [if_neg h]
    exact h2 h
def Same (H H' : Hp) : Prop := ∀ b o, H b = some o → H' b = some o
theorem Same.refl (H : Hp) : Same H H := fun _ _ h => h
theorem Same.trans {H H1 H2 : Hp} (a : Same H H1) (b : Same H1 H2) : Same H H2 := fun c o h => b c o (a c o h)
theorem Same.free {H H' : Hp} (e : Same H H') {l : Addr} (h : H' l = Option.none) : H l = Option.none := by
  cases q : H l with
  | none => rfl
  | some o =>
    rw [e l o q] at h
    cases h
theorem Same.seq {K : PySem.W.Frag} {H H' : Hp} {a : Addr} {xs : List V} (e : Same H H') (h : SqL K H a xs) : SqL K H' a xs := by
  rcases h with (h | ⟨o, h⟩) | h
  · exact .inl (.inl (e _ _ h))
  · exact .inl (.inr ⟨o, e _ _ h⟩)
  · exact .inr h
theorem at_of {xs : List V} {z : Int} {j : Nat} {v : V} (e : z = (j : Int)) (h : xs[j]? = some v) : atI xs z = some v := by
  rw [e]
  exact atI_nat h
theorem nd_ix {α : Type} {l : List α} (hN : l.Nodup) {i j : Nat} {x : α} (a : l[i]? = some x) (b : l[j]? = some x) : i = j := by
  obtain ⟨h1, e1⟩ := List.getElem?_eq_some_iff.mp a
  obtain ⟨h2, e2⟩ := List.getElem?_eq_some_iff.mp b
  exact (List.getElem_inj hN).mp (e1.trans e2.symm)
theorem Same.made {H H1 : Hp} {x dx C : Addr} (nx : H x = Option.none) (nd : H dx = Option.none) (k : ∀ b o, (upd (upd H dx (.own x)) x (.ins C dx [])) b = some o → b ≠ x → H1 b = some o) : Same H H1 := fun b o e =>
  k b o (by rw [upd_ne (ne_of_none e nx), upd_ne (ne_of_none e nd)]; exact e) (ne_of_none e nx)
end L2
end
section
section
set_option maxHeartbeats 2000000
namespace L2
open PySem PySem.Spec PyProof.Rows
open PySem.W (WData Codec OpenSpec Well WellAll ReadsW ReadsAllW)
mutual
inductive Dw (K : PySem.W.Frag) (H : Hp) : V → WData → Prop
  | non : Dw K H .non .none
  | bl (b : Bool) : Dw K H (.bl b) (.bool b)
  | int (i : Int) : Dw K H (.int i) (.int i)
  | str (x : Str) : Dw K H (.str x) (.str x)
  | byt (b : Array UInt8) : Dw K H (.byt b) (.bytes b.toList)
  | lst {a : Addr} {xs : List V} {ds : List WData} : SqL K H a xs → DwAll K H xs ds → Dw K H (.ref a) (.list ds)
  | tup {a : Addr} {xs : List V} {ds : List WData} : SqT K H a xs → DwAll K H xs ds → Dw K H (.ref a) (.tuple ds)
inductive DwAll (K : PySem.W.Frag) (H : Hp) : List V → List WData → Prop
  | nil : DwAll K H [] []
  | cons {v : V} {vs : List V} {d : WData} {ds : List WData} : Dw K H v d → DwAll K H vs ds → DwAll K H (v :: vs) (d :: ds)
end
theorem dw_ints {K : PySem.W.Frag} {H : Hp} : ∀ ns : List Int, DwAll K H (ns.map V.int) (ns.map WData.int)
  | [] => .nil
  | n :: r => .cons (.int n) (dw_ints r)
theorem ints_dw {K : PySem.W.Frag} {H : Hp} : ∀ (ns : List Int) (xs : List V), DwAll K H xs (ns.map WData.int) → xs = ns.map V.int
  | [], xs, h => by
    cases h
    rfl
  | n :: r, xs, h => by
    cases h with
    | cons h1 h2 =>
      cases h1
      rw [ints_dw r _ h2] <;> rfl
section
variable {P : Program} {w : World} {K : PySem.W.Frag} {H : Hp} {h : Heap} {R : PySem.W.WRecords} {cl : Str → Option Addr}
theorem sqL_at {a : Addr} {xs : List V} (hok : HOk P w H h) (KX : K.In h) (q : SqL K H a xs) : ∃ (its : List Value) (o : Obj) (n : Nat), Vals xs its ∧ h.get? a = some o ∧ o.cls = .type "list" ∧ o.data = .seq its.toArray n := by
  rcases q with q | ⟨o, its, n, e, hc, _, hd, _, hv⟩
  · obtain ⟨_, its, n, hv, e⟩ := (show ObjOk P w H h a (.lst xs) from q.ok hok)
    exact ⟨its, _, n, hv, e, rfl, rfl⟩
  · exact ⟨its.toList, o, n, hv, KX _ _ e, hc, by simp [hd]⟩
theorem sqT_at {a : Addr} {xs : List V} (hok : HOk P w H h) (KX : K.In h) (q : SqT K H a xs) : ∃ (its : List Value) (o : Obj) (n : Nat), Vals xs its ∧ h.get? a = some o ∧ o.cls = .type "tuple" ∧ o.data = .seq its.toArray n := by
  rcases q with q | ⟨o, its, n, e, hc, hd, _, hv⟩
  · obtain ⟨_, its, hv, o, e, hc, n, hd⟩ := (show ObjOk P w H h a (.tup xs) from q.ok hok)
    exact ⟨its, o, n, hv, e, hc, hd⟩
  · exact ⟨its.toList, o, n, hv, KX _ _ e, hc, by simp [hd]⟩
mutual
theorem Dw.reads (hok : HOk P w H h) (KX : K.In h) : ∀ (d : WData) (v : V) (u : Value), Dw K H v d → RelV v u → ∃ as, ReadsW R cl h u d as
  | .none, _, _, x, r => by
    cases x
    cases r
    exact ⟨_, ReadsW.none⟩
  | .bool b, _, _, x, r => by
    cases x
    cases r
    exact ⟨_, ReadsW.bool b⟩
  | .int i, _, _, x, r => by
    cases x
    obtain ⟨t, rfl⟩ := r
    exact ⟨_, ReadsW.int i t⟩
  | .str s, _, _, x, r => by
    cases x
    obtain ⟨t, rfl⟩ := r
    exact ⟨_, ReadsW.str s t⟩
  | .bytes b, _, _, x, r => by
    cases x
    obtain ⟨t, rfl⟩ := r
    exact ⟨_, ReadsW.bytes _ t⟩
  | .list ds, _, _, x, r => by
    cases x with
    | lst hs ha =>
      cases r
      obtain ⟨its, o, n, rv, ho, hc, hd⟩ := sqL_at hok KX hs
      obtain ⟨as, hr⟩ := Dw.readsAll hok KX ds _ its ha rv
      exact ⟨_, ReadsW.list ho hc hd hr⟩
  | .tuple ds, _, _, x, r => by
    cases x with
    | tup hs ha =>
      cases r
      obtain ⟨its, o, n, rv, ho, hc, hd⟩ := sqT_at hok KX hs
      obtain ⟨as, hr⟩ := Dw.readsAll hok KX ds _ its ha rv
      exact ⟨_, ReadsW.tuple ho hc hd hr⟩
  | .float _, _, _, x, _ => by cases x
  | .dict _, _, _, x, _ => by cases x
  | .bytearray _, _, _, x, _ => by cases x
  | .set _, _, _, x, _ => by cases x
  | .frozenset _, _, _, x, _ => by cases x
  | .obj _ _, _, _, x, _ => by cases x
theorem Dw.readsAll (hok : HOk P w H h) (KX : K.In h) : ∀ (ds : List WData) (vs : List V) (us : List Value), DwAll K H vs ds → Vals vs us → ∃ as, ReadsAllW R cl h us ds as
  | [], _, _, x, r => by
    cases x
    cases r
    exact ⟨_, ReadsAllW.nil⟩
  | d :: ds, _, _, x, r => by
    cases x with
    | cons h1 h2 =>
      cases r with
      | cons r1 r2 =>
        obtain ⟨as, q1⟩ := Dw.reads hok KX d _ _ h1 r1
        obtain ⟨bs, q2⟩ := Dw.readsAll hok KX ds _ _ h2 r2
        exact ⟨_, ReadsAllW.cons q1 q2⟩
end
end
mutual
def plW : WData → Bool
  | .none => true
  | .bool _ => true
  | .int _ => true
  | .str _ => true
  | .bytes _ => true
  | .list xs => plWs xs
  | .tuple xs => plWs xs
  | _ => false
def plWs : List WData → Bool
  | [] => true
  | x :: r => plW x && plWs r
end
theorem plWs_map {α : Type} {f : α → WData} (h : ∀ a, plW (f a) = true) : ∀ l : List α, plWs (l.map f) = true
  | [] => rfl
  | x :: r => by
    show (plW (f x) && plWs (r.map f)) = true
    rw [h x, plWs_map h r] <;> rfl
theorem pl_enc : ∀ (c : Codec) (a : c.denote), plW (c.enc a) = true
  | .unit, _ => rfl
  | .bool, _ => rfl
  | .int _ _, _ => rfl
  | .nat _ _, _ => rfl
  | .u8, _ => rfl
  | .bytes _ _, _ => rfl
  | .text _ _ _ _, _ => rfl
  | .list _ _ c, a => plWs_map (fun x => pl_enc c x) a
  | .pair c d, a => by
    show (plW (c.enc a.1) && (plW (d.enc a.2) && true)) = true
    rw [pl_enc c a.1, pl_enc d a.2] <;> rfl
  | .triple c d e, a => by
    show (plW (c.enc a.1) && (plW (d.enc a.2.1) && (plW (e.enc a.2.2) && true))) = true
    rw [pl_enc c a.1, pl_enc d a.2.1, pl_enc e a.2.2] <;> rfl
  | .option c, none => rfl
  | .option c, some x => pl_enc c x
theorem pl_encAll : ∀ (cs : List Codec) (a : Codec.denoteAll cs), plWs (Codec.encAll cs a) = true
  | [], _ => rfl
  | c :: cs, a => by
    show (plW (c.enc a.1) && plWs (Codec.encAll cs a.2)) = true
    rw [pl_enc c a.1, pl_encAll cs a.2] <;> rfl
theorem weight_mem : ∀ {xs : List WData} {d : WData}, d ∈ xs → d.weight ≤ WData.weightAll xs
  | [], d, h => absurd h (by simp)
  | x :: r, d, h => by
    show d.weight ≤ x.weight + 1 + WData.weightAll r
    rcases List.mem_cons.mp h with e | m
    · rw [e]
      omega
    · have z := weight_mem m
      omega
def toV : Value → V
  | .none => .non
  | .bool b => .bl b
  | .int i _ => .int i
  | .str x _ => .str x
  | .bytes b _ => .byt b
  | .ref a => .ref a
  | _ => .non
def OkU (A : List Addr) : Value → Prop
  | .none => True
  | .bool _ => True
  | .int _ _ => True
  | .str _ _ => True
  | .bytes _ _ => True
  | .ref a => a ∈ A
  | _ => False
theorem OkU.mono {A B : List Addr} (h : ∀ a ∈ A, a ∈ B) : ∀ {u : Value}, OkU A u → OkU B u := fun {u} x => by
  cases u with
  | ref a => exact h a x
  | none => trivial
  | bool b => trivial
  | int i t => trivial
  | str s t => trivial
  | bytes b t => trivial
  | _ => exact False.elim x
theorem relV_toV {A : List Addr} {u : Value} (x : OkU A u) : RelV (toV u) u := by
  cases u with
  | ref a => rfl
  | none => rfl
  | bool b => rfl
  | int i t => exact ⟨t, rfl⟩
  | str s t => exact ⟨t, rfl⟩
  | bytes b t => exact ⟨t, rfl⟩
  | _ => exact False.elim x
theorem vals_toV {A : List Addr} : ∀ {vs : List Value}, (∀ u ∈ vs, OkU A u) → Vals (vs.map toV) vs
  | [], _ => .nil
  | u :: r, h => .cons (relV_toV (h u (List.mem_cons_self ..))) (vals_toV fun x hx => h x (List.mem_cons_of_mem _ hx))
def ArgOb (h : Heap) (A : List Addr) (a : Addr) : Prop := ∃ vs : List Value, vs.length ≤ sizeLine ∧ (∀ u ∈ vs, OkU A u) ∧
  (h.get? a = some { cls := .type "list", data := .seq vs.toArray } ∨ h.get? a = some { cls := .type "tuple", data := .seq vs.toArray })
theorem ArgOb.mono {h : Heap} {A B : List Addr} {a : Addr} (k : ∀ a ∈ A, a ∈ B) (x : ArgOb h A a) : ArgOb h B a := by
  obtain ⟨vs, h1, h2, h3⟩ := x
  exact ⟨vs, h1, fun u hu => (h2 u hu).mono k, h3⟩
theorem wellAll_len {P : Params} {h : Heap} : ∀ {vs : List Value} {ds : List WData}, WellAll P h vs ds → vs.length = ds.length
  | _, _, .nil => rfl
  | _, _, .cons _ b => by
    show _ + 1 = _ + 1
    rw [wellAll_len b]
theorem well_list {P : Params} {h : Heap} {v : Value} {ds : List WData} (x : Well P h v (.list ds)) : ∃ (a : Addr) (vs : List Value), v = .ref a ∧ h.get? a = some { cls := .type "list", data := .seq vs.toArray } ∧ WellAll P h vs ds := by
  cases x with
  | list ho hall => exact ⟨_, _, rfl, ho, hall⟩
theorem well_tuple {P : Params} {h : Heap} {v : Value} {ds : List WData} (x : Well P h v (.tuple ds)) : ∃ (a : Addr) (vs : List Value), v = .ref a ∧ h.get? a = some { cls := .type "tuple", data := .seq vs.toArray } ∧ WellAll P h vs ds := by
  cases x with
  | tuple ho hall => exact ⟨_, _, rfl, ho, hall⟩
theorem well_cons {P : Params} {h : Heap} {us : List Value} {d : WData} {ds : List WData} (x : WellAll P h us (d :: ds)) : ∃ (v : Value) (vs : List Value), us = v :: vs ∧ Well P h v d ∧ WellAll P h vs ds := by
  cases x with
  | cons a b => exact ⟨_, _, rfl, a, b⟩
theorem line_of {n : Nat} (h : n ≤ 1048576) : n ≤ sizeLine := Nat.le_trans h (by decide)
section
variable {P : Params} {h : Heap}
mutual
theorem area_one : ∀ (d : WData) (v : Value), Well P h v d → plW d = true → d.weight ≤ 1048576 → ∃ A : List Addr, OkU A v ∧ ∀ a ∈ A, ArgOb h A a
  | .none, _, x, _, _ => by
    cases x
    exact ⟨[], trivial, fun a m => absurd m (by simp)⟩
  | .bool b, _, x, _, _ => by
    cases x
    exact ⟨[], trivial, fun a m => absurd m (by simp)⟩
  | .int i, _, x, _, _ => by
    cases x
    exact ⟨[], trivial, fun a m => absurd m (by simp)⟩
  | .str s, _, x, _, _ => by
    cases x
    exact ⟨[], trivial, fun a m => absurd m (by simp)⟩
  | .bytes b, _, x, _, _ => by
    cases x
    exact ⟨[], trivial, fun a m => absurd m (by simp)⟩
  | .list ds, _, x, p, z => by
    obtain ⟨a, vs, rfl, ho, hall⟩ := well_list x
    have z2 : WData.weightAll ds ≤ 1048576 := z
    obtain ⟨A, h1, h2⟩ := area_all ds _ hall p fun d hd => Nat.le_trans (weight_mem hd) z2
    have k : ∀ b ∈ A, b ∈ a :: A := fun b hb => List.mem_cons_of_mem _ hb
    refine ⟨a :: A, List.mem_cons_self .., fun b hb => ?_⟩
    rcases List.mem_cons.mp hb with e | m
    · rw [e]
      exact ⟨vs, line_of (by rw [wellAll_len hall]; exact Nat.le_trans (PySem.W.length_le_weightAllW ds) z2), fun u hu => (h1 u hu).mono k, .inl ho⟩
    · exact (h2 b m).mono k
  | .tuple ds, _, x, p, z => by
    obtain ⟨a, vs, rfl, ho, hall⟩ := well_tuple x
    have z2 : WData.weightAll ds ≤ 1048576 := z
    obtain ⟨A, h1, h2⟩ := area_all ds _ hall p fun d hd => Nat.le_trans (weight_mem hd) z2
    have k : ∀ b ∈ A, b ∈ a :: A := fun b hb => List.mem_cons_of_mem _ hb
    refine ⟨a :: A, List.mem_cons_self .., fun b hb => ?_⟩
    rcases List.mem_cons.mp hb with e | m
    · rw [e]
      exact ⟨vs, line_of (by rw [wellAll_len hall]; exact Nat.le_trans (PySem.W.length_le_weightAllW ds) z2), fun u hu => (h1 u hu).mono k, .inr ho⟩
    · exact (h2 b m).mono k
  | .float _, _, _, p, _ => Bool.noConfusion (show false = true from p)
  | .dict _, _, _, p, _ => Bool.noConfusion (show false = true from p)
  | .bytearray _, _, _, p, _ => Bool.noConfusion (show false = true from p)
  | .set _, _, _, p, _ => Bool.noConfusion (show false = true from p)
  | .frozenset _, _, _, p, _ => Bool.noConfusion (show false = true from p)
  | .obj _ _, _, _, p, _ => Bool.noConfusion (show false = true from p)
theorem area_all : ∀ (ds : List WData) (vs : List Value), WellAll P h vs ds → plWs ds = true → (∀ d ∈ ds, d.weight ≤ 1048576) → ∃ A : List Addr, (∀ u ∈ vs, OkU A u) ∧ ∀ a ∈ A, ArgOb h A a
  | [], _, x, _, _ => by
    cases x
    exact ⟨[], fun u m => absurd m (by simp), fun a m => absurd m (by simp)⟩
  | d :: ds, _, x, p, z => by
    obtain ⟨v, vs, rfl, x1, x2⟩ := well_cons x
    have q : plW d = true ∧ plWs ds = true := Bool.and_eq_true_iff.mp p
    obtain ⟨A, a1, a2⟩ := area_one d v x1 q.1 (z d (List.mem_cons_self ..))
    obtain ⟨B, b1, b2⟩ := area_all ds vs x2 q.2 fun e he => z e (List.mem_cons_of_mem _ he)
    have kA : ∀ b ∈ A, b ∈ A ++ B := fun b hb => List.mem_append.mpr (.inl hb)
    have kB : ∀ b ∈ B, b ∈ A ++ B := fun b hb => List.mem_append.mpr (.inr hb)
    refine ⟨A ++ B, fun u hu => ?_, fun b hb => ?_⟩
    · rcases List.mem_cons.mp hu with e | m
      · rw [e]
        exact a1.mono kA
      · exact (b1 u m).mono kB
    · rcases List.mem_append.mp hb with m | m
      · exact (a2 b m).mono kA
      · exact (b2 b m).mono kB
end
end
def hoOf (o : Obj) : Option HO := match o.data with
  | .seq vs _ => if (o.cls == Value.type "list") = true then some (.frz o (.lst (vs.toList.map toV))) else some (.frz o (.tup (vs.toList.map toV)))
  | _ => none
def argH (K : PySem.W.Frag) (h : Heap) (A : List Addr) : Hp := fun b => if b ∈ A then (if (K.lookup b).isNone = true then (h.get? b).bind hoOf else none) else none
def OnlyF (H : Hp) : Prop := ∀ b, H b = none ∨ ∃ o u, H b = some (.frz o u)
theorem hoOf_lst (vs : List Value) : hoOf { cls := .type "list", data := .seq vs.toArray } = some (.frz { cls := .type "list", data := .seq vs.toArray } (.lst (vs.map toV))) := by
  show (if (Value.type "list" == Value.type "list") = true then some (HO.frz { cls := .type "list", data := .seq vs.toArray } (.lst (vs.toArray.toList.map toV))) else some (HO.frz { cls := .type "list", data := .seq vs.toArray } (.tup (vs.toArray.toList.map toV)))) = _
  rw [if_pos (beq_self_eq_true _)]
theorem hoOf_tup (vs : List Value) : hoOf { cls := .type "tuple", data := .seq vs.toArray } = some (.frz { cls := .type "tuple", data := .seq vs.toArray } (.tup (vs.map toV))) := by
  show (if (Value.type "tuple" == Value.type "list") = true then some (HO.frz { cls := .type "tuple", data := .seq vs.toArray } (.lst (vs.toArray.toList.map toV))) else some (HO.frz { cls := .type "tuple", data := .seq vs.toArray } (.tup (vs.toArray.toList.map toV)))) = _
  rw [if_neg (by decide)]
section
variable {P : Program} {w : World} {K : PySem.W.Frag} {h : Heap} {A : List Addr}
theorem argH_at {b : Addr} {o : Obj} (hb : b ∈ A) (hk : K.lookup b = none) (e : h.get? b = some o) : argH K h A b = hoOf o := by
  unfold argH
  rw [if_pos hb, hk, if_pos (show (none : Option Obj).isNone = true from rfl), e] <;> rfl
theorem of_argH {b : Addr} {u : HO} (q : argH K h A b = some u) : b ∈ A ∧ K.lookup b = none := by
  unfold argH at q
  by_cases hb : b ∈ A
  · rw [if_pos hb] at q
    cases hk : K.lookup b with
    | none => exact ⟨hb, rfl⟩
    | some o =>
      rw [hk, if_neg (by simp)] at q
      cases q
  · rw [if_neg hb] at q
    cases q
theorem argH_is (ar : ∀ a ∈ A, ArgOb h A a) {b : Addr} {u : HO} (q : argH K h A b = some u) : K.lookup b = none ∧ ∃ vs : List Value, vs.length ≤ sizeLine ∧ (∀ u ∈ vs, OkU A u) ∧
    ((h.get? b = some { cls := .type "list", data := .seq vs.toArray } ∧ u = .frz { cls := .type "list", data := .seq vs.toArray } (.lst (vs.map toV))) ∨
     (h.get? b = some { cls := .type "tuple", data := .seq vs.toArray } ∧ u = .frz { cls := .type "tuple", data := .seq vs.toArray } (.tup (vs.map toV)))) := by
  obtain ⟨hb, hk⟩ := of_argH q
  obtain ⟨vs, h1, h2, h3⟩ := ar b hb
  refine ⟨hk, vs, h1, h2, ?_⟩
  rcases h3 with e | e
  · rw [argH_at hb hk e, hoOf_lst] at q
    exact .inl ⟨e, (Option.some.inj q).symm⟩
  · rw [argH_at hb hk e, hoOf_tup] at q
    exact .inr ⟨e, (Option.some.inj q).symm⟩
theorem argH_only (ar : ∀ a ∈ A, ArgOb h A a) : OnlyF (argH K h A) := fun b => by
  cases q : argH K h A b with
  | none => exact .inl rfl
  | some u =>
    obtain ⟨_, vs, _, _, ⟨_, e⟩ | ⟨_, e⟩⟩ := argH_is ar q
    · exact .inr ⟨_, _, by rw [e]⟩
    · exact .inr ⟨_, _, by rw [e]⟩
theorem argH_ok (ar : ∀ a ∈ A, ArgOb h A a) : HOk P w (argH K h A) h := fun b u q => by
  obtain ⟨_, vs, h1, h2, ⟨e, rfl⟩ | ⟨e, rfl⟩⟩ := argH_is ar q
  · exact ⟨e, by rw [List.length_map]; exact h1, vs, _, vals_toV h2, e⟩
  · exact ⟨e, by rw [List.length_map]; exact h1, vs, vals_toV h2, _, e, rfl, _, rfl⟩
theorem seq_inj {c c' : Value} {vs us : List Value} (e : (some { cls := c, data := .seq vs.toArray } : Option Obj) = some { cls := c', data := .seq us.toArray }) : c = c' ∧ vs = us := by
  have e1 := Option.some.inj e
  have e2 : c = c' := congrArg Obj.cls e1
  have e3 : Data.seq vs.toArray = Data.seq us.toArray := congrArg Obj.data e1
  injection e3 with e4
  refine ⟨e2, ?_⟩
  have e5 := congrArg Array.toList e4
  simpa using e5
theorem argL (KX : K.In h) (ar : ∀ a ∈ A, ArgOb h A a) {a : Addr} {vs : List Value} (ha : a ∈ A) (e : h.get? a = some { cls := .type "list", data := .seq vs.toArray }) : (∀ u ∈ vs, OkU A u) ∧ SqL K (argH K h A) a (vs.map toV) := by
  obtain ⟨us, h1, h2, h3⟩ := ar a ha
  have hu : us = vs := by
    rcases h3 with q | q
    · rw [e] at q
      exact (seq_inj q).2.symm
    · rw [e] at q
      exact absurd (Value.type.inj (seq_inj q).1) (by decide)
  subst hu
  refine ⟨h2, ?_⟩
  cases hk : K.lookup a with
  | none => exact .inl (.inr ⟨_, by rw [argH_at ha hk e, hoOf_lst]⟩)
  | some o =>
    have e2 := KX a o hk
    rw [e] at e2
    obtain rfl := Option.some.inj e2
    exact .inr ⟨_, us.toArray, _, hk, rfl, rfl, rfl, by rw [List.size_toArray]; exact h1, by simpa using vals_toV h2⟩
theorem argT (KX : K.In h) (ar : ∀ a ∈ A, ArgOb h A a) {a : Addr} {vs : List Value} (ha : a ∈ A) (e : h.get? a = some { cls := .type "tuple", data := .seq vs.toArray }) : (∀ u ∈ vs, OkU A u) ∧ SqT K (argH K h A) a (vs.map toV) := by
  obtain ⟨us, h1, h2, h3⟩ := ar a ha
  have hu : us = vs := by
    rcases h3 with q | q
    · rw [e] at q
      exact absurd (Value.type.inj (seq_inj q).1) (by decide)
    · rw [e] at q
      exact (seq_inj q).2.symm
  subst hu
  refine ⟨h2, ?_⟩
  cases hk : K.lookup a with
  | none => exact .inl (.inr ⟨_, by rw [argH_at ha hk e, hoOf_tup]⟩)
  | some o =>
    have e2 := KX a o hk
    rw [e] at e2
    obtain rfl := Option.some.inj e2
    exact .inr ⟨_, us.toArray, _, hk, rfl, rfl, by rw [List.size_toArray]; exact h1, by simpa using vals_toV h2⟩
mutual
theorem dw_one {Pm : Params} (KX : K.In h) (ar : ∀ a ∈ A, ArgOb h A a) : ∀ (d : WData) (v : Value), Well Pm h v d → plW d = true → OkU A v → Dw K (argH K h A) (toV v) d
  | .none, _, x, _, _ => by
    cases x
    exact .non
  | .bool b, _, x, _, _ => by
    cases x
    exact .bl b
  | .int i, _, x, _, _ => by
    cases x
    exact .int i
  | .str s, _, x, _, _ => by
    cases x
    exact .str s
  | .bytes b, _, x, _, _ => by
    cases x
    have z := Dw.byt (K := K) (H := argH K h A) b.toArray
    exact z
  | .list ds, _, x, p, hu => by
    obtain ⟨a, vs, rfl, ho, hall⟩ := well_list x
    obtain ⟨h2, hs⟩ := argL KX ar hu ho
    exact .lst hs (dw_all KX ar ds _ hall p h2)
  | .tuple ds, _, x, p, hu => by
    obtain ⟨a, vs, rfl, ho, hall⟩ := well_tuple x
    obtain ⟨h2, hs⟩ := argT KX ar hu ho
    exact .tup hs (dw_all KX ar ds _ hall p h2)
  | .float _, _, _, p, _ => Bool.noConfusion (show false = true from p)
  | .dict _, _, _, p, _ => Bool.noConfusion (show false = true from p)
  | .bytearray _, _, _, p, _ => Bool.noConfusion (show false = true from p)
  | .set _, _, _, p, _ => Bool.noConfusion (show false = true from p)
  | .frozenset _, _, _, p, _ => Bool.noConfusion (show false = true from p)
  | .obj _ _, _, _, p, _ => Bool.noConfusion (show false = true from p)
theorem dw_all {Pm : Params} (KX : K.In h) (ar : ∀ a ∈ A, ArgOb h A a) : ∀ (ds : List WData) (vs : List Value), WellAll Pm h vs ds → plWs ds = true → (∀ u ∈ vs, OkU A u) → DwAll K (argH K h A) (vs.map toV) ds
  | [], _, x, _, _ => by
    cases x
    exact .nil
  | d :: ds, _, x, p, hu => by
    obtain ⟨v, vs, rfl, x1, x2⟩ := well_cons x
    have q : plW d = true ∧ plWs ds = true := Bool.and_eq_true_iff.mp p
    exact .cons (dw_one KX ar d v x1 q.1 (hu _ (List.mem_cons_self ..))) (dw_all KX ar ds vs x2 q.2 fun u m => hu u (List.mem_cons_of_mem _ m))
end
end
theorem spec_call {P : Program} {w : World} {K : PySem.W.Frag} {mg mb : Str → Option Value} {CX : CXT} {k : Nat} {fa : Addr} {fd : FuncData} {ps : List Str} {sp : Sp} {s₁ : Shared} {vals : List Value} {ds : List WData} {R : PySem.W.WRecords} {cl : Str → Option Addr} {d0 : WData}
    (KX : K.In s₁.heap) (hns : s₁.heap.Ns mainGlobals mg) (hb : s₁.heap.Ns builtinsNs mb) (hbb : ∀ x : Str, x ≠ "__name__" → mb x = bootBuiltins x) (hlim : s₁.heap.NoLimit) (hg : s₁.gens = #[])
    (hwl : WellAll w.params s₁.heap vals ds) (hpl : plWs ds = true) (hwt : ∀ d ∈ ds, d.weight ≤ 1048576) (hr : Room k callerA)
    (F : ∀ base : Heap, K.In base → base.Ns mainGlobals mg → FnOk P w K mg base CX k fa fd ps sp) (hbind : ∀ (s : Shared) (us : List Value), us.length = ps.length → BindsTo s fd ⟨us, []⟩ (ps.zip us)) (hlen : ds.length = ps.length)
    (hsp : ∀ (H : Hp) (xs : List V), OnlyF H → DwAll K H xs ds → sp xs H (fun v H' => Dw K H' v d0) fun _ _ _ => False)
    (hCX : ∀ H e s', CX [] H s₁ (fun _ _ _ => False) e s' → False) :
    codeAny (model P w) callerA (.call (.ref fa) ⟨vals, []⟩) (fun r s' => ∃ u as, r = .ok (.ret u) ∧ ReadsW R cl s'.heap u d0 as ∧ OldK s₁.heap s'.heap ∧ s'.os = s₁.os ∧ AllBare s'.gens) s₁ := by
  obtain ⟨A, ho, ar⟩ := area_all ds vals hwl hpl hwt
  have hO : OnlyF (argH K s₁.heap A) := argH_only ar
  have hok : HOk P w (argH K s₁.heap A) s₁.heap := argH_ok ar
  have hS := dw_all KX ar ds vals hwl hpl ho
  have hV := vals_toV ho
  have hK : ∀ b u, argH K s₁.heap A b = some u → K.lookup b = none := fun b u q => (argH_is ar q).1
  have noA : ∀ {b : Addr} {o : Obj} {es : Array DictEntry} {ep : Nat}, s₁.heap.get? b = some o → o.data = .dict es ep → argH K s₁.heap A b = none := fun {b o es ep} e d => by
    cases q : argH K s₁.heap A b with
    | none => rfl
    | some u =>
      obtain ⟨_, vs, _, _, ⟨e2, _⟩ | ⟨e2, _⟩⟩ := argH_is ar q
      · rw [e2] at e
        cases e
        have d' : Data.seq vs.toArray _ = Data.dict es ep := d
        cases d'
      · rw [e2] at e
        cases e
        have d' : Data.seq vs.toArray _ = Data.dict es ep := d
        cases d'
  generalize argH K s₁.heap A = H at hO hok hS hK noA
  have base_of : ∀ {b : Addr} {o : Obj}, s₁.heap.get? b = some o → H b = none → (hidT s₁.heap H).get? b = some o := fun e n => hidT_get e n
  have nsK : ∀ {b : Addr} {m : Str → Option Value}, s₁.heap.Ns b m → (hidT s₁.heap H).Ns b m := fun {b m} ⟨o, es, ep, e, d, r⟩ => ⟨o, es, ep, base_of e (noA e d), d, r⟩
  have nK : ∀ b o, K.lookup b = some o → H b = none := fun b o e => by
    cases q : H b with
    | none => rfl
    | some u =>
      rw [hK b u q] at e
      cases e
  have hKb : K.In (hidT s₁.heap H) := fun b o e => base_of (KX b o e) (nK b o e)
  have hM : Mod K mg (hidT s₁.heap H) := ⟨hKb, nsK hns, ⟨mb, nsK hb, hbb⟩, let ⟨mc, h1, h2⟩ := hlim; ⟨mc, nsK h1, h2⟩⟩
  have e0 : Env0 P w K mg (hidT s₁.heap H) callerA [] s₁ H := ⟨rfl, hM, fun b o e => of_hidT e, Nat.le_of_eq (hidT_size _ _), trivial, fun b hb => absurd (show b ∈ ([] : List Addr) from hb) (by simp), hok, .of_eq hg⟩
  have hl : vals.length = ps.length := by rw [wellAll_len hwl]; exact hlen
  refine codeAny_mono ((F _ hKb (nsK hns)).run callerA [] s₁ H ⟨vals, []⟩ vals (vals.map toV) _ _ hr e0 (hbind s₁ vals hl) hV (hsp H _ hO hS)) fun r s' x => ?_
  cases r with
  | error e => exact (hCX H e s' x).elim
  | ok fl =>
    cases fl with
    | next => exact False.elim x
    | brk => exact False.elim x
    | cont => exact False.elim x
    | ret u =>
      obtain ⟨v, H', os, bare, un, hok', r', q⟩ := x
      have kept : ∀ b o, s₁.heap.get? b = some o → s'.heap.get? b = some o := fun b o e => by
        cases q2 : H b with
        | none => exact un.keep b o e q2 (by intro z; exact absurd (show b ∈ ([] : List Addr) from z) (by simp)) (by simp)
        | some u2 =>
          rcases hO b with z | ⟨ob, u3, z⟩
          · rw [q2] at z
            cases z
          · have z2 := un.frzs b ob _ z
            obtain ⟨e1, _⟩ := hok b _ z
            obtain ⟨e2, _⟩ := hok' b _ z2
            rw [e] at e1
            cases e1
            exact e2
      have KX' : K.In s'.heap := fun b o e => kept b o (KX b o e)
      obtain ⟨as, hrd⟩ := Dw.reads (R := R) (cl := cl) hok' KX' d0 v u q r'
      exact ⟨u, as, rfl, hrd, OldK.of_keep kept, os, bare⟩
theorem layable_weight {ds : List WData} (h : WData.layableAll ds = true) : ∀ d ∈ ds, d.weight ≤ 1048576 := fun d hd =>
  (PySem.W.layableW_iff.mp (List.all_eq_true.mp h d hd)).2.2
theorem encAll_len : ∀ (cs : List Codec) (a : Codec.denoteAll cs), (Codec.encAll cs a).length = cs.length
  | [], _ => rfl
  | c :: cs, a => by
    show (Codec.encAll cs a.2).length + 1 = cs.length + 1
    rw [encAll_len cs a.2]
theorem walk_spec {r : OpenSpec} {k : Nat} {q : Program} {loose : List Str} {XP : (Str → Option Value) → Heap → Prop} {YP : World → Heap → Prop} {d : DefRec} {K : Params → PySem.W.Frag} {CX : World → CXT} {ps : List Str} {sp : World → Sp}
    (hwell : r.wellSaid = true) (hdf : d.params.defaults = []) (hlen : r.args.length = ps.length) (hr : Room k callerA)
    (hY : ∀ (w : World) (h : Heap), YP w h → (K w.params).In h)
    (F : ∀ (w : World) (mg : Str → Option Value) (fa : Addr) (h : Heap), YP w h → (K w.params).In h → h.Ns mainGlobals mg → mg d.name = some (.ref fa) →
      ∃ fd : FuncData, (∀ (s : Shared) (us : List Value), us.length = ps.length → BindsTo s fd ⟨us, []⟩ (ps.zip us)) ∧
        ∀ base : Heap, (K w.params).In base → base.Ns mainGlobals mg → FnOk r.prog w (K w.params) mg base (CX w) k fa fd ps (sp w))
    (hsp : ∀ (w : World) (H : Hp) (xs : List V) (a : Codec.denoteAll r.args), OnlyF H → Codec.withinAll r.args a = true → Codec.app r.args r.asked a = true → DwAll (K w.params) H xs (Codec.encAll r.args a) →
      sp w xs H (fun v H' => Dw (K w.params) H' v (r.ret.enc (Codec.app r.args r.f a))) fun _ _ _ => False)
    (hCX : ∀ (w : World) (H : Hp) (s : Shared) (e : Value) (s' : Shared), CX w [] H s (fun _ _ _ => False) e s' → False) :
    PySem.W.WalkOS q loose XP YP r d [] (fun f vs => PySem.call f vs) := by
  intro w s_0 s₁ mg mb G Y fa o pm cd doc dV kV ho hd hcd hD hmg hg args vals as hpre hlay hrd hwl hlo
  obtain ⟨a, e1, e2⟩ := PySem.W.os_pre_some hpre
  obtain ⟨e3, hwi⟩ := Codec.encAll_of_decAll r.args args a e1
  subst e3
  have KX := hY w _ Y
  obtain ⟨fd, hb, hF⟩ := F w mg fa _ Y KX G.T.g hmg
  refine PySem.W.enter_call (codeAny_mono (spec_call (R := []) (cl := classAt s_0.heap) (d0 := r.ret.enc (Codec.app r.args r.f a)) KX G.T.g G.T.b G.T.builtins G.T.nolimit hg hwl (pl_encAll _ _) (layable_weight hlay) hr hF hb (by rw [encAll_len]; exact hlen)
    (fun H xs hO hS => hsp w H xs a hO hwi e2 hS) fun H e s' => hCX w H s₁ e s') fun r' s' hq => ?_)
  obtain ⟨u, as', rfl, h1, h2, h3, h4⟩ := hq
  exact ⟨.inl ⟨u, _, as', rfl, fun _ => rfl, h1, (OpenSpec.post_iff hwell hwi _ _).mpr rfl, fun z => Bool.noConfusion (show false = true from z)⟩, h2, h3, h4⟩
theorem walk_specK {r : OpenSpec} {k : Nat} {q : Program} {loose : List Str} {XP : (Str → Option Value) → Heap → Prop} {YP : World → Heap → Prop} {d : DefRec} {K : Params → PySem.W.Frag} {CX : CXT} {ps : List Str} {sp : PySem.W.Frag → Sp}
    (hwell : r.wellSaid = true) (hdf : d.params.defaults = []) (hlen : r.args.length = ps.length) (hr : Room k callerA)
    (hY : ∀ (w : World) (h : Heap), YP w h → (K w.params).In h)
    (F : ∀ (w : World) (mg : Str → Option Value) (fa : Addr) (h : Heap), YP w h → (K w.params).In h → h.Ns mainGlobals mg → mg d.name = some (.ref fa) →
      ∃ fd : FuncData, (∀ (s : Shared) (us : List Value), us.length = ps.length → BindsTo s fd ⟨us, []⟩ (ps.zip us)) ∧
        ∀ base : Heap, (K w.params).In base → base.Ns mainGlobals mg → FnOk r.prog w (K w.params) mg base CX k fa fd ps (sp (K w.params)))
    (hsp : ∀ (K : PySem.W.Frag) (H : Hp) (xs : List V) (a : Codec.denoteAll r.args), OnlyF H → Codec.withinAll r.args a = true → Codec.app r.args r.asked a = true → DwAll K H xs (Codec.encAll r.args a) →
      sp K xs H (fun v H' => Dw K H' v (r.ret.enc (Codec.app r.args r.f a))) fun _ _ _ => False)
    (hCX : ∀ (H : Hp) (s : Shared) (e : Value) (s' : Shared), CX [] H s (fun _ _ _ => False) e s' → False) :
    PySem.W.WalkOS q loose XP YP r d [] (fun f vs => PySem.call f vs) :=
  walk_spec (K := K) (CX := fun _ => CX) (sp := fun w => sp (K w.params)) hwell hdf hlen hr hY F (fun w H xs a h1 h2 h3 h4 => hsp (K w.params) H xs a h1 h2 h3 h4) fun _ H s e s' => hCX H s e s'
end L2
-- rests on (row put in by the clerk, for the bench that shows a file only what it spells): KE.SpHead KE.OsShapes
end
end
section
/-! More words over the layer: comprehensions by an invariant. -/
namespace Rs
open PySem PySem.Spec PyProof.Rows L2

/-! ### comprehensions -/
def LcOk (J : It) (g : TG) (tt : TT) (te : TE) (vs : List Nat) (σ : L2.St) (D : Addr) (Q : VK) (H0 : Hp) : Prop :=
  ∃ W : Nat → Nat → Hp → Prop, (∃ m, W 0 m H0) ∧ ∀ i m H, W i m H →
    (J.stop i H ∧ Q (.ref D) H) ∨ (J.go i H ∧ ∃ Nx : Hp → Prop, (∀ H', Nx H' → ∃ m', m' < m ∧ W (i + 1) m' H') ∧ ∀ x H', J.yld i H x H' → g x (wipe σ vs) H' fun σ2 H2 => wipe σ2 vs = wipe σ vs ∧ tt σ2 H2 fun b H3 =>
      if b = true then te σ2 H3 fun y H4 => ∃ acc, H4 D = some (.lst acc) ∧ acc.length < sizeLine ∧ Nx (upd H4 D (.lst (acc ++ [y]))) else Nx H3)
/-- a walk of n items, item i told by it, while Pv holds -/
theorem lc_by {J : It} {g : TG} {tt : TT} {te : TE} {vs : List Nat} {σ : L2.St} {D : Addr} {Q : VK} {H0 : Hp} (n : Nat) (it : Nat → V) (Pv : Nat → Hp → Prop)
    (hgo : ∀ i H, i < n → Pv i H → J.go i H) (hstop : ∀ H, Pv n H → J.stop n H) (hy : ∀ i H x H', i < n → Pv i H → J.yld i H x H' → H' = H ∧ x = it i)
    (h0 : Pv 0 H0)
    (hs : ∀ i H, i < n → Pv i H → g (it i) (wipe σ vs) H fun σ2 H2 => wipe σ2 vs = wipe σ vs ∧ tt σ2 H2 fun b H3 =>
      if b = true then te σ2 H3 fun y H4 => ∃ acc, H4 D = some (.lst acc) ∧ acc.length < sizeLine ∧ Pv (i + 1) (upd H4 D (.lst (acc ++ [y]))) else Pv (i + 1) H3)
    (hd : ∀ H, Pv n H → Q (.ref D) H) : LcOk J g tt te vs σ D Q H0 := by
  refine ⟨fun i m H => m = n - i ∧ i ≤ n ∧ Pv i H, ⟨n, by simp, Nat.zero_le _, h0⟩, ?_⟩
  rintro i m H ⟨rfl, hi, p⟩
  by_cases hlt : i < n
  · refine .inr ⟨hgo i H hlt p, Pv (i + 1), fun H' p' => ⟨n - (i + 1), by omega, rfl, hlt, p'⟩, fun x H' y => ?_⟩
    obtain ⟨e1, e2⟩ := hy i H x H' hlt p y
    rw [e1, e2]
    exact hs i H hlt p
  · have e : i = n := by omega
    subst e
    exact .inl ⟨hstop H p, hd H p⟩
theorem take_fm {α β : Type} (f : α → Option β) {xs : List α} {i : Nat} {x : α} (h : xs[i]? = some x) : (xs.take (i + 1)).filterMap f = (xs.take i).filterMap f ++ (f x).toList := by
  rw [List.take_add_one, h, List.filterMap_append]
  cases e : f x <;> simp [e]
/-- what a turn of the usual comprehension is to show: z is walked; f z = some y: y is put; none: it is passed over -/
def Turns {α : Type} (zs : List α) (v : α → V) (f : α → Option V) (g : TG) (tt : TT) (te : TE) (vs : List Nat) (σ : L2.St) (D : Addr) (H : Hp) : Prop :=
  ∀ (z : α) (H' : Hp) (Nx : Hp → Prop), z ∈ zs → Same H H' → (∀ H2 y, Same H' H2 → f z = some y → ∃ acc, H2 D = some (.lst acc) ∧ acc.length < sizeLine ∧ Nx (upd H2 D (.lst (acc ++ [y])))) → (∀ H2, Same H' H2 → f z = none → Nx H2) →
    g (v z) (wipe σ vs) H' fun σ2 H2 => wipe σ2 vs = wipe σ vs ∧ tt σ2 H2 fun b H3 =>
      if b = true then te σ2 H3 fun y H4 => ∃ acc, H4 D = some (.lst acc) ∧ acc.length < sizeLine ∧ Nx (upd H4 D (.lst (acc ++ [y]))) else Nx H3
/-- nothing tracked changes; the new list holds what f gives -/
theorem lc_core' {α : Type} {J : It} {g : TG} {tt : TT} {te : TE} {vs : List Nat} {σ : L2.St} {D : Addr} {Q : VK} {H : Hp} (zs : List α) (v : α → V) (f : α → Option V) (hD : H D = none) (hz : zs.length < sizeLine)
    (hgo : ∀ i H', i < zs.length → Same H H' → J.go i H') (hstop : ∀ H', Same H H' → J.stop zs.length H') (hy : ∀ i H' x H'' z, zs[i]? = some z → Same H H' → J.yld i H' x H'' → H'' = H' ∧ x = v z)
    (hs : Turns zs v f g tt te vs σ D H)
    (hd : ∀ H', Same H H' → H' D = some (.lst (zs.filterMap f)) → Q (.ref D) H') : LcOk J g tt te vs σ D Q (upd H D (.lst [])) := by
  by_cases hne : zs = []
  · subst hne
    refine lc_by 0 (fun _ => .non) (fun i H' => Same H H' ∧ H' D = some (.lst [])) (fun i H' hi _ => by omega) (fun H' p => hstop H' p.1) (fun i H' x H'' hi _ _ => by omega) ⟨fun b o e => by rw [upd_ne (ne_of_none e hD)]; exact e, by rw [upd_same]⟩ (fun i H' hi _ => by omega) (fun H' p => hd H' p.1 p.2)
  · have z0 : α := zs.head hne
    have hget : ∀ i, i < zs.length → zs[i]? = some (zs.getD i z0) := fun i hi => by simp [List.getD_eq_getElem?_getD, hi]
    refine lc_by zs.length (fun i => v (zs.getD i z0)) (fun i H' => Same H H' ∧ H' D = some (.lst ((zs.take i).filterMap f))) (fun i H' hi p => hgo i H' hi p.1) (fun H' p => hstop H' p.1) (fun i H' x H'' hi p y => hy i H' x H'' _ (hget i hi) p.1 y)
      ⟨fun b o e => by rw [upd_ne (ne_of_none e hD)]; exact e, by rw [upd_same]; rfl⟩ (fun i H' hi p => ?_) (fun H' p => hd H' p.1 (by have := p.2; rwa [List.take_length] at this))
    refine hs (zs.getD i z0) H' _ (List.mem_of_getElem? (hget i hi)) p.1 (fun H2 y s2 ey => ⟨_, s2 _ _ p.2, ?_, ?_, ?_⟩) (fun H2 s2 en => ⟨p.1.trans s2, ?_⟩)
    · refine Nat.lt_of_le_of_lt (List.length_filterMap_le _ _) ?_
      rw [List.length_take]; omega
    · exact fun b o e => by rw [upd_ne (ne_of_none e hD)]; exact s2 _ _ (p.1 _ _ e)
    · rw [upd_same, take_fm f (hget i hi), ey]; rfl
    · rw [s2 _ _ p.2, take_fm f (hget i hi), en]; simp
theorem lc_l {α : Type} {K : PySem.W.Frag} {a : Addr} {g : TG} {tt : TT} {te : TE} {vs : List Nat} {σ : L2.St} {D : Addr} {Q : VK} {H : Hp} (zs : List α) (v : α → V) (f : α → Option V) (hD : H D = none) (hx : SqL K H a (zs.map v)) (hz : zs.length < sizeLine)
    (hs : Turns zs v f g tt te vs σ D H) (hd : ∀ H', Same H H' → H' D = some (.lst (zs.filterMap f)) → Q (.ref D) H') : LcOk (Itl K a) g tt te vs σ D Q (upd H D (.lst [])) := by
  refine lc_core' zs v f hD hz (fun i H' hi s1 => ⟨zs.map v, v zs[i], s1.seq hx, by simp [hi]⟩) (fun H' s1 => ⟨zs.map v, s1.seq hx, by simp⟩) (fun i H' x H'' z hz' s1 y => ?_) hs hd
  obtain ⟨e, y⟩ := y
  have := y (zs.map v) (s1.seq hx)
  rw [List.getElem?_map, hz'] at this
  exact ⟨e, (Option.some.inj this).symm⟩
theorem lc_k {d : Addr} {o : Obj} {kvs : List (Key × V)} {g : TG} {tt : TT} {te : TE} {vs : List Nat} {σ : L2.St} {D : Addr} {Q : VK} {H : Hp} (f : Key × V → Option V) (hD : H D = none) (hx : H d = some (.frz o (.dK kvs))) (hz : kvs.length < sizeLine)
    (hs : Turns kvs (fun kv => kV kv.1) f g tt te vs σ D H) (hd : ∀ H', Same H H' → H' D = some (.lst (kvs.filterMap f)) → Q (.ref D) H') : LcOk (Itk d o kvs) g tt te vs σ D Q (upd H D (.lst [])) := by
  refine lc_core' kvs (fun kv => kV kv.1) f hD hz (fun i H' hi s1 => ⟨s1 _ _ hx, hi⟩) (fun H' s1 => ⟨s1 _ _ hx, Nat.le_refl _⟩) (fun i H' x H'' z hz' s1 y => ?_) hs hd
  obtain ⟨e, k, w, y, ex⟩ := y
  rw [hz'] at y
  cases y
  exact ⟨e, ex⟩
/-- the reading of a comprehension, by LcOk -/
def tLc' (wi : TI) (g : TG) (tt : TT) (te : TE) (vs : List Nat) : TE := fun σ H Q => wi σ H fun J H1 => ∀ D, H1 D = none → LcOk J g tt te vs σ D Q (upd H1 D (.lst []))
theorem pe_lc' {X : Cx} {elt tg iter : Expr} {ifs : List Expr} {scope : Scope} (own : List (Str × Nat)) {pos : Pos} {wi : TI} {tt : TT} {te : TE} (g : TG) (hc : X.calm = true) (hN : X.N.Nodup) (hi : PI X tg iter wi) (ok : blkC X.N X.env.scope scope own = true)
    (hg : ∀ (s : Shared) (H : Hp) (C : Addr) (cl : List (Str × Addr)) (fp : List Addr), PG (X.blk s H scope (compEnvC scope cl C X.env) fp) tg g) (ht : ∀ (s : Shared) (H : Hp) (C : Addr) (cl : List (Str × Addr)) (fp : List Addr), PTs (X.blk s H scope (compEnvC scope cl C X.env) fp) ifs tt)
    (he : ∀ (s : Shared) (H : Hp) (C : Addr) (cl : List (Str × Addr)) (fp : List Addr), PE (X.blk s H scope (compEnvC scope cl C X.env) fp) elt te) (hs : ∀ x, foldedSetIterable iter X.env x = pure x := by intro _; rfl) :
    PE X (.ListComp elt [⟨tg, iter, ifs, 0⟩] scope pos) (tLc' wi g tt te (own.map (·.2))) := pe_lc hc hN hi (blkOk_by ok) hg ht he hs
end Rs
end
section
set_option maxHeartbeats 1000000
/-! sorted(xs, key = f): f a def of the text that gives a pair of ints -/
namespace Rs
open PySem PySem.Spec PyProof.Rows L2

abbrev K2 := Int × Int
def k2lt (p q : K2) : Prop := p.1 < q.1 ∨ (p.1 = q.1 ∧ p.2 < q.2)
def SortOut (ks : List K2) (ps out : List Addr) : Prop := ∃ zs : List (K2 × Addr), zs.Perm (ks.zip ps) ∧ out = zs.map Prod.snd ∧ zs.Pairwise (fun p q => ¬ k2lt q.1 p.1)

abbrev sh0 : Nat → Bool := fun _ => false
def dk (h : Heap) (v : Value) : K2 := match G.tupKeyC h sh0 v with
  | some [.inl a, .inl b] => (a, b)
  | _ => (0, 0)
def da : Value → Addr
  | .ref a => a
  | _ => 0
theorem lex2 (a b c d : Int) : PyProof.Rows.lexLt itemOrd [.inl a, .inl b] [.inl c, .inl d] = false ↔ ¬ k2lt (a, b) (c, d) := by
  unfold k2lt
  simp only [PyProof.Rows.lexLt, itemLt]
  by_cases h1 : a < c
  · simp [h1]
  · by_cases h2 : c < a
    · simp [h1, h2]; omega
    · have e : a = c := by omega
      subst e
      by_cases h3 : b < d
      · simp [h3]
      · by_cases h4 : d < b <;> simp [h3, h4]

/-- a value is a pair of ints, k -/
def IsK (h : Heap) (v : Value) (k : K2) : Prop := ∃ (t : Addr) (o : Obj) (t1 t2 : Tok) (n : Nat), v = .ref t ∧ h.get? t = some o ∧ o.cls = .type "tuple" ∧ o.data = .seq #[.int k.1 t1, .int k.2 t2] n
theorem IsK.key {h : Heap} {v : Value} {k : K2} (x : IsK h v k) : G.tupKeyC h sh0 v = some [.inl k.1, .inl k.2] := by
  obtain ⟨t, o, t1, t2, n, rfl, ho, hc, hd⟩ := x
  unfold G.tupKeyC
  have e : G.isTupObj h (.ref t) = true := by simp [G.isTupObj, ho, hc]
  rw [if_pos e]
  simp [tupKey, ho, hd, tupItems]
theorem IsK.dk {h : Heap} {v : Value} {k : K2} (x : IsK h v k) : Rs.dk h v = k := by
  unfold Rs.dk
  rw [x.key]
theorem IsK.tup {h : Heap} {v : Value} {k : K2} (x : IsK h v k) : ∃ t1, TupOf h sh0 v (.int k.1 t1) := by
  obtain ⟨t, o, t1, t2, n, rfl, ho, hc, hd⟩ := x
  exact ⟨t1, t, o, _, n, rfl, ho, hc, hd, rfl, fun _ => ⟨_, _, rfl⟩, fun z => by cases z⟩
theorem tups_of {h : Heap} : ∀ {vs : List Value} {ks : List K2}, Paired (IsK h) vs ks → ∃ fs, TupsOf h sh0 vs fs
  | _, _, .nil => ⟨[], .nil⟩
  | _, _, .cons x r => by
    obtain ⟨t1, q⟩ := x.tup
    obtain ⟨fs, r⟩ := tups_of r
    exact ⟨_, .cons q r⟩
theorem paired_mem {α β : Type} {G : α → β → Prop} : ∀ {l₁ : List α} {l₂ : List β}, Paired G l₁ l₂ → ∀ a ∈ l₁, ∃ b ∈ l₂, G a b
  | _, _, .nil, a, h => by simp at h
  | _, _, .cons r t, a, h => by
    rcases List.mem_cons.mp h with e | h
    · subst e; exact ⟨_, by simp, r⟩
    · obtain ⟨b, hb, g⟩ := paired_mem t a h
      exact ⟨b, .tail _ hb, g⟩
theorem paired_map_eq {h : Heap} : ∀ {vs : List Value} {ks : List K2}, Paired (IsK h) vs ks → vs.map (dk h) = ks
  | _, _, .nil => rfl
  | _, _, .cons x r => by rw [List.map_cons, x.dk, paired_map_eq r]
theorem paired_snoc {α β : Type} {G : α → β → Prop} : ∀ {l₁ : List α} {l₂ : List β} {a : α} {b : β}, Paired G l₁ l₂ → G a b → Paired G (l₁ ++ [a]) (l₂ ++ [b])
  | _, _, _, _, .nil, g => .cons g .nil
  | _, _, _, _, .cons r t, g => .cons r (paired_snoc t g)

/-- what the sort leaves, read -/
theorem sort_read {h : Heap} {keys : List Value} {ks : List K2} {ps : List Addr} (hk : Paired (IsK h) keys ks) (hl : ks.length = ps.length) {xs : Array Keyed}
    (hp : xs.Perm (keys.toArray.zip (ps.map Value.ref).toArray)) (hs : SortedToK (G.tupKindC h sh0) xs xs.size) :
    ∃ out, SortOut ks ps out ∧ (xs.map (·.2)).toList = out.map Value.ref := by
  have hl' : xs.toList.Perm (keys.zip (ps.map Value.ref)) := by
    have := Array.perm_iff_toList_perm.mp hp
    rwa [ksk_zip, List.toList_toArray] at this
  have hkl : keys.length = ks.length := Paired.length hk
  have hmem : ∀ p ∈ xs.toList, (∃ k, IsK h p.1 k) ∧ ∃ a, p.2 = Value.ref a := fun p hpm => by
    have hm := hl'.mem_iff.mp hpm
    obtain ⟨q1, q2⟩ := List.of_mem_zip (show (p.1, p.2) ∈ _ from hm)
    obtain ⟨k, _, g⟩ := paired_mem hk p.1 q1
    obtain ⟨a, _, e⟩ := List.mem_map.mp q2
    exact ⟨⟨k, g⟩, a, e.symm⟩
  refine ⟨(xs.toList.map fun p => (dk h p.1, da p.2)).map Prod.snd, ⟨xs.toList.map fun p => (dk h p.1, da p.2), ?_, rfl, ?_⟩, ?_⟩
  · have e : (keys.zip (ps.map Value.ref)).map (fun p => (dk h p.1, da p.2)) = ks.zip ps := by
      have e1 := paired_map_eq hk
      have e2 : (ps.map Value.ref).map da = ps := by rw [List.map_map]; exact (List.map_congr_left fun a _ => rfl).trans (List.map_id _)
      conv => rhs; rw [← e1, ← e2]
      rw [List.zip_map]
      exact List.map_congr_left fun ⟨u, v⟩ _ => rfl
    rw [← e]
    exact hl'.map _
  · rw [List.pairwise_map, List.pairwise_iff_getElem]
    intro i j hi hj hij
    have hi2 : i < xs.size := by simpa using hi
    have hj3 : j < xs.size := by simpa using hj
    have q := hs i j (Nat.le_of_lt hij) hj3
    obtain ⟨⟨ki, gi⟩, _⟩ := hmem xs.toList[i] (List.getElem_mem _)
    obtain ⟨⟨kj, gj⟩, _⟩ := hmem xs.toList[j] (List.getElem_mem _)
    have ei : KK (G.tupKindC h sh0) xs i = [.inl ki.1, .inl ki.2] := by
      unfold KK
      have : xs[i]? = some xs.toList[i] := by simp [hi2]
      rw [this]
      show (G.tupKeyC h sh0 xs.toList[i].1).getD [] = _
      rw [gi.key]; rfl
    have ej : KK (G.tupKindC h sh0) xs j = [.inl kj.1, .inl kj.2] := by
      unfold KK
      have : xs[j]? = some xs.toList[j] := by simp [hj3]
      rw [this]
      show (G.tupKeyC h sh0 xs.toList[j].1).getD [] = _
      rw [gj.key]; rfl
    rw [ei, ej] at q
    have q' : PyProof.Rows.lexLt itemOrd [.inl kj.1, .inl kj.2] [.inl ki.1, .inl ki.2] = false := q
    rw [gi.dk, gj.dk]
    exact (lex2 _ _ _ _).mp q'
  · rw [Array.toList_map, List.map_map, List.map_map]
    refine List.map_congr_left fun p hpm => ?_
    obtain ⟨_, a, e⟩ := hmem p hpm
    show p.2 = Value.ref (da p.2)
    rw [e]
    rfl

section
variable {X : Cx} {pins : List (Addr × Obj)} {σ : L2.St} {H : Hp} {s : Shared}
/-- an object of ours that stands there comes to be tracked -/
theorem adopt {a : Addr} {o : HO} {h' : Heap} (I : Inv X pins σ H s) (f : FpOk X pins H a) (k : ∀ b u, b ≠ a → s.heap.get? b = some u → h'.get? b = some u) (new : ObjOk X.prog X.w (upd H a o) h' a o) :
    Inv X pins σ (upd H a o) { s with heap := h' } := by
  obtain ⟨f0, f1, f2, f3, f4, f5⟩ := f
  refine I.step (g' := s.gens) (t' := s.toks) (d' := s.drawn) (ch := [a]) (fun b hb => ?_) (fun b u _ _ hc e _ => k b u (fun z => hc (by simp [z])) e) (fun b u _ _ hc e _ => ⟨u.slots, k b u (fun z => hc (by simp [z])) e⟩)
    (fun b u hc _ n => by rw [upd_ne (fun z => hc (by simp [z]))]; exact n) (fun b u hc e => ⟨u, k b u (fun z => hc (by simp [z])) e⟩) (fun b xs e => by rw [upd_ne (ne_of_none e f0)]; exact e) (fun b u v e => by rw [upd_ne (ne_of_none e f0)]; exact e)
    (fun b ps e => ⟨#[], by rw [upd_ne (ne_of_none e f0), e]; simp⟩) (fun m hm => ?_) (fun b u e => ?_) I.bare
  · have e : b = a := by simpa using hb
    subst e
    exact ⟨f3, f1, f4, f5⟩
  · obtain ⟨ob, es, ep, ho, r⟩ := hm
    exact ⟨ob, es, ep, k _ ob (Ne.symm f1) ho, r⟩
  · by_cases hb : b = a
    · subst hb
      rw [upd_same] at e
      cases e
      exact new
    · rw [upd_ne hb] at e
      refine (I.hok b u e).stay (fun c v hc q => k c v ?_ q) (fun c q => by rw [upd_ne (ne_of_none q f0)]; exact q) fun c xs q => by rw [upd_ne (ne_of_none q f0)]; exact q
      rcases hc with z | z
      · rw [z]; exact hb
      · exact ne_of_none z f0
theorem fp_at {H' : Hp} {b : Addr} (f : FpOk X pins H b) (h : H' b = none) : FpOk X pins H' b := ⟨h, f.2⟩

variable {kk : Nat} {f : Addr} {fd : FuncData} {nm : Str} {sp : Sp}
/-- the key of one item -/
theorem key_call {A : Around} {E : Value → Shared → Prop} {Q : VK} {p : Addr} (F : FnOk X.prog X.w X.K X.mg X.base CX0 kk f fd [nm] sp) (hb : Binds X.K fd [nm] []) (hr : Room kk A) (I : Inv X pins σ H s) (e0 : Env0 X.prog X.w X.K X.mg X.base A X.stack s H) (h : sp [.ref p] H Q E0) :
    wpAny (model X.prog X.w) A (call (.ref f) [.ref p]) (EP X pins σ Q) E s := by
  have r : Vals [V.ref p] [Value.ref p] := .cons rfl .nil
  refine wpAny_call (codeAny_mono (F.run A X.stack s H ⟨[.ref p], []⟩ [.ref p] [.ref p] Q E0 hr e0 (hb s [.ref p] I.kIn rfl) r h) fun r s' hq => ?_)
  cases r with
  | error e => exact False.elim hq
  | ok fl =>
    cases fl with
    | ret u => exact I.after hq
    | next => exact False.elim hq
    | brk => exact False.elim hq
    | cont => exact False.elim hq

/-- the end of the sort: the keys are there -/
theorem sk_end {A : Around} {E : Value → Shared → Prop} {P : PySem.Fin → Shared → Prop} {a kS : Addr} {e1 n : Nat} {keys : List Value} {ks : List K2} {ps : List Addr} (I : Inv X pins σ H s) (fa : FpOk X pins H a) (fk : FpOk X pins H kS) (hka : kS ≠ a)
    (ha : s.heap.get? a = some (seqObj "list" #[] e1)) (hks : s.heap.get? kS = some (seqObj "list" keys.toArray n)) (hk : Paired (IsK s.heap) keys ks) (hl : ks.length = ps.length) (hz : ps.length ≤ 1000)
    (fin : ∀ out s2, SortOut ks ps out → Inv X pins σ (upd H a (.lst (out.map V.ref))) s2 → P (.done (.ret .none)) s2) :
    wpAny (model X.prog X.w) A (ksk_end a false (ps.map Value.ref).toArray e1 (.ref kS) keys.toArray) P E s := by
  have hkl : keys.length = ks.length := Paired.length hk
  have tail : ∀ st : SortSt, (arrOf st).Perm (keys.toArray.zip (ps.map Value.ref).toArray) → SortedToK (G.tupKindC s.heap sh0) (arrOf st) (arrOf st).size → failedOf st = none → wpAny (model X.prog X.w) A (ksk_tail a false e1 (.ref kS) st) P E s := by
    intro st hp hs hf
    obtain ⟨out, so, eo⟩ := sort_read hk hl hp hs
    have zSz : (arrOf st).size = ps.length := by rw [hp.size_eq, Array.size_zip]; simp; omega
    have hol : out.length = ps.length := by
      have := congrArg List.length eo
      simp at this
      omega
    have sb1 := Heap.SameBut.update s.heap kS (Obj.mapSeq fun _ => (#[] : Array Value))
    have ha1 : (s.heap.update kS (Obj.mapSeq fun _ => (#[] : Array Value))).get? a = some (seqObj "list" #[] e1) := (sb1.2 a hka.symm).trans ha
    unfold ksk_tail
    try dsimp only
    refine wpAny_bind (listUpdate_at hks rfl ?_ (by rw [List.size_toArray, sizeLine_eq]; omega) (Nat.zero_le _))
    refine wpAny_bind (wpAny_letGo ?_)
    refine wpAny_bind (seqEpoch_at ha1 rfl ?_)
    refine wpAny_bind (listUpdate_at ha1 rfl ?_ (Nat.zero_le _) ?_)
    · rw [hf]
      simp only [bne_self_eq_false, Bool.false_eq_true, if_false]
      refine wpAny_pure (fin out _ so ?_)
      have s2 := Heap.SameBut.update (s.heap.update kS (Obj.mapSeq fun _ => (#[] : Array Value))) a (Obj.mapSeq fun _ => (arrOf st).map (·.2))
      obtain ⟨c2, hc2⟩ : ∃ c2, ((s.heap.update kS (Obj.mapSeq fun _ => (#[] : Array Value))).update a (Obj.mapSeq fun _ => (arrOf st).map (·.2))).get? a = some (seqObj "list" ((arrOf st).map (·.2)) c2) := ⟨_, get?_update_seq ha1 _⟩
      have I1 : Inv X pins σ H { s with heap := s.heap.update kS (Obj.mapSeq fun _ => (#[] : Array Value)) } := I.turned (t' := s.toks) (fun b o hb e => (sb1.2 b hb).trans e) fk.1 fk.2.1 fk.2.2.2.1 fk.2.2.2.2.1 fk.2.2.2.2.2
      have hv : ∀ l : List Addr, Vals (l.map V.ref) (l.map Value.ref) := fun l => by
        induction l with
        | nil => exact .nil
        | cons x r ih => exact .cons rfl ih
      refine adopt (s := { s with heap := s.heap.update kS (Obj.mapSeq fun _ => (#[] : Array Value)) }) I1 fa (fun b u hb e => (s2.2 b hb).trans e) ⟨by rw [List.length_map, hol, sizeLine_eq]; omega, out.map Value.ref, c2, hv out, ?_⟩
      refine hc2.trans ?_
      rw [← eo]
    · refine Nat.le_trans (Nat.le_of_eq (Array.size_map ..)) ?_
      rw [zSz, sizeLine_eq]; omega
  unfold ksk_end
  try dsimp only
  simp only [Bool.false_eq_true, if_false]
  by_cases h2 : (ps.map Value.ref).toArray.size < 2
  · rw [if_pos h2, if_pos h2]
    refine wpAny_bind (wpAny_pure ?_)
    rw [StateT.run_pure]
    refine wpAny_bind (wpAny_pure ?_)
    try dsimp only
    refine tail (SortSt.mk' general' (keys.toArray.zip (ps.map Value.ref).toArray) #[] 7 none) (Array.Perm.refl _) ?_ rfl
    intro i j hij hj
    have hj2 : j < (keys.toArray.zip (ps.map Value.ref).toArray).size := hj
    rw [Array.size_zip] at hj2
    have : i = j := by omega
    subst this
    exact KeyOrd.kle_refl _
  · rw [if_neg h2, if_neg h2]
    have h2' : 2 ≤ ps.length := by simp at h2; omega
    obtain ⟨fs, tf⟩ := tups_of hk
    refine wpAny_bind (tup_kind (by rw [G.TupsOf.length tf]; omega) tf ?_)
    try dsimp only
    have hzs : (keys.toArray.zip (ps.map Value.ref).toArray).size = ps.length := by rw [Array.size_zip]; simp; omega
    refine wpAny_bind (wpAny_mono (G.wpS_sortRunsSt (κ := G.tupKindC s.heap sh0) (kd := tuples' true) (a₀ := keys.toArray.zip (ps.map Value.ref).toArray) (st := SortSt.mk' (tuples' true) (keys.toArray.zip (ps.map Value.ref).toArray) #[] 7 none)
      (Q := fun _ st' => (arrOf st').Perm (keys.toArray.zip (ps.map Value.ref).toArray) ∧ failedOf st' = none ∧ SortedToK (G.tupKindC s.heap sh0) (arrOf st') (keys.toArray.zip (ps.map Value.ref).toArray).size)
      (G.tupC_ltAt true (G.KeepsTups.refl _)) ?k0 ⟨Array.Perm.refl _, rfl, rfl⟩ rfl (Stable.refl _) (by rw [hzs]; omega) fun st' a1 a2 a3 _ => ⟨a1, a2, a3⟩) ?_ fun _ _ e => e)
    case k0 =>
      intro p hp
      rw [ksk_zip, List.toList_toArray] at hp
      obtain ⟨q1, _⟩ := List.of_mem_zip (show (p.1, p.2) ∈ _ from hp)
      obtain ⟨k, _, g⟩ := paired_mem hk p.1 q1
      exact ⟨_, g.key⟩
    rintro ⟨⟨⟩, st'⟩ s' ⟨rfl, pm, hf, hs⟩
    try dsimp only
    exact tail st' pm (by rw [pm.size_eq]; exact hs) hf

/-- the keys one after another, then the end -/
theorem sk_rest {A : Around} {E : Value → Shared → Prop} {P : PySem.Fin → Shared → Prop} {a kS : Addr} {e1 : Nat} {ks : List K2} {ps : List Addr} (F : FnOk X.prog X.w X.K X.mg X.base CX0 kk f fd [nm] sp) (hb : Binds X.K fd [nm] []) (hr : Room kk A)
    (hA : ∀ {pins : List (Addr × Obj)} {s : Shared} {H : Hp}, Inv X pins σ H s → Env0 X.prog X.w X.K X.mg X.base A X.stack s H)
    (I : Inv X pins σ H s) (fa : FpOk X pins H a) (fk : FpOk X pins H kS) (hka : kS ≠ a)
    (ha : s.heap.get? a = some (seqObj "list" #[] e1)) (hks : s.heap.get? kS = some (seqObj "list" #[] 0)) (hl : ks.length = ps.length) (hz : ps.length ≤ 1000)
    (turn : ∀ (i : Nat) (p : Addr) (k : K2) (H' : Hp) (Q' : VK), ps[i]? = some p → ks[i]? = some k → Same H H' → (∀ t H2, Same H' H2 → H2 t = some (.tup [.int k.1, .int k.2]) → Q' (.ref t) H2) → sp [.ref p] H' Q' E0)
    (fin : ∀ out H2 s2, SortOut ks ps out → Same H H2 → Inv X pins σ (upd H2 a (.lst (out.map V.ref))) s2 → P (.done (.ret .none)) s2) :
    wpAny (model X.prog X.w) A (ksk_rest a (.ref f) false (ps.map Value.ref).toArray e1 (.ref kS)) P E s := by
  unfold ksk_rest
  refine wpAny_bind (wpAny_rule ?_)
  first
    | rw [List.forIn_toArray]
    | (rw [← Array.forIn_toList]; simp only [List.toList_toArray]; done)
    | rw [← Array.forIn_toList]
  refine wpAny_bind (ksk_fold (fun i s' => ∃ H' ts n, Inv X pins σ H' s' ∧ Same H H' ∧ H' a = none ∧ H' kS = none ∧ s'.heap.get? a = some (seqObj "list" #[] e1) ∧ s'.heap.get? kS = some (seqObj "list" (ts.map Value.ref).toArray n) ∧
      Paired (fun (t : Addr) (k : K2) => H' t = some (.tup [.int k.1, .int k.2])) ts (ks.take i)) (ps.map Value.ref) 0 s ⟨H, [], 0, I, Same.refl _, fa.1, fk.1, ha, hks, by simpa using Paired.nil⟩ ?step ?done)
  case step =>
    rintro j x s' hx ⟨H', ts, n, I', s1, na, nk, ha', hk', pr⟩
    rw [Nat.zero_add] at pr ⊢
    rw [List.getElem?_map] at hx
    obtain ⟨p, hp, rfl⟩ : ∃ p, ps[j]? = some p ∧ x = Value.ref p := by
      cases e : ps[j]? with
      | none => rw [e] at hx; cases hx
      | some p => rw [e] at hx; exact ⟨p, rfl, (Option.some.inj hx).symm⟩
    have hj : j < ps.length := (List.getElem?_eq_some_iff.mp hp).1
    obtain ⟨k, hkj⟩ : ∃ k, ks[j]? = some k := ⟨_, List.getElem?_eq_getElem (by omega)⟩
    have I2 := I'.pinned (fp := [a, kS]) (fun b hb => by
      rcases List.mem_cons.mp hb with e | hb
      · rw [e]; exact fp_at fa na
      · rw [List.mem_singleton.mp hb]; exact fp_at fk nk) (fun b hb => by
      rcases List.mem_cons.mp hb with e | hb
      · rw [e]; exact ⟨_, ha', fun v z => by cases z⟩
      · rw [List.mem_singleton.mp hb]; exact ⟨_, hk', fun v z => by cases z⟩)
    refine wpAny_bind (wpAny_attempt (wpAny_mono (key_call (E := fun _ _ => False) (Q := fun v H2 => ∃ t, v = .ref t ∧ Same H' H2 ∧ H2 t = some (.tup [.int k.1, .int k.2])) F hb hr I2 (hA I2) (turn j p k H' _ hp hkj s1 fun t H2 s2 h2 => ⟨t, rfl, s2, h2⟩)) (fun u s'' he => ?_) fun _ _ hF => hF.elim))
    obtain ⟨v, H2, I3, rv, t, rfl, s2, h2⟩ := he
    obtain rfl : u = Value.ref t := rv
    have pa := I3.pin (a, _) (List.mem_append_right _ (List.mem_append_right _ (mem_pinsAt (fp := [a, kS]) (by simp) ha')))
    have pk := I3.pin (kS, _) (List.mem_append_right _ (List.mem_append_right _ (mem_pinsAt (fp := [a, kS]) (by simp) hk')))
    have I4 := I3.unpinned
    try dsimp only
    have sb := Heap.SameBut.update s''.heap kS (Obj.mapSeq (·.push (.ref t)))
    obtain ⟨c2, hc2⟩ : ∃ c2, (s''.heap.update kS (Obj.mapSeq (·.push (.ref t)))).get? kS = some (seqObj "list" ((ts.map Value.ref).toArray.push (.ref t)) c2) := ⟨_, get?_update_seq pk.1 (·.push (.ref t))⟩
    have ek : ks.take (j + 1) = ks.take j ++ [k] := by rw [List.take_add_one, hkj]; simp
    have htl : ts.length = min j ks.length := by have := Paired.length pr; rw [List.length_take] at this; exact this
    refine wpAny_bind (listUpdate_at pk.1 rfl ?_ (by rw [List.size_toArray, List.length_map, sizeLine_eq]; omega) (by rw [Array.size_push, List.size_toArray, List.length_map, sizeLine_eq]; omega))
    have fk2 := fp_at fk pk.2.1
    refine wpAny_pure ⟨rfl, H2, ts ++ [t], c2, I4.turned (t' := s''.toks) (fun b o hb e => (sb.2 b hb).trans e) fk2.1 fk2.2.1 fk2.2.2.2.1 fk2.2.2.2.2.1 fk2.2.2.2.2.2, s1.trans s2, pa.2.1, pk.2.1, (sb.2 a hka.symm).trans pa.1, ?_, ?_⟩
    · show (s''.heap.update kS _).get? kS = _
      rw [hc2]
      simp
    · rw [ek]
      exact paired_snoc (L2.Paired.mapP pr fun t' k' e => s2 _ _ e) h2
  case done =>
    rintro s' ⟨H', ts, n, I', s1, na, nk, ha', hk', pr⟩
    rw [Nat.zero_add, List.length_map, List.take_of_length_le (by omega)] at pr
    try dsimp only
    refine wpAny_bind (listItems_at hk' rfl <| ?_)
    refine sk_end I' (fp_at fa na) (fp_at fk nk) hka ha' hk' ?_ hl hz fun out s2 so I2 => fin out H' s2 so s1 I2
    have conv : ∀ {ts : List Addr} {ks : List K2}, Paired (fun (t : Addr) (k : K2) => H' t = some (.tup [.int k.1, .int k.2])) ts ks → Paired (IsK s'.heap) (ts.map Value.ref) ks := fun {ts ks} q => by
      induction q with
      | nil => exact .nil
      | @cons t k _ _ r _ ih =>
        refine .cons ?_ ih
        obtain ⟨_, its, rv, ob, ho, hc, m, hd⟩ := I'.hok t _ r
        cases rv with
        | cons r1 rv =>
          cases rv with
          | cons r2 rv =>
            cases rv
            obtain ⟨t1, rfl⟩ := r1
            obtain ⟨t2, rfl⟩ := r2
            exact ⟨t, ob, t1, t2, m, rfl, ho, hc, hd⟩
    exact conv pr

/-- list.sort(key = f) of a list of ours -/
theorem sk_sort {A : Around} {E : Value → Shared → Prop} {P : PySem.Fin → Shared → Prop} {a : Addr} {n : Nat} {ks : List K2} {ps : List Addr} (F : FnOk X.prog X.w X.K X.mg X.base CX0 kk f fd [nm] sp) (hb : Binds X.K fd [nm] []) (hr : Room kk A)
    (hA : ∀ {pins : List (Addr × Obj)} {s : Shared} {H : Hp}, Inv X pins σ H s → Env0 X.prog X.w X.K X.mg X.base A X.stack s H)
    (I : Inv X pins σ H s) (fa : FpOk X pins H a) (ho : s.heap.get? a = some (seqObj "list" (ps.map Value.ref).toArray n)) (hl : ks.length = ps.length) (hz : ps.length ≤ 1000)
    (turn : ∀ (i : Nat) (p : Addr) (k : K2) (H' : Hp) (Q' : VK), ps[i]? = some p → ks[i]? = some k → Same H H' → (∀ t H2, Same H' H2 → H2 t = some (.tup [.int k.1, .int k.2]) → Q' (.ref t) H2) → sp [.ref p] H' Q' E0)
    (fin : ∀ out H2 s2, SortOut ks ps out → Same H H2 → Inv X pins σ (upd H2 a (.lst (out.map V.ref))) s2 → P (.done (.ret .none)) s2) :
    wpAny (model X.prog X.w) A (ksk_tree a (.ref f) false) P E s := by
  have ha : a < s.heap.objs.size := Heap.lt_size ho
  have sb1 := Heap.SameBut.update s.heap a (Obj.mapSeq fun _ => (#[] : Array Value))
  obtain ⟨e1, zo1⟩ : ∃ c1, (s.heap.update a (Obj.mapSeq fun _ => (#[] : Array Value))).get? a = some (seqObj "list" #[] c1) := ⟨_, get?_update_seq ho fun _ => #[]⟩
  have I1 : Inv X pins σ H { s with heap := s.heap.update a (Obj.mapSeq fun _ => (#[] : Array Value)) } := I.turned (t' := s.toks) (fun b o hb e => (sb1.2 b hb).trans e) fa.1 fa.2.1 fa.2.2.2.1 fa.2.2.2.2.1 fa.2.2.2.2.2
  have I2 : Inv X pins σ H { s with heap := (s.heap.update a (Obj.mapSeq fun _ => (#[] : Array Value))).push (seqObj "tuple" (ps.map Value.ref).toArray 0) } := I1.kept (t' := s.toks) fun b u q => Heap.get?_push_of_some _ q
  have I3 : Inv X pins σ H { s with heap := ((s.heap.update a (Obj.mapSeq fun _ => (#[] : Array Value))).push (seqObj "tuple" (ps.map Value.ref).toArray 0)).push (seqObj "list" #[] 0) } := I2.kept (t' := s.toks) fun b u q => Heap.get?_push_of_some _ q
  have hkS : ((s.heap.update a (Obj.mapSeq fun _ => (#[] : Array Value))).push (seqObj "tuple" (ps.map Value.ref).toArray 0)).objs.size = s.heap.objs.size + 1 := by rw [size_push', Heap.size_update]
  have fk : FpOk X pins H ((s.heap.update a (Obj.mapSeq fun _ => (#[] : Array Value))).push (seqObj "tuple" (ps.map Value.ref).toArray 0)).objs.size := I2.fpOk (Nat.le_refl _) (I2.hok.fresh (Nat.le_refl _))
  unfold ksk_tree
  refine wpAny_bind (listItems_at ho rfl ?_)
  refine wpAny_bind (listUpdate_at ho rfl ?_ (by rw [List.size_toArray, List.length_map, sizeLine_eq]; omega) (Nat.zero_le _))
  refine wpAny_bind (seqEpoch_at zo1 rfl ?_)
  refine wpAny_bind (wpAny_newTuple ?_ (by show (ps.map Value.ref).length ≤ _; rw [List.length_map, sizeLine_eq]; omega))
  refine wpAny_bind (wpAny_newList ?_ (Nat.zero_le _))
  refine wpAny_holding ?_
  exact sk_rest (s := { s with heap := ((s.heap.update a (Obj.mapSeq fun _ => (#[] : Array Value))).push (seqObj "tuple" (ps.map Value.ref).toArray 0)).push (seqObj "list" #[] 0) }) F hb hr hA I3 fa fk (by rw [hkS]; exact Nat.ne_of_gt (Nat.lt_succ_of_lt ha))
    (Heap.get?_push_of_some _ (Heap.get?_push_of_some _ zo1)) (Heap.get?_push_size _ rfl) hl hz turn fin

/-- sorted(l, key = f) -/
theorem sk_sorted {E : Value → Shared → Prop} {Q : VK} {l : Addr} {ks : List K2} {ps : List Addr} (F : FnOk X.prog X.w X.K X.mg X.base CX0 kk f fd [nm] sp) (hb : Binds X.K fd [nm] []) (hr : Room (kk + 2) X.A)
    (I : Inv X pins σ H s) (hs : SqL X.K H l (ps.map V.ref)) (hl : ks.length = ps.length) (hz : ps.length ≤ 1000)
    (turn : ∀ (i : Nat) (p : Addr) (k : K2) (H' : Hp) (Q' : VK), ps[i]? = some p → ks[i]? = some k → Same H H' → (∀ t H2, Same H' H2 → H2 t = some (.tup [.int k.1, .int k.2]) → Q' (.ref t) H2) → sp [.ref p] H' Q' E0)
    (fin : ∀ out a H2, SortOut ks ps out → Same H H2 → H2 a = some (.lst (out.map V.ref)) → Q (.ref a) H2) :
    wpAny (model X.prog X.w) X.A (call (.builtin "sorted") [.ref l] [(Str.ofString "key", .ref f)]) (EP X pins σ Q) E s := by
  obtain ⟨its, rv, hl0, _⟩ := I.list hs
  have eits : its = ps.map Value.ref := by
    have : ∀ {ps : List Addr} {its : List Value}, Vals (ps.map V.ref) its → its = ps.map Value.ref := fun {ps} => by
      induction ps with
      | nil => intro its r; cases r; rfl
      | cons p r ih =>
        intro its rr
        cases rr with
        | cons r1 r2 => rw [ih r2, List.map_cons]; congr 1
    exact this rv
  subst eits
  have hz2 : (ps.map Value.ref).length ≤ sizeLine := by rw [List.length_map, sizeLine_eq]; omega
  refine call_function_entry_kw kind_sorted plain_sorted entry_sorted (ksk_s1 _ _) ?_
  unfold Builtin.«sorted»
  refine wpAny_bind (m := checkCount "sorted" 1 1 _) <| wpAny_pure <| ?_
  refine wpAny_bind (collect_list hl0.isList ?_ hz2)
  refine wpAny_bind (wpAny_newList ?_ hz2)
  have zSz : ((s.heap.push (seqObj "list" #[] 0)).update s.heap.objs.size (Obj.mapSeq (· ++ (ps.map Value.ref).toArray))).objs.size = s.heap.objs.size + 1 := by
    rw [Heap.size_update, size_push']
  have zoL : (((s.heap.push (seqObj "list" #[] 0)).update s.heap.objs.size (Obj.mapSeq (· ++ (ps.map Value.ref).toArray))).push (seqObj "list" (ps.map Value.ref).toArray 0)).get? (s.heap.objs.size + 1) = some (seqObj "list" (ps.map Value.ref).toArray 0) := by
    rw [← zSz]; exact Heap.get?_push_size _ rfl
  have keep : ∀ b o, s.heap.get? b = some o → (((s.heap.push (seqObj "list" #[] 0)).update s.heap.objs.size (Obj.mapSeq (· ++ (ps.map Value.ref).toArray))).push (seqObj "list" (ps.map Value.ref).toArray 0)).get? b = some o := fun b o q => by
    have lt1 : b < s.heap.objs.size := Heap.lt_size q
    rw [Heap.get?_push_ne _ _ _ (by rw [zSz]; exact Nat.ne_of_lt (Nat.lt_succ_of_lt lt1)), Heap.get?_update_ne _ _ _ _ (Nat.ne_of_lt lt1), Heap.get?_push_ne _ _ _ (Nat.ne_of_lt lt1)]
    exact q
  have I1 : Inv X pins σ H { s with heap := ((s.heap.push (seqObj "list" #[] 0)).update s.heap.objs.size (Obj.mapSeq (· ++ (ps.map Value.ref).toArray))).push (seqObj "list" (ps.map Value.ref).toArray 0) } := I.kept (t' := s.toks) keep
  have fa : FpOk X pins H (s.heap.objs.size + 1) := I.fpOk (Nat.le_succ _) (I.hok.fresh (Nat.le_succ _))
  show wpAny _ _ _ _ _ { s with heap := ((s.heap.push (seqObj "list" #[] 0)).update s.heap.objs.size (Obj.mapSeq (· ++ (ps.map Value.ref).toArray))).push (seqObj "list" (ps.map Value.ref).toArray 0) }
  rw [zSz]
  refine wpAny_bind (wpAny_holding (wpAny_call_entry_kw slot_list_sort ⟨_, zoL, rfl⟩ entry_list_sort ?body (ksk_l1 _ _)))
  case body =>
    show wpAny (model X.prog X.w) X.A.in1.in1 (Builtin.«list.sort» ⟨[.ref (s.heap.objs.size + 1)], [(Str.ofString "key", .ref f)]⟩) _ _ _
    rw [ksk_t1]
    refine sk_sort F hb hr.in1.in1 (fun J => J.env0.in1.in1) I1 fa zoL hl hz turn fun out H2 s2 so s12 I2 => ⟨_, rfl, wpAny_pure ⟨_, rfl, ?_⟩⟩
    exact ⟨.ref (s.heap.objs.size + 1), _, I2, rfl, fin out _ _ so (fun b o e => by rw [upd_ne (ne_of_none e fa.1)]; exact s12 _ _ e) upd_same⟩
end
/-- the reading of sorted(e, key = f): xs the items, ks their keys -/
def rSortK (K : PySem.W.Frag) (sp : Sp) (Q : VK) (x : V) (H1 : Hp) : Prop := ∃ (l : Addr) (ps : List Addr) (ks : List K2), x = .ref l ∧ SqL K H1 l (ps.map V.ref) ∧ ks.length = ps.length ∧ ps.length ≤ 1000 ∧
  (∀ (i : Nat) (p : Addr) (k : K2) (H' : Hp) (Q' : VK), ps[i]? = some p → ks[i]? = some k → Same H1 H' → (∀ t H2, Same H' H2 → H2 t = some (.tup [.int k.1, .int k.2]) → Q' (.ref t) H2) → sp [.ref p] H' Q' E0) ∧
  ∀ out a H2, SortOut ks ps out → Same H1 H2 → H2 a = some (.lst (out.map V.ref)) → Q (.ref a) H2
def tSortK (K : PySem.W.Frag) (sp : Sp) (ta : TE) : TE := fun σ H Q => ta σ H fun x H1 => rSortK K sp Q x H1
theorem pe_sortK {X : Cx} {kk : Nat} {f : Addr} {fd : FuncData} {nm fx : Str} {sp : Sp} {e : Expr} {ta : TE} {p q kp pos : Pos} (F : FnOk X.prog X.w X.K X.mg X.base CX0 kk f fd [nm] sp) (hb : Binds X.K fd [nm] []) (hr : Room (kk + 2) X.A) (hmf : X.mg fx = some (.ref f)) (hms : X.mg "sorted" = none) (ha : PE X e ta)
    (hg : Gl X "sorted" := by rfl) (hgf : Gl X fx := by rfl) (hdb : (fx == ("__debug__" : Str)) = false := by decide) (hs1 : starEach [e] X.env = [(false, eval e X.env)] := by rfl) :
    PE X (.Call (.Name "sorted" p) [e] [⟨some "key", .Name fx q, kp⟩] pos) (tSortK X.K sp ta) := by
  intro pins s σ H Q I h
  refine wpAny_Call_Name_kw (ld_blt I hg hms PyProof.Rows.boot_sorted ?_)
  refine callWith_kw (thn ((pa_cons ha pa_nil hs1) pos pins s σ H (fun vs H1 => ∃ x, vs = [x] ∧ rSortK X.K sp Q x H1) I ?_) fun us s1 ⟨vs, H1, I1, r1, q1⟩ => ?_) (by rw [hs1]; rfl) (by rw [hs1]; rfl)
  · show ta σ H fun x H1 => ∃ y, [x] = [y] ∧ rSortK X.K sp Q y H1
    have e : (fun (x : V) (H1 : Hp) => ∃ y, [x] = [y] ∧ rSortK X.K sp Q y H1) = fun x H1 => rSortK X.K sp Q x H1 := by
      funext x H1
      exact propext ⟨fun ⟨y, e, q⟩ => by cases e; exact q, fun q => ⟨x, rfl, q⟩⟩
    rw [e]
    exact h
  · obtain ⟨x, rfl, l, ps, ks, e1, hsl, hl, hz, turn, fin⟩ := q1
    refine kws_cons (ld_glob I1 hgf hmf ?_ hdb)
    refine kws_nil ?_
    cases r1 with
    | cons r r2 =>
      cases r2
      cases e1
      cases r
      exact sk_sorted F hb hr I1 hsl hl hz turn fin
end Rs
end
section
set_option maxHeartbeats 1000000
/-! sorted(d) of a dict whose keys are ints -/
namespace Rs
open PySem PySem.Spec PyProof.Rows L2
theorem ints_of_items {prog : Program} {w : World} {vs : List (Key × Value)} {ns : List Int} (hk : vs.map Prod.fst = ns.map Sum.inl) : ∀ (acc : List Value), acc.length = vs.length → (∀ (i : Nat) (v : Value), acc[i]? = some v → ∃ k x, vs[i]? = some (k, x) ∧ (mixKind prog w).is k v = true) → IntsAre acc ns := by
  induction vs generalizing ns with
  | nil =>
    intro acc hl _
    have : acc = [] := List.eq_nil_of_length_eq_zero hl
    subst this
    cases ns with
    | nil => exact .nil
    | cons n r => simp at hk
  | cons p r ih =>
    intro acc hl h
    cases acc with
    | nil => simp at hl
    | cons v acc =>
      cases ns with
      | nil => simp at hk
      | cons n ns =>
        simp only [List.map_cons, List.cons.injEq] at hk
        obtain ⟨k, x, e, q⟩ := h 0 v rfl
        simp at e
        subst e
        have hk1 : k = Sum.inl n := hk.1
        subst hk1
        obtain ⟨t, rfl⟩ := Value.isInt_shape (show Value.isInt n v = true from q)
        exact .cons n t (ih hk.2 acc (by simpa using hl) fun i v' e' => h (i + 1) v' (by simpa using e'))
def rSortedD : List V → Hp → VK → Prop := fun vs H Q => ∃ (d : Addr) (kvs : List (Key × V)) (ns : List Int), vs = [V.ref d] ∧ H d = some (.dK kvs) ∧ kvs.map Prod.fst = ns.map Sum.inl ∧ ns.length < 64 ∧
  ∀ (ns' : List Int) (p : Addr), ns'.Perm ns → ns'.Pairwise (· ≤ ·) → H p = none → Q (.ref p) (upd H p (.lst (ns'.map V.int)))
theorem kv_fst {κ : Type} : ∀ {kvs : List (κ × V)} {vs : List (κ × Value)}, KV kvs vs → vs.map Prod.fst = kvs.map Prod.fst
  | _, _, .nil => rfl
  | _, _, .cons r t => by rw [List.map_cons, List.map_cons, r.1, kv_fst t]
theorem cr_sortedD {X : Cx} (hc : X.calm = true) : CallR X (.builtin "sorted") rSortedD := by
  intro pins s σ H vs us Q I r h
  obtain ⟨d, kvs, ns, rfl, hd, hk, h64, q⟩ := h
  rw [Vals.ref1 r]
  obtain ⟨hz, lo, vs, kv, hD⟩ := I.hok d _ hd
  obtain ⟨ep, hat⟩ := hD.dictAt
  have hkv : vs.map Prod.fst = ns.map Sum.inl := (kv_fst kv).trans hk
  have hlen : vs.length = ns.length := by have := congrArg List.length hkv; simpa using this
  refine Calls.call_function_entry kind_sorted plain_sorted entry_sorted (args_sorted1 _) ?_
  unfold Builtin.«sorted»
  refine wpAny_bind (m := checkCount "sorted" 1 1 _) <| wpAny_pure <| ?_
  refine wpAny_bind (PySem.W.kdu_collect (A := X.A.in1) (PySem.W.kdl_dict (knd := mixKind X.prog X.w) (kvs := vs) (ep := ep) lo) (I.ok.hd hc) hat (by rw [hlen, sizeLine_eq]; omega) fun h' tk acc keep hacc => ?_)
  have hI : IntsAre acc.toList ns := ints_of_items (prog := X.prog) (w := X.w) hkv acc.toList (by rw [Array.length_toList]; exact hacc.1) fun i v e => hacc.2 i v (by rw [← Array.getElem?_toList]; exact e)
  have hal : acc.toList.length = ns.length := hI.length
  refine wpAny_bind (wpAny_newList ?_ (by rw [hal, sizeLine_eq]; omega))
  have ho : (h'.push (seqObj "list" acc.toList.toArray 0)).get? h'.objs.size = some (seqObj "list" acc.toList.toArray 0) := Heap.get?_push_size _ rfl
  show wpAny _ _ _ _ _ { s with heap := h'.push (seqObj "list" acc.toList.toArray 0), toks := tk }
  refine wpAny_bind (wpAny_holding (wpAny_call_entry slot_list_sort ⟨_, ho, rfl⟩ entry_list_sort (list_sort_tree ho hI (by rw [hal]; exact h64) fun out ns' h1 h2 h3 => ⟨_, rfl, wpAny_pure ⟨_, rfl, ?_⟩⟩) (args_list_sort _)))
  obtain ⟨e2, he2⟩ := sortedHeap_at (vs := acc.toList) (out := out) ho
  have I1 : Inv X pins σ H { s with heap := h', toks := tk } := I.kept (t' := tk) keep
  refine ⟨.ref h'.objs.size, upd H h'.objs.size (.lst (ns'.map V.int)), I1.laid (t' := tk) (fun b o e => ?_) (Nat.le_refl _) ⟨?_, out.toList, e2, vals_of_ints h1, he2⟩, rfl, q ns' _ h2 h3 (I1.hok.fresh (Nat.le_refl _))⟩
  · have lt1 : b < h'.objs.size := Heap.lt_size e
    rw [sortedHeap_old (Nat.ne_of_lt lt1) (by rw [size_push']; exact Nat.lt_succ_of_lt lt1)]
    exact Heap.get?_push_of_some _ e
  · rw [List.length_map, h2.length_eq, sizeLine_eq]; omega

/-! a def called through a table: t[i](e, ..) -/
def tCallV (X : Cx) (tf : TE) (t : TA) : TE := fun σ H Q => tf σ H fun x H1 => ∃ f fd ps sp k, x = V.ref f ∧ FnOk X.prog X.w X.K X.mg X.base CX0 k f fd ps sp ∧ Room k X.A ∧ PySem.W.keepIn X.K (.ref f) = true ∧ Binds X.K fd ps [] ∧ t σ H1 fun vs H2 => sp (vs ++ []) H2 Q E0
theorem pe_callV {X : Cx} {o i e : Expr} {es : List Expr} {q pos : Pos} {tf : TE} {t : TA} (hf : PE X (.Subscript o i q) tf) (ha : PA X (e :: es) t) (he : starEach (e :: es) X.env = (false, eval e X.env) :: starEach es X.env := by rfl) (hpl : (backTo pos (starEach es X.env)).any (·.1) = false := by rfl) :
    PE X (.Call (.Subscript o i q) (e :: es) [] pos) (tCallV X tf t) := by
  intro pins s σ H Q I h
  have ev : eval (.Call (.Subscript o i q) (e :: es) [] pos) X.env = (do
      let v ← eval (.Subscript o i q) X.env
      callWith pos v [] (backTo pos (starEach (e :: es) X.env)) (backToKw pos (keywordEach [] X.env))) := rfl
  rw [ev]
  refine wpAny_bind (thn (hf pins s σ H _ I h) fun u s1 ⟨x, H1, I1, r1, q1⟩ => ?_)
  obtain ⟨f, fd, ps, sp, k, rfl, F, hr, hk, hb, q1⟩ := q1
  obtain rfl : u = Value.ref f := r1
  refine PySem.W.callWith_K (h₀ := X.base) I1.ok.mod.kin hk (thn (ha pos pins s1 σ H1 _ I1 q1) fun us s2 ⟨vs, H2, I2, r2, q2⟩ => ⟨I2.kIn, ?_⟩) he hpl
  exact run_fn F hr hb .nil pass0 I2 r2 q2
end Rs
end
section
/-! Greedy serving, dose by dose; one, two and three runs beside one another. -/
namespace Vb
section greedy
variable (ord : List Nat) (cv : Nat → Nat → Bool)

def good (f : Nat → Nat) (e i : Nat) : Bool := cv i e && decide (0 < f i)
def pick (f : Nat → Nat) (e : Nat) : Option Nat := ord.find? (good cv f e)
def dec1 (f : Nat → Nat) (i : Nat) : Nat → Nat := fun j => if j = i then f j - 1 else f j
def minus (f : Nat → Nat) : Option Nat → (Nat → Nat)
  | none => f
  | some i => dec1 f i
def lk : Option Nat → Nat
  | none => 1
  | some _ => 0
def run : List Nat → (Nat → Nat) → (Nat → Nat) × Nat
  | [], f => (f, 0)
  | e :: r, f => ((run r (minus f (pick ord cv f e))).1, lk (pick ord cv f e) + (run r (minus f (pick ord cv f e))).2)

def pos (i : Nat) : Nat := ord.idxOf i

theorem dec1_ne {f : Nat → Nat} {i j : Nat} (h : j ≠ i) : dec1 f i j = f j := by unfold dec1; rw [if_neg h]
theorem dec1_self {f : Nat → Nat} {i : Nat} : dec1 f i i = f i - 1 := by unfold dec1; rw [if_pos rfl]
theorem dec1_le {f : Nat → Nat} {i j : Nat} : dec1 f i j ≤ f j := by
  unfold dec1; split <;> omega
theorem dec1_comm (f : Nat → Nat) (i j : Nat) : dec1 (dec1 f i) j = dec1 (dec1 f j) i := by
  funext k
  unfold dec1
  by_cases h1 : k = i <;> by_cases h2 : k = j
  · rw [if_pos h2, if_pos h1, if_pos h1, if_pos h2]
  · rw [if_neg h2, if_pos h1, if_pos h1, if_neg h2]
  · rw [if_pos h2, if_neg h1, if_neg h1, if_pos h2]
  · rw [if_neg h2, if_neg h1, if_neg h1, if_neg h2]
theorem good_dec {f : Nat → Nat} {e i j : Nat} (h : good cv (dec1 f i) e j = true) : good cv f e j = true := by
  unfold good at *
  simp only [Bool.and_eq_true, decide_eq_true_eq] at *
  exact ⟨h.1, Nat.lt_of_lt_of_le h.2 dec1_le⟩
theorem good_keep {f : Nat → Nat} {e i j : Nat} (hne : j ≠ i) (h : good cv f e j = true) : good cv (dec1 f i) e j = true := by
  unfold good at *
  rw [dec1_ne hne]; exact h
theorem good_pos {f : Nat → Nat} {e i : Nat} (h : good cv f e i = true) : 0 < f i := by
  unfold good at h
  simp only [Bool.and_eq_true, decide_eq_true_eq] at h
  exact h.2
theorem good_cv {f : Nat → Nat} {e i : Nat} (h : good cv f e i = true) : cv i e = true := by
  unfold good at h
  simp only [Bool.and_eq_true, decide_eq_true_eq] at h
  exact h.1
theorem good_mk {f : Nat → Nat} {e i : Nat} (h1 : cv i e = true) (h2 : 0 < f i) : good cv f e i = true := by
  unfold good; simp [h1, h2]

theorem pick_some {f : Nat → Nat} {e i : Nat} (h : pick ord cv f e = some i) : i ∈ ord ∧ good cv f e i = true ∧ ∀ j ∈ ord, good cv f e j = true → pos ord i ≤ pos ord j := by
  unfold pick at h
  rw [List.find?_eq_some_iff_append] at h
  obtain ⟨hg, as, bs, rfl, hno⟩ := h
  refine ⟨by simp, hg, fun j hj gj => ?_⟩
  have hja : j ∉ as := fun q => by have := hno j q; rw [gj] at this; simp at this
  have hia : i ∉ as := fun q => by have := hno i q; rw [hg] at this; simp at this
  unfold pos
  rw [List.idxOf_append, if_neg hia, List.idxOf_append, if_neg hja]
  simp
theorem pick_none {f : Nat → Nat} {e : Nat} (h : pick ord cv f e = none) : ∀ j ∈ ord, good cv f e j = false := by
  unfold pick at h
  rw [List.find?_eq_none] at h
  intro j hj
  have := h j hj
  simpa using this
theorem pick_dec_none {f : Nat → Nat} {e i : Nat} (h : pick ord cv f e = none) : pick ord cv (dec1 f i) e = none := by
  have := pick_none ord cv h
  unfold pick
  rw [List.find?_eq_none]
  intro j hj q
  have := good_dec cv q
  rw [pick_none ord cv h j hj] at this
  cases this
theorem pick_dec_ne {f : Nat → Nat} {e i v : Nat} (h : pick ord cv f e = some v) (hne : v ≠ i) : pick ord cv (dec1 f i) e = some v := by
  unfold pick at *
  rw [List.find?_eq_some_iff_append] at *
  obtain ⟨hg, as, bs, rfl, hno⟩ := h
  refine ⟨good_keep cv hne hg, as, bs, rfl, fun a ha => ?_⟩
  have := hno a ha
  cases q : good cv (dec1 f i) e a with
  | false => rfl
  | true => rw [good_dec cv q] at this; cases this
theorem pick_exists {f : Nat → Nat} {e j : Nat} (hj : j ∈ ord) (g : good cv f e j = true) : ∃ v, pick ord cv f e = some v := by
  cases q : pick ord cv f e with
  | some v => exact ⟨v, rfl⟩
  | none => rw [pick_none ord cv q j hj] at g; cases g

theorem run_cons_some {f : Nat → Nat} {e v : Nat} {r : List Nat} (h : pick ord cv f e = some v) : (run ord cv (e :: r) f).2 = (run ord cv r (dec1 f v)).2 := by
  simp [run, h, lk, minus]
theorem run_cons_none {f : Nat → Nat} {e : Nat} {r : List Nat} (h : pick ord cv f e = none) : (run ord cv (e :: r) f).2 = 1 + (run ord cv r f).2 := by
  simp [run, h, lk, minus]

theorem two : ∀ (ds : List Nat) (f : Nat → Nat) (i : Nat), 0 < f i → ∃ δ, (run ord cv ds (dec1 f i)).2 = (run ord cv ds f).2 + δ ∧ δ ≤ 1
  | [], _, _, _ => ⟨0, rfl, by omega⟩
  | e :: r, f, i, hi => by
    cases hp : pick ord cv f e with
    | none =>
      rw [run_cons_none ord cv hp, run_cons_none ord cv (pick_dec_none ord cv hp)]
      obtain ⟨δ, h1, h2⟩ := two r f i hi
      exact ⟨δ, by omega, h2⟩
    | some v =>
      rw [run_cons_some ord cv hp]
      by_cases hv : v = i
      · subst hv
        cases hq : pick ord cv (dec1 f v) e with
        | none =>
          rw [run_cons_none ord cv hq]
          exact ⟨1, by omega, by omega⟩
        | some u =>
          rw [run_cons_some ord cv hq]
          exact two r (dec1 f v) u (good_pos cv (pick_some ord cv hq).2.1)
      · rw [run_cons_some ord cv (pick_dec_ne ord cv hp hv), dec1_comm]
        exact two r (dec1 f v) i (by rw [dec1_ne (fun q => hv q.symm)]; exact hi)

variable (come : Nat → Nat)
structure Pair (now : Nat) (f : Nat → Nat) (i j : Nat) : Prop where
  mi : i ∈ ord
  mj : j ∈ ord
  le : pos ord i ≤ pos ord j
  cj : come j ≤ now
  fi : 0 < f i
  fj : 0 < dec1 f i j

theorem three (hM : ∀ i ∈ ord, ∀ j ∈ ord, ∀ e, pos ord i ≤ pos ord j → cv i e = true → come j ≤ e → cv j e = true) (hC : ∀ j e, cv j e = true → come j ≤ e) :
    ∀ (ds : List Nat) (now : Nat) (f : Nat → Nat) (i j : Nat), Pair ord come now f i j → (∀ d ∈ ds, now ≤ d) → ds.Pairwise (· ≤ ·) →
    ∃ δ1 δ2, (run ord cv ds (dec1 f i)).2 = (run ord cv ds f).2 + δ1 ∧ (run ord cv ds (dec1 (dec1 f i) j)).2 = (run ord cv ds (dec1 f i)).2 + δ2 ∧ δ1 ≤ δ2 ∧ δ2 ≤ 1
  | [], _, _, _, _, _, _, _ => ⟨0, 0, rfl, rfl, by omega, by omega⟩
  | e :: r, now, f, i, j, p, hn, hs => by
    have hne : now ≤ e := hn e (by simp)
    have hr : ∀ d ∈ r, e ≤ d := (List.pairwise_cons.mp hs).1
    have hsr : r.Pairwise (· ≤ ·) := (List.pairwise_cons.mp hs).2
    have hcj : come j ≤ e := Nat.le_trans p.cj hne
    cases hp : pick ord cv f e with
    | none =>
      have hp1 := pick_dec_none ord cv (i := i) hp
      have hp2 := pick_dec_none ord cv (i := j) hp1
      rw [run_cons_none ord cv hp, run_cons_none ord cv hp1, run_cons_none ord cv hp2]
      obtain ⟨δ1, δ2, h1, h2, h3, h4⟩ := three hM hC r e f i j ⟨p.mi, p.mj, p.le, hcj, p.fi, p.fj⟩ hr hsr
      exact ⟨δ1, δ2, by omega, by omega, h3, h4⟩
    | some v =>
      obtain ⟨mv, gv, lv⟩ := pick_some ord cv hp
      rw [run_cons_some ord cv hp]
      by_cases hvi : v = i
      · subst hvi
        -- the second run looks for another, and j would do
        have gj : good cv (dec1 f v) e j = true := good_mk cv (hM v p.mi j p.mj e p.le (good_cv cv gv) hcj) p.fj
        obtain ⟨v1, hq⟩ := pick_exists ord cv p.mj gj
        obtain ⟨mv1, gv1, lv1⟩ := pick_some ord cv hq
        rw [run_cons_some ord cv hq]
        by_cases h1j : v1 = j
        · subst h1j
          cases hz : pick ord cv (dec1 (dec1 f v) v1) e with
          | none =>
            rw [run_cons_none ord cv hz]
            obtain ⟨δ, h1, h2⟩ := two ord cv r (dec1 f v) v1 p.fj
            exact ⟨δ, 1, h1, by omega, h2, by omega⟩
          | some v2 =>
            obtain ⟨mv2, gv2, lv2⟩ := pick_some ord cv hz
            rw [run_cons_some ord cv hz]
            exact three hM hC r e (dec1 f v) v1 v2 ⟨p.mj, mv2, lv1 v2 mv2 (good_dec cv gv2), hC _ _ (good_cv cv gv2), p.fj, good_pos cv gv2⟩ hr hsr
        · have hz := pick_dec_ne ord cv hq h1j
          rw [run_cons_some ord cv hz, dec1_comm (dec1 f v) j v1]
          exact three hM hC r e (dec1 f v) v1 j ⟨mv1, p.mj, lv1 j p.mj gj, hcj, good_pos cv gv1, by rw [dec1_ne (fun q => h1j q.symm)]; exact p.fj⟩ hr hsr
      · have hq := pick_dec_ne ord cv hp hvi
        rw [run_cons_some ord cv hq]
        by_cases hvj : v = j
        · subst hvj
          have fi' : 0 < dec1 f v i := by rw [dec1_ne (fun q => hvi q.symm)]; exact p.fi
          cases hz : pick ord cv (dec1 (dec1 f i) v) e with
          | none =>
            rw [run_cons_none ord cv hz]
            obtain ⟨δ, h1, h2⟩ := two ord cv r (dec1 f v) i fi'
            rw [dec1_comm f v i] at h1
            exact ⟨δ, 1, h1, by omega, h2, by omega⟩
          | some v2 =>
            obtain ⟨mv2, gv2, lv2⟩ := pick_some ord cv hz
            rw [run_cons_some ord cv hz, dec1_comm f i v]
            rw [dec1_comm f i v] at gv2
            exact three hM hC r e (dec1 f v) i v2 ⟨p.mi, mv2, Nat.le_trans p.le (lv v2 mv2 (good_dec cv (good_dec cv gv2))), hC _ _ (good_cv cv gv2), fi', good_pos cv gv2⟩ hr hsr
        · have hz := pick_dec_ne ord cv hq hvj
          rw [run_cons_some ord cv hz, dec1_comm (dec1 f i) j v, dec1_comm f i v]
          refine three hM hC r e (dec1 f v) i j ⟨p.mi, p.mj, p.le, hcj, by rw [dec1_ne (fun q => hvi q.symm)]; exact p.fi, ?_⟩ hr hsr
          rw [dec1_comm, dec1_ne (fun q => hvj q.symm)]
          exact p.fj

theorem convex (hM : ∀ i ∈ ord, ∀ j ∈ ord, ∀ e, pos ord i ≤ pos ord j → cv i e = true → come j ≤ e → cv j e = true) (hC : ∀ j e, cv j e = true → come j ≤ e)
    (d : Nat) (D2 : List Nat) (hd : ∀ x ∈ D2, d ≤ x) (hs : D2.Pairwise (· ≤ ·)) :
    ∀ (n : Nat) (f : Nat → Nat), ∃ δ1 δ2, (run ord cv (List.replicate (n + 1) d ++ D2) f).2 = (run ord cv (List.replicate n d ++ D2) f).2 + δ1 ∧
      (run ord cv (List.replicate (n + 2) d ++ D2) f).2 = (run ord cv (List.replicate (n + 1) d ++ D2) f).2 + δ2 ∧ δ1 ≤ δ2 ∧ δ2 ≤ 1
  | 0, f => by
    show ∃ δ1 δ2, (run ord cv (d :: D2) f).2 = (run ord cv D2 f).2 + δ1 ∧ (run ord cv (d :: d :: D2) f).2 = (run ord cv (d :: D2) f).2 + δ2 ∧ δ1 ≤ δ2 ∧ δ2 ≤ 1
    cases hp : pick ord cv f d with
    | none =>
      rw [run_cons_none ord cv hp, run_cons_none ord cv hp, run_cons_none ord cv hp]
      exact ⟨1, 1, by omega, by omega, by omega, by omega⟩
    | some i =>
      obtain ⟨mi, gi, li⟩ := pick_some ord cv hp
      rw [run_cons_some ord cv hp, run_cons_some ord cv hp]
      cases hq : pick ord cv (dec1 f i) d with
      | none =>
        rw [run_cons_none ord cv hq]
        obtain ⟨δ, h1, h2⟩ := two ord cv D2 f i (good_pos cv gi)
        exact ⟨δ, 1, h1, by omega, h2, by omega⟩
      | some j =>
        obtain ⟨mj, gj, lj⟩ := pick_some ord cv hq
        rw [run_cons_some ord cv hq]
        exact three ord cv come hM hC D2 d f i j ⟨mi, mj, li j mj (good_dec cv gj), hC _ _ (good_cv cv gj), good_pos cv gi, good_pos cv gj⟩ hd hs
  | n + 1, f => by
    obtain ⟨δ1, δ2, h1, h2, h3, h4⟩ := convex hM hC d D2 hd hs n (minus f (pick ord cv f d))
    refine ⟨δ1, δ2, ?_, ?_, h3, h4⟩
    · simp only [List.replicate_succ, List.cons_append, run] at h1 ⊢
      omega
    · simp only [List.replicate_succ, List.cons_append, run] at h2 ⊢
      omega

theorem run_append : ∀ (xs ys : List Nat) (f : Nat → Nat), (run ord cv (xs ++ ys) f).2 = (run ord cv xs f).2 + (run ord cv ys (run ord cv xs f).1).2
  | [], _, _ => by simp [run]
  | e :: r, ys, f => by
    simp only [List.cons_append, run]
    rw [run_append r ys]
    omega
theorem run_append1 : ∀ (xs ys : List Nat) (f : Nat → Nat), (run ord cv (xs ++ ys) f).1 = (run ord cv ys (run ord cv xs f).1).1
  | [], _, _ => by simp [run]
  | e :: r, ys, f => by
    simp only [List.cons_append, run]
    rw [run_append1 r ys]
end greedy
end Vb
end
section
/-! The specification's plan, as a walk over all lots of the article in one order; dose by dose; spare. -/
namespace Vb
open Vblaak

/-! ### lists sorted by a strict order are one -/
theorem uniq {α : Type} {lt : α → α → Prop} (asym : ∀ x y, lt x y → lt y x → False) : ∀ {xs ys : List α}, xs.Pairwise lt → ys.Pairwise lt → (∀ z, z ∈ xs ↔ z ∈ ys) → xs = ys
  | [], [], _, _, _ => rfl
  | [], y :: ys, _, _, h => by have := (h y).mpr (by simp); simp at this
  | x :: xs, [], _, _, h => by have := (h x).mp (by simp); simp at this
  | x :: xs, y :: ys, hx, hy, h => by
    obtain ⟨hx1, hx2⟩ := List.pairwise_cons.mp hx
    obtain ⟨hy1, hy2⟩ := List.pairwise_cons.mp hy
    have e : x = y := by
      have a1 := (h x).mp (by simp)
      have a2 := (h y).mpr (by simp)
      rcases List.mem_cons.mp a1 with e | a1
      · exact e
      · rcases List.mem_cons.mp a2 with e | a2
        · exact e.symm
        · exact (asym _ _ (hx1 y a2) (hy1 x a1)).elim
    subst e
    congr 1
    refine uniq asym hx2 hy2 fun z => ⟨fun hz => ?_, fun hz => ?_⟩
    · rcases List.mem_cons.mp ((h z).mp (.tail _ hz)) with e | q
      · subst e; exact (asym _ _ (hx1 z hz) (hx1 z hz)).elim
      · exact q
    · rcases List.mem_cons.mp ((h z).mpr (.tail _ hz)) with e | q
      · subst e; exact (asym _ _ (hy1 z hz) (hy1 z hz)).elim
      · exact q

/-! ### the order of the lots -/
def lf (l : List Lot) (i : Nat) : Nat := (lotAt l i).left
def cvr (l : List Lot) (i e : Nat) : Bool := covers (lotAt l i) e
def lastOf (l : List Lot) (i : Nat) : Nat := (lotAt l i).last
def lotLt (l : List Lot) (i j : Nat) : Prop := lastOf l i < lastOf l j ∨ (lastOf l i = lastOf l j ∧ i < j)
theorem lotLt_asym (l : List Lot) (i j : Nat) (h1 : lotLt l i j) (h2 : lotLt l j i) : False := by
  unfold lotLt at *; omega
theorem lotLt_trans {l : List Lot} {i j k : Nat} (h1 : lotLt l i j) (h2 : lotLt l j k) : lotLt l i k := by
  unfold lotLt at *; omega

theorem mem_putLot {l : List Lot} {i j : Nat} : ∀ {r : List Nat}, j ∈ putLot l i r ↔ j = i ∨ j ∈ r
  | [] => by simp [putLot]
  | x :: r => by
    unfold putLot
    split
    · simp
    · rw [List.mem_cons, mem_putLot (r := r), List.mem_cons]
      constructor
      · rintro (h | h | h) <;> simp [h]
      · rintro (h | h | h) <;> simp [h]
theorem sorted_putLot {l : List Lot} {i : Nat} : ∀ {r : List Nat}, r.Pairwise (lotLt l) → (∀ x ∈ r, x < i) → (putLot l i r).Pairwise (lotLt l)
  | [], _, _ => by simp [putLot]
  | x :: r, h, hlt => by
    obtain ⟨h1, h2⟩ := List.pairwise_cons.mp h
    unfold putLot
    split
    · rename_i hl
      have hix : lotLt l i x := .inl hl
      refine List.pairwise_cons.mpr ⟨fun z hz => ?_, h⟩
      rcases List.mem_cons.mp hz with e | q
      · subst e; exact hix
      · exact lotLt_trans hix (h1 z q)
    · rename_i hl
      refine List.pairwise_cons.mpr ⟨fun z hz => ?_, sorted_putLot h2 fun z hz => hlt z (.tail _ hz)⟩
      rcases mem_putLot.mp hz with e | q
      · subst e
        have := hlt x (by simp)
        unfold lotLt lastOf
        omega
      · exact h1 z q
theorem sorted_fold {l : List Lot} : ∀ (xs acc : List Nat), xs.Pairwise (· < ·) → acc.Pairwise (lotLt l) → (∀ x ∈ acc, ∀ y ∈ xs, x < y) →
    (xs.foldl (fun r i => putLot l i r) acc).Pairwise (lotLt l) ∧ ∀ z, z ∈ xs.foldl (fun r i => putLot l i r) acc ↔ z ∈ acc ∨ z ∈ xs
  | [], acc, _, h, _ => by simp [h]
  | x :: xs, acc, hx, h, hlt => by
    obtain ⟨h1, h2⟩ := List.pairwise_cons.mp hx
    rw [List.foldl_cons]
    obtain ⟨a, b⟩ := sorted_fold xs (putLot l x acc) h2 (sorted_putLot h fun z hz => hlt z hz x (by simp)) fun z hz y hy => by
      rcases mem_putLot.mp hz with e | q
      · subst e; exact h1 y hy
      · exact hlt z q y (.tail _ hy)
    refine ⟨a, fun z => ?_⟩
    rw [b, mem_putLot, List.mem_cons]
    constructor
    · rintro ((h | h) | h) <;> simp [h]
    · rintro (h | h | h) <;> simp [h]

def ordOf (l : List Lot) (a : Nat) : List Nat := ((List.range l.length).filter fun i => (lotAt l i).article == a).foldl (fun r i => putLot l i r) []

theorem range_filter_sorted (n : Nat) (p : Nat → Bool) : ((List.range n).filter p).Pairwise (· < ·) := List.Pairwise.filter _ List.pairwise_lt_range
theorem ordOf_sorted (l : List Lot) (a : Nat) : (ordOf l a).Pairwise (lotLt l) :=
  (sorted_fold _ [] (range_filter_sorted _ _) (by simp) (by simp)).1
theorem mem_ordOf {l : List Lot} {a i : Nat} : i ∈ ordOf l a ↔ i < l.length ∧ (lotAt l i).article = a := by
  unfold ordOf
  rw [(sorted_fold _ [] (range_filter_sorted _ _) (by simp) (by simp)).2]
  simp
theorem ordOf_nodup (l : List Lot) (a : Nat) : (ordOf l a).Nodup :=
  (ordOf_sorted l a).imp fun {x y} h e => by subst e; exact lotLt_asym _ _ _ h h

theorem goodLots_eq (l : List Lot) (a day : Nat) : goodLots l a day = (ordOf l a).filter fun i => good (cvr l) (lf l) day i := by
  have A := sorted_fold (l := l) ((List.range l.length).filter fun i => (lotAt l i).article == a && (covers (lotAt l i) day && decide (0 < (lotAt l i).left))) [] (range_filter_sorted _ _) (by simp) (by simp)
  refine uniq (lotLt_asym l) A.1 ((ordOf_sorted l a).filter _) fun z => ?_
  refine (A.2 z).trans ?_
  rw [List.mem_filter, List.mem_filter, mem_ordOf]
  simp only [List.not_mem_nil, false_or, List.mem_range, Bool.and_eq_true, beq_iff_eq, good, cvr, lf]
  constructor
  · rintro ⟨h1, h2, h3⟩; exact ⟨⟨h1, h2⟩, h3⟩
  · rintro ⟨⟨h1, h2⟩, h3⟩; exact ⟨h1, h2, h3⟩

/-! ### so many doses on a day, lot by lot -/
def chunk (cv : Nat → Bool) (f : Nat → Nat) : List Nat → Nat → List (Nat × Nat) × Nat
  | [], n => ([], n)
  | i :: r, n =>
    if 0 < min n (f i) ∧ cv i = true then ((i, min n (f i)) :: (chunk cv f r (n - min n (f i))).1, (chunk cv f r (n - min n (f i))).2)
    else chunk cv f r n
theorem chunk_zero (cv : Nat → Bool) (f : Nat → Nat) : ∀ r, chunk cv f r 0 = ([], 0)
  | [] => rfl
  | i :: r => by
    unfold chunk
    rw [if_neg (by omega)]
    exact chunk_zero cv f r
theorem chunk_congr {cv cv' : Nat → Bool} {f g : Nat → Nat} : ∀ {r : List Nat} (_ : ∀ j ∈ r, f j = g j ∧ cv j = cv' j) (n : Nat), chunk cv f r n = chunk cv' g r n
  | [], _, _ => rfl
  | i :: r, h, n => by
    unfold chunk
    rw [(h i (by simp)).1, (h i (by simp)).2]
    rw [chunk_congr (fun j hj => h j (.tail _ hj)), chunk_congr (r := r) (fun j hj => h j (.tail _ hj))]
theorem takeFrom_chunk (l : List Lot) (day : Nat) : ∀ (r : List Nat) (n : Nat), takeFrom l (r.filter fun i => good (cvr l) (lf l) day i) n = chunk (fun i => cvr l i day) (lf l) r n
  | [], n => rfl
  | i :: r, n => by
    rw [List.filter_cons]
    unfold chunk
    by_cases hg : good (cvr l) (lf l) day i = true
    · rw [if_pos hg]
      have h1 := good_cv _ hg
      have h2 := good_pos _ hg
      unfold takeFrom
      by_cases hn : n = 0
      · subst hn
        rw [if_pos rfl, if_neg (by omega), chunk_zero]
      · rw [if_neg hn, if_pos ⟨by omega, h1⟩]
        dsimp only
        rw [takeFrom_chunk l day r]
        rfl
    · rw [if_neg hg, takeFrom_chunk l day r, if_neg]
      rintro ⟨h1, h2⟩
      exact hg (good_mk _ h2 (by omega))

/-! ### what is left then -/
def sub1 (f : Nat → Nat) (i k : Nat) : Nat → Nat := fun j => if j = i then f j - k else f j
def subs (f : Nat → Nat) : List (Nat × Nat) → Nat → Nat
  | [] => f
  | x :: r => subs (sub1 f x.1 x.2) r
theorem sub1_ne {f : Nat → Nat} {i j k : Nat} (h : j ≠ i) : sub1 f i k j = f j := by unfold sub1; rw [if_neg h]
theorem sub1_self {f : Nat → Nat} {i k : Nat} : sub1 f i k i = f i - k := by unfold sub1; rw [if_pos rfl]
theorem lotAt_modify {l : List Lot} {i j : Nat} {g : Lot → Lot} : lotAt (l.modify i g) j = if j = i ∧ j < l.length then g (lotAt l j) else lotAt l j := by
  unfold lotAt
  rw [List.getD_eq_getElem?_getD, List.getD_eq_getElem?_getD, List.getElem?_modify]
  by_cases h : j < l.length
  · rw [List.getElem?_eq_getElem h]
    by_cases e : j = i
    · subst e; simp [h]
    · rw [if_neg (by simp [e])]; simp [Ne.symm e]
  · rw [List.getElem?_eq_none (by omega)]
    simp [h]
/-- the lots are the same but for what is left -/
structure Stat (l l' : List Lot) : Prop where
  len : l'.length = l.length
  art : ∀ i, (lotAt l' i).article = (lotAt l i).article
  com : ∀ i, (lotAt l' i).come = (lotAt l i).come
  las : ∀ i, (lotAt l' i).last = (lotAt l i).last
  had : ∀ i, (lotAt l' i).had = (lotAt l i).had
theorem Stat.refl (l : List Lot) : Stat l l := ⟨rfl, fun _ => rfl, fun _ => rfl, fun _ => rfl, fun _ => rfl⟩
theorem Stat.trans {l l' l'' : List Lot} (h : Stat l l') (k : Stat l' l'') : Stat l l'' :=
  ⟨k.len.trans h.len, fun i => (k.art i).trans (h.art i), fun i => (k.com i).trans (h.com i), fun i => (k.las i).trans (h.las i), fun i => (k.had i).trans (h.had i)⟩
theorem Stat.mod (l : List Lot) (i : Nat) (v : Lot → Nat) : Stat l (l.modify i fun x => { x with left := v x }) := by
  refine ⟨by simp, fun j => ?_, fun j => ?_, fun j => ?_, fun j => ?_⟩ <;> (rw [lotAt_modify]; split <;> rfl)
theorem lf_mod (l : List Lot) (i k : Nat) : lf (l.modify i fun x => { x with left := x.left - k }) = sub1 (lf l) i k := by
  funext j
  unfold lf sub1
  rw [lotAt_modify]
  by_cases e : j = i
  · subst e
    by_cases h : j < l.length
    · simp [h]
    · rw [if_neg (by simp [h]), if_pos rfl]
      have : (lotAt l j).left = 0 := by
        unfold lotAt
        rw [List.getD_eq_getElem?_getD, List.getElem?_eq_none (by omega)]
        rfl
      show (lotAt l j).left = (lotAt l j).left - k
      omega
  · rw [if_neg (by simp [e]), if_neg e]
theorem lessened_stat : ∀ (t : List (Nat × Nat)) (l : List Lot), Stat l (lessened l t)
  | [], l => Stat.refl l
  | x :: t, l => (Stat.mod l x.1 fun y => y.left - x.2).trans (lessened_stat t _)
theorem lf_lessened : ∀ (t : List (Nat × Nat)) (l : List Lot), lf (lessened l t) = subs (lf l) t
  | [], l => rfl
  | x :: t, l => by
    show lf (lessened (l.modify x.1 fun y => { y with left := y.left - x.2 }) t) = subs (sub1 (lf l) x.1 x.2) t
    rw [lf_lessened t, lf_mod]
theorem putLot_stat {l l' : List Lot} (h : Stat l l') (i : Nat) : ∀ r, putLot l' i r = putLot l i r
  | [] => rfl
  | j :: r => by
    unfold putLot
    rw [h.las i, h.las j, putLot_stat h i r]
theorem ordOf_stat {l l' : List Lot} (h : Stat l l') (a : Nat) : ordOf l' a = ordOf l a := by
  unfold ordOf
  have e1 : ∀ i, putLot l' i = putLot l i := fun i => funext (putLot_stat h i)
  simp only [e1, h.len, h.art]
theorem cvr_stat {l l' : List Lot} (h : Stat l l') : cvr l' = cvr l := by
  funext i e
  unfold cvr covers
  rw [h.com i, h.las i]

/-- **first expired first**, by the one order -/
theorem served_eq (l : List Lot) (a day n : Nat) : served l a day n =
    (lessened l (chunk (fun i => cvr l i day) (lf l) (ordOf l a) n).1, chunk (fun i => cvr l i day) (lf l) (ordOf l a) n) := by
  unfold served
  rw [goodLots_eq, takeFrom_chunk]

/-! ### dose by dose -/
section
variable (ord : List Nat) (cv : Nat → Nat → Bool) (e : Nat)
theorem pick_at {pre suf : List Nat} {i : Nat} {f : Nat → Nat} (ho : ord = pre ++ i :: suf) (hp : ∀ x ∈ pre, good cv f e x = false) (hg : good cv f e i = true) : pick ord cv f e = some i := by
  unfold pick
  rw [List.find?_eq_some_iff_append]
  exact ⟨hg, pre, suf, ho, fun a ha => by rw [hp a ha]; rfl⟩
theorem run_stay : ∀ (n : Nat) (f : Nat → Nat), (∀ x ∈ ord, good cv f e x = false) → run ord cv (List.replicate n e) f = (f, n)
  | 0, f, _ => rfl
  | n + 1, f, h => by
    have hp : pick ord cv f e = none := by
      unfold pick
      rw [List.find?_eq_none]
      intro x hx q
      rw [h x hx] at q
      cases q
    rw [List.replicate_succ]
    simp only [run, hp, minus, lk]
    rw [run_stay n f h]
    simp only [Prod.mk.injEq, true_and]
    omega
theorem run_lot {pre suf : List Nat} {i : Nat} (ho : ord = pre ++ i :: suf) (hc : cv i e = true) : ∀ (k : Nat) (f : Nat → Nat), k ≤ f i → (∀ x ∈ pre, good cv f e x = false) →
    run ord cv (List.replicate k e) f = (sub1 f i k, 0)
  | 0, f, _, _ => by
    have : sub1 f i 0 = f := by funext j; unfold sub1; split <;> rfl
    rw [this]; rfl
  | k + 1, f, hk, hp => by
    have hpick := pick_at ord cv e ho hp (good_mk cv hc (by omega))
    rw [List.replicate_succ]
    simp only [run, hpick, minus, lk]
    rw [run_lot ho hc k (dec1 f i) (by rw [dec1_self]; omega) fun x hx => by
      cases q : good cv (dec1 f i) e x with
      | false => rfl
      | true => have := good_dec cv q; rw [hp x hx] at this; cases this]
    have : sub1 (dec1 f i) i k = sub1 f i (k + 1) := by
      funext j
      by_cases ej : j = i
      · subst ej; rw [sub1_self, sub1_self, dec1_self]; omega
      · rw [sub1_ne ej, sub1_ne ej, dec1_ne ej]
    rw [this]
    rfl
theorem run_chunk (nd : ord.Nodup) : ∀ (suf pre : List Nat) (f : Nat → Nat) (n : Nat), ord = pre ++ suf → (∀ x ∈ pre, good cv f e x = false) →
    run ord cv (List.replicate n e) f = (subs f (chunk (fun i => cv i e) f suf n).1, (chunk (fun i => cv i e) f suf n).2)
  | [], pre, f, n, ho, hp => by
    rw [List.append_nil] at ho
    subst ho
    rw [run_stay ord cv e n f hp]
    rfl
  | i :: suf, pre, f, n, ho, hp => by
    have nd2 : i ∉ suf := by
      rw [ho] at nd
      have := (List.nodup_append.mp nd).2.1
      exact (List.nodup_cons.mp this).1
    unfold chunk
    by_cases h : 0 < min n (f i) ∧ cv i e = true
    · rw [if_pos h]
      have hk : min n (f i) ≤ f i := Nat.min_le_right _ _
      have e1 : List.replicate n e = List.replicate (min n (f i)) e ++ List.replicate (n - min n (f i)) e := by
        rw [List.replicate_append_replicate]
        congr 1
        omega
      have r1 := run_lot ord cv e ho h.2 (min n (f i)) f hk hp
      have e2 : run ord cv (List.replicate n e) f = run ord cv (List.replicate (n - min n (f i)) e) (sub1 f i (min n (f i))) := by
        refine Prod.ext ?_ ?_
        · rw [e1, run_append1, r1]
        · rw [e1, run_append, r1]; simp
      rw [e2]
      by_cases hz : n - min n (f i) = 0
      · rw [hz, chunk_zero]
        rfl
      · have e3 := run_chunk nd suf (pre ++ [i]) (sub1 f i (min n (f i))) (n - min n (f i)) (by rw [ho]; simp) fun x hx => by
          rcases List.mem_append.mp hx with hx | hx
          · cases q : good cv (sub1 f i (min n (f i))) e x with
            | false => rfl
            | true =>
              have g2 := good_mk cv (f := f) (good_cv cv q) (by
                have := good_pos cv q
                unfold sub1 at this
                split at this <;> omega)
              rw [hp x hx] at g2; cases g2
          · rw [List.mem_singleton.mp hx]
            unfold good
            rw [sub1_self, show f i - min n (f i) = 0 by omega]
            simp
        rw [e3, chunk_congr (cv' := fun i => cv i e) (g := f) fun j hj => ⟨sub1_ne (fun (q : j = i) => nd2 (q ▸ hj)), rfl⟩]
        rfl
    · rw [if_neg h]
      by_cases hn : n = 0
      · subst hn
        rw [chunk_zero]
        rfl
      · refine run_chunk nd suf (pre ++ [i]) f n (by rw [ho]; simp) fun x hx => ?_
        rcases List.mem_append.mp hx with hx | hx
        · exact hp x hx
        · rw [List.mem_singleton.mp hx]
          cases q : good cv f e i with
          | false => rfl
          | true =>
            have := good_pos cv q
            exact (h ⟨by omega, good_cv cv q⟩).elim
end

def units (ds : List Demand) : List Nat := ds.flatMap fun x => List.replicate x.n x.day
def lackSum (p : List (Demand × List (Nat × Nat) × Nat)) : Nat := (p.map fun x => x.2.2).sum
theorem planned_run (a : Nat) : ∀ (ds : List Demand) (l : List Lot), (∀ x ∈ ds, x.article = a) →
    lackSum (planned l ds).1 = (run (ordOf l a) (cvr l) (units ds) (lf l)).2
  | [], l, _ => rfl
  | x :: r, l, h => by
    unfold planned
    rw [h x (by simp), served_eq]
    dsimp only
    have e := run_chunk (ordOf l a) (cvr l) x.day (ordOf_nodup l a) (ordOf l a) [] (lf l) x.n rfl (by simp)
    have ih := planned_run a r (lessened l (chunk (fun i => cvr l i x.day) (lf l) (ordOf l a) x.n).1) fun y hy => h y (.tail _ hy)
    rw [ordOf_stat (lessened_stat _ l), cvr_stat (lessened_stat _ l), lf_lessened] at ih
    show lackSum _ = (run _ _ (List.replicate x.n x.day ++ units r) _).2
    rw [run_append, e]
    show (chunk _ _ _ _).2 + lackSum _ = _
    rw [ih]

/-! ### demands in order -/
theorem mem_putDemand {x y : Demand} : ∀ {r : List Demand}, y ∈ putDemand x r ↔ y = x ∨ y ∈ r
  | [] => by simp [putDemand]
  | z :: r => by
    unfold putDemand
    split
    · simp
    · rw [List.mem_cons, mem_putDemand (r := r), List.mem_cons]
      constructor
      · rintro (h | h | h) <;> simp [h]
      · rintro (h | h | h) <;> simp [h]
theorem sorted_putDemand {x : Demand} : ∀ {r : List Demand}, r.Pairwise (fun u v => u.day ≤ v.day) → (putDemand x r).Pairwise (fun u v => u.day ≤ v.day)
  | [], _ => by simp [putDemand]
  | z :: r, h => by
    obtain ⟨h1, h2⟩ := List.pairwise_cons.mp h
    unfold putDemand
    split
    · rename_i hl
      refine List.pairwise_cons.mpr ⟨fun y hy => ?_, h⟩
      rcases List.mem_cons.mp hy with e | q
      · subst e; omega
      · have := h1 y q; omega
    · rename_i hl
      refine List.pairwise_cons.mpr ⟨fun y hy => ?_, sorted_putDemand h2⟩
      rcases mem_putDemand.mp hy with e | q
      · subst e; omega
      · exact h1 y q
theorem inOrder_snoc (ds : List Demand) (x : Demand) : inOrder (ds ++ [x]) = putDemand x (inOrder ds) := by
  unfold inOrder
  rw [List.foldl_append]
  rfl
theorem inOrder_sorted (ds : List Demand) : (inOrder ds).Pairwise (fun u v => u.day ≤ v.day) := by
  suffices ∀ (ds acc : List Demand), acc.Pairwise (fun u v => u.day ≤ v.day) → (ds.foldl (fun r x => putDemand x r) acc).Pairwise (fun u v => u.day ≤ v.day) from this ds [] (by simp)
  intro ds
  induction ds with
  | nil => exact fun acc h => h
  | cons x r ih => exact fun acc h => ih _ (sorted_putDemand h)
theorem mem_inOrder (ds : List Demand) (y : Demand) : y ∈ inOrder ds ↔ y ∈ ds := by
  suffices ∀ (ds acc : List Demand), y ∈ ds.foldl (fun r x => putDemand x r) acc ↔ y ∈ acc ∨ y ∈ ds by
    have := this ds []
    unfold inOrder
    simpa using this
  intro ds
  induction ds with
  | nil => intro acc; simp
  | cons x r ih =>
    intro acc
    rw [List.foldl_cons, ih, mem_putDemand, List.mem_cons]
    constructor
    · rintro ((h | h) | h) <;> simp [h]
    · rintro (h | h | h) <;> simp [h]
theorem put_split (d : Nat) : ∀ (r : List Demand), r.Pairwise (fun u v => u.day ≤ v.day) → ∃ D1 D2, r = D1 ++ D2 ∧ (∀ y ∈ D2, d ≤ y.day) ∧ ∀ x : Demand, x.day = d → putDemand x r = D1 ++ x :: D2
  | [], _ => ⟨[], [], rfl, by simp, fun _ _ => rfl⟩
  | z :: r, h => by
    obtain ⟨h1, h2⟩ := List.pairwise_cons.mp h
    by_cases hl : d < z.day
    · refine ⟨[], z :: r, rfl, fun y hy => ?_, fun x hx => ?_⟩
      · rcases List.mem_cons.mp hy with e | q
        · subst e; omega
        · have := h1 y q; omega
      · unfold putDemand
        rw [if_pos (by omega)]
        rfl
    · obtain ⟨D1, D2, e1, e2, e3⟩ := put_split d r h2
      refine ⟨z :: D1, D2, by rw [e1]; rfl, e2, fun x hx => ?_⟩
      unfold putDemand
      rw [if_neg (by omega), e3 x hx]
      rfl
theorem units_sorted : ∀ (ds : List Demand), ds.Pairwise (fun u v => u.day ≤ v.day) → (units ds).Pairwise (· ≤ ·)
  | [], _ => by simp [units]
  | x :: r, h => by
    obtain ⟨h1, h2⟩ := List.pairwise_cons.mp h
    show (List.replicate x.n x.day ++ units r).Pairwise (· ≤ ·)
    refine List.pairwise_append.mpr ⟨?_, units_sorted r h2, fun u hu v hv => ?_⟩
    · rw [List.pairwise_replicate]
      right; omega
    · rw [(List.mem_replicate.mp hu).2]
      obtain ⟨y, hy, hy2⟩ := List.mem_flatMap.mp hv
      rw [(List.mem_replicate.mp hy2).2]
      exact h1 y hy

/-! ### one demand more -/
theorem ord_mono {l : List Lot} {a i j : Nat} (hi : i ∈ ordOf l a) (hj : j ∈ ordOf l a) (h : pos (ordOf l a) i ≤ pos (ordOf l a) j) : lastOf l i ≤ lastOf l j := by
  unfold pos at h
  have hi' := List.idxOf_lt_length_iff.mpr hi
  have hj' := List.idxOf_lt_length_iff.mpr hj
  by_cases e : (ordOf l a).idxOf i = (ordOf l a).idxOf j
  · have : i = j := by
      have q1 := List.getElem_idxOf hi'
      have q2 := List.getElem_idxOf hj'
      rw [← q1, ← q2]
      simp only [e]
    rw [this]; exact Nat.le_refl _
  · have q := List.pairwise_iff_getElem.mp (ordOf_sorted l a) _ _ hi' hj' (by omega)
    rw [List.getElem_idxOf hi', List.getElem_idxOf hj'] at q
    unfold lotLt at q
    omega

def lackN (s : Stock) (a day n : Nat) : Nat := lacks (withDemand s a day n) a
theorem lackN_form (s : Stock) (a day : Nat) : ∃ (U1 U2 : List Nat), (∀ y ∈ U2, day ≤ y) ∧ U2.Pairwise (· ≤ ·) ∧
    lacks s a = (run (ordOf s.lots a) (cvr s.lots) (U1 ++ U2) (lf s.lots)).2 ∧
    ∀ n, lackN s a day n = (run (ordOf s.lots a) (cvr s.lots) (U1 ++ (List.replicate n day ++ U2)) (lf s.lots)).2 := by
  obtain ⟨D1, D2, e1, e2, e3⟩ := put_split day (demandsOf s a) (inOrder_sorted _)
  have hs := inOrder_sorted (s.demands.filter fun x => x.article == a)
  have hart : ∀ x ∈ demandsOf s a, x.article = a := fun x hx => by
    have := (mem_inOrder _ x).mp hx
    simpa using (List.mem_filter.mp this).2
  have e4 : ∀ xs ys, units (xs ++ ys) = units xs ++ units ys := fun xs ys => by simp [units]
  refine ⟨units D1, units D2, fun y hy => ?_, units_sorted D2 ?_, ?_, fun n => ?_⟩
  · obtain ⟨z, hz, hz2⟩ := List.mem_flatMap.mp hy
    rw [(List.mem_replicate.mp hz2).2]
    exact e2 z hz
  · have := inOrder_sorted (s.demands.filter fun x => x.article == a)
    rw [show inOrder (s.demands.filter fun x => x.article == a) = D1 ++ D2 from e1] at this
    exact (List.pairwise_append.mp this).2.1
  · show lackSum (planned s.lots (demandsOf s a)).1 = _
    rw [planned_run a _ _ hart, e1, e4]
  · have e5 : demandsOf (withDemand s a day n) a = D1 ++ (⟨s.given + 1, a, day, n⟩ : Demand) :: D2 := by
      unfold demandsOf withDemand
      dsimp only
      rw [List.filter_append, List.filter_cons, if_pos (by simp), List.filter_nil, inOrder_snoc]
      exact e3 _ rfl
    show lackSum (planned s.lots (demandsOf (withDemand s a day n) a)).1 = _
    rw [e5, planned_run a _ _ fun x hx => ?_, e4]
    · rfl
    · rcases List.mem_append.mp hx with q | q
      · exact hart x (by rw [e1]; exact List.mem_append_left _ q)
      · rcases List.mem_cons.mp q with q | q
        · rw [q]
        · exact hart x (by rw [e1]; exact List.mem_append_right _ q)
theorem lackN_zero (s : Stock) (a day : Nat) : lackN s a day 0 = lacks s a := by
  obtain ⟨U1, U2, _, _, h1, h2⟩ := lackN_form s a day
  rw [h1, h2]
  rfl
theorem lackN_convex (s : Stock) (a day n : Nat) : ∃ δ1 δ2, lackN s a day (n + 1) = lackN s a day n + δ1 ∧ lackN s a day (n + 2) = lackN s a day (n + 1) + δ2 ∧ δ1 ≤ δ2 ∧ δ2 ≤ 1 := by
  obtain ⟨U1, U2, h1, h2, _, h3⟩ := lackN_form s a day
  obtain ⟨δ1, δ2, a1, a2, a3, a4⟩ := convex (ordOf s.lots a) (cvr s.lots) (fun j => (lotAt s.lots j).come)
    (fun i hi j hj e hp hc hcj => by
      have := ord_mono hi hj hp
      unfold cvr covers at *
      simp only [Bool.and_eq_true, decide_eq_true_eq, lastOf] at *
      omega)
    (fun j e h => by
      unfold cvr covers at h
      simp only [Bool.and_eq_true, decide_eq_true_eq] at h
      exact h.1) day U2 h1 h2 n (run (ordOf s.lots a) (cvr s.lots) U1 (lf s.lots)).1
  refine ⟨δ1, δ2, ?_, ?_, a3, a4⟩
  · rw [h3, h3, run_append, run_append (ys := List.replicate n day ++ U2), a1]; omega
  · rw [h3, h3, run_append, run_append (ys := List.replicate (n + 1) day ++ U2), a2]; omega

/-! ### numbers that rise by 0 or 1, and once by 1 ever by 1: halving finds the edge -/
section
variable (L : Nat → Nat) (hL : ∀ n, ∃ δ1 δ2, L (n + 1) = L n + δ1 ∧ L (n + 2) = L (n + 1) + δ2 ∧ δ1 ≤ δ2 ∧ δ2 ≤ 1)
include hL
theorem rise1 (n : Nat) : L n ≤ L (n + 1) ∧ L (n + 1) ≤ L n + 1 := by
  obtain ⟨δ1, δ2, h1, h2, h3, h4⟩ := hL n; omega
theorem rise2 (n : Nat) (h : L (n + 1) = L n + 1) : L (n + 2) = L (n + 1) + 1 := by
  obtain ⟨δ1, δ2, h1, h2, h3, h4⟩ := hL n; omega
theorem mono : ∀ (k n : Nat), L n ≤ L (n + k)
  | 0, n => Nat.le_refl _
  | k + 1, n => Nat.le_trans (mono k n) (rise1 L hL (n + k)).1
theorem flat_upto {r : Nat} (h : L r ≤ L 0) {n : Nat} (hn : n ≤ r) : L n = L 0 := by
  have h1 := mono L hL n 0
  have h2 := mono L hL (r - n) n
  rw [show n + (r - n) = r by omega] at h2
  rw [Nat.zero_add] at h1
  omega
theorem after {r : Nat} (h : L r ≤ L 0) (h' : L 0 < L (r + 1)) : ∀ k, L (r + k) = L 0 + k
  | 0 => flat_upto L hL h (Nat.le_refl r)
  | 1 => by have := rise1 L hL r; have := flat_upto L hL h (Nat.le_refl r); omega
  | k + 2 => by
    have e1 := after h h' k
    have e2 := after h h' (k + 1)
    have := rise2 L hL (r + k) (by rw [show r + k + 1 = r + (k + 1) by omega]; omega)
    rw [show r + (k + 2) = r + k + 2 by omega, this, show r + k + 1 = r + (k + 1) by omega, e2]; omega
end

theorem bears_iff (s : Stock) (a day n : Nat) : bears s a day n = true ↔ lackN s a day n ≤ lackN s a day 0 := by
  rw [lackN_zero]
  unfold bears lackN
  simp
theorem spared_ok (s : Stock) (a day : Nat) : ∀ (k lo hi : Nat), lo ≤ hi → hi - lo < 2 ^ k → lackN s a day lo ≤ lackN s a day 0 → (∀ n, hi < n → n ≤ 1000 → lackN s a day 0 < lackN s a day n) →
    lo ≤ sparedFrom s a day k lo hi ∧ sparedFrom s a day k lo hi ≤ hi ∧ lackN s a day (sparedFrom s a day k lo hi) ≤ lackN s a day 0 ∧ ∀ n, sparedFrom s a day k lo hi < n → n ≤ 1000 → lackN s a day 0 < lackN s a day n
  | 0, lo, hi, h1, h2, h3, h4 => by
    unfold sparedFrom
    exact ⟨Nat.le_refl _, h1, h3, fun n hn => h4 n (by omega)⟩
  | k + 1, lo, hi, h1, h2, h3, h4 => by
    unfold sparedFrom
    by_cases hh : hi ≤ lo
    · rw [if_pos hh]
      exact ⟨Nat.le_refl _, h1, h3, fun n hn => h4 n (by omega)⟩
    · rw [if_neg hh]
      dsimp only
      by_cases hb : bears s a day ((lo + hi + 1) / 2) = true
      · rw [if_pos hb]
        have := spared_ok s a day k ((lo + hi + 1) / 2) hi (by omega) (by rw [Nat.pow_succ] at h2; omega) ((bears_iff s a day _).mp hb) h4
        exact ⟨by omega, this.2.1, this.2.2⟩
      · rw [if_neg hb]
        have hb' : lackN s a day 0 < lackN s a day ((lo + hi + 1) / 2) := by
          have := mt (bears_iff s a day _).mpr hb; omega
        have := spared_ok s a day k lo ((lo + hi + 1) / 2 - 1) (by omega) (by rw [Nat.pow_succ] at h2; omega) h3 fun n hn hn2 => by
          have m := mono _ (lackN_convex s a day) (n - (lo + hi + 1) / 2) ((lo + hi + 1) / 2)
          rw [show (lo + hi + 1) / 2 + (n - (lo + hi + 1) / 2) = n by omega] at m
          omega
        exact ⟨this.1, by omega, this.2.2⟩
/-- **spare**: what a demand of 1000 doses makes lack more, and spare, are 1000 together -/
theorem spare_eq (s : Stock) (a day : Nat) : lackN s a day 1000 = lacks s a + (1000 - spare s a day) ∧ spare s a day ≤ 1000 := by
  have h := spared_ok s a day 12 0 1000 (by omega) (by decide) (Nat.le_refl _) (fun _ h1 h2 => by omega)
  have e : sparedFrom s a day 12 0 1000 = spare s a day := rfl
  rw [e] at h
  refine ⟨?_, h.2.1⟩
  rw [← lackN_zero s a day]
  by_cases h1 : spare s a day = 1000
  · rw [h1] at h ⊢
    have := flat_upto _ (lackN_convex s a day) h.2.2.1 (Nat.le_refl _)
    omega
  · have := after _ (lackN_convex s a day) h.2.2.1 (h.2.2.2 (spare s a day + 1) (by omega) (by omega)) (1000 - spare s a day)
    rw [show spare s a day + (1000 - spare s a day) = 1000 by omega] at this
    exact this
end Vb
end
section
/-! Days that ask too much: the least set that is closed, by the specification's way and by another. -/
namespace Vb
open Vblaak
abbrev Sh := Demand × List (Nat × Nat) × Nat
def pulls (l : List Lot) (x : Sh) (D : List Nat) : Bool := x.2.1.any fun e => D.any fun d => cvr l e.1 d
theorem pulls_iff {l : List Lot} {x : Sh} {D : List Nat} : pulls l x D = true ↔ ∃ e ∈ x.2.1, ∃ d ∈ D, cvr l e.1 d = true := by
  unfold pulls
  simp only [List.any_eq_true]
inductive Reach (l : List Lot) (p : List Sh) : Nat → Prop
  | base {x : Sh} : x ∈ p → 0 < x.2.2 → Reach l p x.1.day
  | step {x : Sh} {e : Nat × Nat} {d : Nat} : x ∈ p → e ∈ x.2.1 → cvr l e.1 d = true → Reach l p d → Reach l p x.1.day
/-- what is closed and within reach is what can be reached -/
theorem reach_iff {l : List Lot} {p : List Sh} {D : List Nat} (h0 : ∀ x ∈ p, 0 < x.2.2 → x.1.day ∈ D) (hc : ∀ x ∈ p, pulls l x D = true → x.1.day ∈ D) (hr : ∀ d ∈ D, Reach l p d) (d : Nat) : d ∈ D ↔ Reach l p d := by
  refine ⟨hr d, fun h => ?_⟩
  induction h with
  | base hx h => exact h0 _ hx h
  | step hx he hcv _ ih => exact hc _ hx (pulls_iff.mpr ⟨_, he, _, ih, hcv⟩)

/-! ### the specification's way -/
theorem grown_eq (l : List Lot) (p : List Sh) (a : Nat) (D : List Nat) (hp : ∀ x ∈ p, ∀ e ∈ x.2.1, e.1 < l.length ∧ (lotAt l e.1).article = a) :
    grown l p a D = D ++ ((p.filter fun x => !D.contains x.1.day && pulls l x D).map fun x => x.1.day) := by
  unfold grown
  dsimp only
  congr 2
  refine List.filter_congr fun x hx => ?_
  congr 1
  rw [Bool.eq_iff_iff, pulls_iff, List.any_eq_true]
  constructor
  · rintro ⟨e, he, h⟩
    have h' : e.1 ∈ (List.range l.length).filter fun i => (lotAt l i).article == a && D.any fun d => covers (lotAt l i) d := by simpa using h
    obtain ⟨_, h2⟩ := List.mem_filter.mp h'
    rw [Bool.and_eq_true, List.any_eq_true] at h2
    obtain ⟨d, hd, hcv⟩ := h2.2
    exact ⟨e, he, d, hd, hcv⟩
  · rintro ⟨e, he, d, hd, hcv⟩
    refine ⟨e, he, ?_⟩
    have h' : e.1 ∈ (List.range l.length).filter fun i => (lotAt l i).article == a && D.any fun d => covers (lotAt l i) d := by
      refine List.mem_filter.mpr ⟨List.mem_range.mpr (hp x hx e he).1, ?_⟩
      rw [Bool.and_eq_true, List.any_eq_true]
      exact ⟨by simpa using (hp x hx e he).2, d, hd, hcv⟩
    simpa using h'
/-- how many of the demands' days are still out -/
def out (p : List Sh) (D : List Nat) : Nat := (p.filter fun x => decide (x.1.day ∉ D)).length
theorem out_le (p : List Sh) (D : List Nat) : out p D ≤ p.length := List.length_filter_le _ _
theorem out_cons (y : Sh) (r : List Sh) (D : List Nat) : out (y :: r) D = (if y.1.day ∈ D then 0 else 1) + out r D := by
  unfold out
  rw [List.filter_cons]
  by_cases q : y.1.day ∈ D
  · rw [if_pos q, if_neg (by simp [q])]; omega
  · rw [if_neg q, if_pos (by simp [q]), List.length_cons]; omega
theorem out_mono {D E : List Nat} (hs : ∀ d ∈ D, d ∈ E) : ∀ (p : List Sh), out p E ≤ out p D
  | [] => Nat.le_refl _
  | y :: r => by
    rw [out_cons, out_cons]
    have := out_mono hs r
    by_cases q : y.1.day ∈ D
    · rw [if_pos q, if_pos (hs _ q)]; omega
    · rw [if_neg q]; split <;> omega
theorem out_lt {D E : List Nat} (hs : ∀ d ∈ D, d ∈ E) {x : Sh} : ∀ {p : List Sh}, x ∈ p → x.1.day ∉ D → x.1.day ∈ E → out p E < out p D
  | [], hx, _, _ => by simp at hx
  | y :: r, hx, h1, h2 => by
    rw [out_cons, out_cons]
    have m := out_mono hs r
    rcases List.mem_cons.mp hx with e | q
    · subst e; rw [if_pos h2, if_neg h1]; omega
    · have := out_lt hs q h1 h2
      by_cases q : y.1.day ∈ D
      · rw [if_pos q, if_pos (hs _ q)]; omega
      · rw [if_neg q]; split <;> omega
theorem grownTo_closed (l : List Lot) (p : List Sh) (a : Nat) (hp : ∀ x ∈ p, ∀ e ∈ x.2.1, e.1 < l.length ∧ (lotAt l e.1).article = a) :
    ∀ (n : Nat) (D : List Nat), out p D < n → (∀ d ∈ D, Reach l p d) →
    (∀ d ∈ D, d ∈ grownTo l p a n D) ∧ (∀ x ∈ p, pulls l x (grownTo l p a n D) = true → x.1.day ∈ grownTo l p a n D) ∧ ∀ d ∈ grownTo l p a n D, Reach l p d
  | 0, _, h, _ => by omega
  | n + 1, D, h, hr => by
    unfold grownTo
    dsimp only
    rw [grown_eq l p a D hp]
    by_cases hl : (D ++ ((p.filter fun x => !D.contains x.1.day && pulls l x D).map fun x => x.1.day)).length = D.length
    · rw [if_pos hl]
      refine ⟨fun _ q => q, fun x hx hpull => ?_, hr⟩
      rw [List.length_append, List.length_map] at hl
      have hn : (p.filter fun x => !D.contains x.1.day && pulls l x D) = [] := List.eq_nil_of_length_eq_zero (by omega)
      have := List.filter_eq_nil_iff.mp hn x hx
      rw [hpull] at this
      simpa using this
    · rw [if_neg hl]
      have hne : (p.filter fun x => !D.contains x.1.day && pulls l x D) ≠ [] := fun q => hl (by rw [q]; simp)
      obtain ⟨x, hx⟩ := List.exists_mem_of_ne_nil _ hne
      obtain ⟨hxp, hx2⟩ := List.mem_filter.mp hx
      rw [Bool.and_eq_true] at hx2
      have hlt : out p (D ++ ((p.filter fun x => !D.contains x.1.day && pulls l x D).map fun x => x.1.day)) < out p D :=
        out_lt (fun d q => List.mem_append_left _ q) hxp (by simpa using hx2.1) (List.mem_append_right _ (List.mem_map.mpr ⟨x, hx, rfl⟩))
      obtain ⟨h1, h2, h3⟩ := grownTo_closed l p a hp n _ (by omega : out p (D ++ ((p.filter fun x => !D.contains x.1.day && pulls l x D).map fun x => x.1.day)) < n) fun d hd => by
        rcases List.mem_append.mp hd with q | q
        · exact hr d q
        · obtain ⟨y, hy, rfl⟩ := List.mem_map.mp q
          obtain ⟨hyp, hy2⟩ := List.mem_filter.mp hy
          rw [Bool.and_eq_true, pulls_iff] at hy2
          obtain ⟨_, e, he, d', hd', hcv⟩ := hy2
          exact .step hyp he hcv (hr d' hd')
      exact ⟨fun d q => h1 d (List.mem_append_left _ q), h2, h3⟩
theorem mem_putDay {x y : Nat} : ∀ {r : List Nat}, y ∈ putDay x r ↔ y = x ∨ y ∈ r
  | [] => by simp [putDay]
  | z :: r => by
    unfold putDay
    split
    · simp
    · split
      · rename_i _ h; subst h; simp
      · rw [List.mem_cons, mem_putDay (r := r), List.mem_cons]
        constructor
        · rintro (h | h | h) <;> simp [h]
        · rintro (h | h | h) <;> simp [h]
theorem sorted_putDay {x : Nat} : ∀ {r : List Nat}, r.Pairwise (· < ·) → (putDay x r).Pairwise (· < ·)
  | [], _ => by simp [putDay]
  | z :: r, h => by
    obtain ⟨h1, h2⟩ := List.pairwise_cons.mp h
    unfold putDay
    split
    · rename_i hl
      refine List.pairwise_cons.mpr ⟨fun y hy => ?_, h⟩
      rcases List.mem_cons.mp hy with e | q
      · subst e; exact hl
      · have := h1 y q; omega
    · split
      · exact h
      · refine List.pairwise_cons.mpr ⟨fun y hy => ?_, sorted_putDay h2⟩
        rcases mem_putDay.mp hy with e | q
        · subst e; omega
        · exact h1 y q
theorem fold_putDay : ∀ (xs acc : List Nat), acc.Pairwise (· < ·) → (xs.foldl (fun r d => putDay d r) acc).Pairwise (· < ·) ∧ ∀ y, y ∈ xs.foldl (fun r d => putDay d r) acc ↔ y ∈ acc ∨ y ∈ xs
  | [], acc, h => by simp [h]
  | x :: xs, acc, h => by
    rw [List.foldl_cons]
    obtain ⟨h1, h2⟩ := fold_putDay xs (putDay x acc) (sorted_putDay h)
    refine ⟨h1, fun y => ?_⟩
    rw [h2, mem_putDay, List.mem_cons]
    constructor
    · rintro ((h | h) | h) <;> simp [h]
    · rintro (h | h | h) <;> simp [h]

/-! ### what the plan takes of -/
theorem chunk_mem {cv : Nat → Bool} {f : Nat → Nat} : ∀ {r : List Nat} {n : Nat} {e : Nat × Nat}, e ∈ (chunk cv f r n).1 → e.1 ∈ r ∧ cv e.1 = true ∧ 0 < e.2 ∧ e.2 ≤ f e.1
  | [], _, _, h => by simp [chunk] at h
  | i :: r, n, e, h => by
    unfold chunk at h
    split at h
    · rename_i hc
      rcases List.mem_cons.mp h with q | q
      · subst q; exact ⟨by simp, hc.2, hc.1, Nat.min_le_right _ _⟩
      · obtain ⟨a, b⟩ := chunk_mem q; exact ⟨.tail _ a, b⟩
    · obtain ⟨a, b⟩ := chunk_mem h; exact ⟨.tail _ a, b⟩
theorem planned_took (a : Nat) : ∀ (ds : List Demand) (l : List Lot), (∀ x ∈ ds, x.article = a) → ∀ x ∈ (planned l ds).1, ∀ e ∈ x.2.1, e.1 < l.length ∧ (lotAt l e.1).article = a
  | [], _, _, x, hx, _, _ => by simp [planned] at hx
  | y :: r, l, h, x, hx, e, he => by
    unfold planned at hx
    rw [h y (by simp), served_eq] at hx
    dsimp only at hx
    rcases List.mem_cons.mp hx with q | q
    · subst q
      exact mem_ordOf.mp (chunk_mem he).1
    · have := planned_took a r _ (fun z hz => h z (.tail _ hz)) x q e he
      have st := lessened_stat (chunk (fun i => cvr l i y.day) (lf l) (ordOf l a) y.n).1 l
      rw [st.len, st.art] at this
      exact this
theorem planned_length : ∀ (ds : List Demand) (l : List Lot), (planned l ds).1.length = ds.length
  | [], _ => rfl
  | y :: r, l => by
    unfold planned
    dsimp only
    rw [List.length_cons, planned_length r, List.length_cons]
theorem demandsOf_article (s : Stock) (a : Nat) : ∀ x ∈ demandsOf s a, x.article = a := fun x hx => by
  have := (mem_inOrder _ x).mp hx
  simpa using (List.mem_filter.mp this).2
theorem putDemand_length (x : Demand) : ∀ r, (putDemand x r).length = r.length + 1
  | [] => rfl
  | y :: r => by
    unfold putDemand
    split
    · rfl
    · rw [List.length_cons, putDemand_length x r, List.length_cons]
theorem inOrder_length (ds : List Demand) : (inOrder ds).length = ds.length := by
  suffices ∀ (ds acc : List Demand), (ds.foldl (fun r x => putDemand x r) acc).length = acc.length + ds.length by
    have := this ds []
    unfold inOrder
    simpa using this
  intro ds
  induction ds with
  | nil => intro acc; rfl
  | cons x r ih =>
    intro acc
    rw [List.foldl_cons, ih, putDemand_length, List.length_cons]; omega
theorem demandsOf_length (s : Stock) (a : Nat) : (demandsOf s a).length ≤ s.demands.length := by
  unfold demandsOf
  rw [inOrder_length]
  exact List.length_filter_le _ _
/-- **tight**: rising, and just what can be reached -/
theorem tight_is (s : Stock) (a : Nat) (hd : s.demands.length < 100) : (tight s a).Pairwise (· < ·) ∧ ∀ d, d ∈ tight s a ↔ Reach s.lots (plan s a) d := by
  have hp := planned_took a (demandsOf s a) s.lots (demandsOf_article s a)
  have hlen : (plan s a).length ≤ s.demands.length := by
    unfold plan
    rw [planned_length]
    exact demandsOf_length s a
  have A := grownTo_closed s.lots (plan s a) a hp 100 (((plan s a).filter fun x => decide (0 < x.2.2)).map fun x => x.1.day) (by have := out_le (plan s a) (((plan s a).filter fun x => decide (0 < x.2.2)).map fun x => x.1.day); omega) fun d hd => by
    obtain ⟨x, hx, rfl⟩ := List.mem_map.mp hd
    obtain ⟨h1, h2⟩ := List.mem_filter.mp hx
    exact .base h1 (by simpa using h2)
  obtain ⟨h1, h2⟩ := fold_putDay (grownTo s.lots (plan s a) a 100 (((plan s a).filter fun (x : Sh) => decide (0 < x.2.2)).map fun (x : Sh) => x.1.day)) [] (by simp)
  refine ⟨h1, fun d => ?_⟩
  unfold tight
  dsimp only
  rw [h2]
  simp only [List.not_mem_nil, false_or]
  exact reach_iff (fun x hx hpos => A.1 _ (List.mem_map.mpr ⟨x, List.mem_filter.mpr ⟨hx, by simpa using hpos⟩, rfl⟩)) A.2.1 A.2.2 d

/-! ### another way: a list of days that grows at its end, demand by demand -/
def putKey (D : List Nat) (d : Nat) : List Nat := if d ∈ D then D else D ++ [d]
theorem mem_putKey {D : List Nat} {d y : Nat} : y ∈ putKey D d ↔ y ∈ D ∨ y = d := by
  unfold putKey
  split
  · rename_i h
    constructor
    · exact .inl
    · rintro (q | q)
      · exact q
      · subst q; exact h
  · simp
theorem nodup_putKey {D : List Nat} {d : Nat} (h : D.Nodup) : (putKey D d).Nodup := by
  unfold putKey
  split
  · exact h
  · rename_i q
    rw [List.nodup_append]
    refine ⟨h, by simp, fun x hx y hy => ?_⟩
    rw [List.mem_singleton.mp hy]
    intro e; subst e; exact q hx
def base0 (p : List Sh) (D : List Nat) : List Nat := p.foldl (fun D x => if 0 < x.2.2 then putKey D x.1.day else D) D
def passD (l : List Lot) (p : List Sh) (D : List Nat) : List Nat := p.foldl (fun D x => if pulls l x D = true then putKey D x.1.day else D) D
theorem base0_is : ∀ (p : List Sh) (D : List Nat), D.Nodup → (base0 p D).Nodup ∧ ∀ d, d ∈ base0 p D ↔ d ∈ D ∨ ∃ x ∈ p, 0 < x.2.2 ∧ x.1.day = d
  | [], D, h => by simp [base0, h]
  | x :: r, D, h => by
    show (base0 r (if 0 < x.2.2 then putKey D x.1.day else D)).Nodup ∧ _
    by_cases hx : 0 < x.2.2
    · rw [if_pos hx]
      obtain ⟨h1, h2⟩ := base0_is r (putKey D x.1.day) (nodup_putKey h)
      refine ⟨h1, fun d => ?_⟩
      show d ∈ base0 r (if 0 < x.2.2 then putKey D x.1.day else D) ↔ _
      rw [if_pos hx, h2, mem_putKey]
      constructor
      · rintro ((q | q) | ⟨y, hy, q⟩)
        · exact .inl q
        · exact .inr ⟨x, by simp, hx, q.symm⟩
        · exact .inr ⟨y, .tail _ hy, q⟩
      · rintro (q | ⟨y, hy, q⟩)
        · exact .inl (.inl q)
        · rcases List.mem_cons.mp hy with e | hy
          · subst e; exact .inl (.inr q.2.symm)
          · exact .inr ⟨y, hy, q⟩
    · rw [if_neg hx]
      obtain ⟨h1, h2⟩ := base0_is r D h
      refine ⟨h1, fun d => ?_⟩
      show d ∈ base0 r (if 0 < x.2.2 then putKey D x.1.day else D) ↔ _
      rw [if_neg hx, h2]
      constructor
      · rintro (q | ⟨y, hy, q⟩)
        · exact .inl q
        · exact .inr ⟨y, .tail _ hy, q⟩
      · rintro (q | ⟨y, hy, q⟩)
        · exact .inl q
        · rcases List.mem_cons.mp hy with e | hy
          · subst e; exact (hx q.1).elim
          · exact .inr ⟨y, hy, q⟩
/-- a pass: what was there stays, nothing is twice, what comes is within reach; and if nothing comes it is closed -/
theorem passD_is (l : List Lot) (p0 : List Sh) : ∀ (p : List Sh) (D : List Nat), (∀ x ∈ p, x ∈ p0) → D.Nodup → (∀ d ∈ D, Reach l p0 d) →
    (passD l p D).Nodup ∧ (∀ d ∈ passD l p D, Reach l p0 d) ∧ (∃ m, passD l p D = D ++ m ∧ ∀ d ∈ m, ∃ x ∈ p, x.1.day = d) ∧ ((passD l p D).length = D.length → ∀ x ∈ p, pulls l x D = true → x.1.day ∈ D)
  | [], D, _, h, hr => ⟨h, hr, ⟨[], by simp [passD], by simp⟩, by simp⟩
  | x :: r, D, hsub, h, hr => by
    have hsub' : ∀ y ∈ r, y ∈ p0 := fun y hy => hsub y (.tail _ hy)
    have e0 : passD l (x :: r) D = passD l r (if pulls l x D = true then putKey D x.1.day else D) := rfl
    rw [e0]
    by_cases hx : pulls l x D = true
    · rw [if_pos hx]
      obtain ⟨h1, h2, ⟨m, h3, h3'⟩, h4⟩ := passD_is l p0 r (putKey D x.1.day) hsub' (nodup_putKey h) fun d hd => by
        rcases mem_putKey.mp hd with q | q
        · exact hr d q
        · subst q
          obtain ⟨e, he, d', hd', hcv⟩ := pulls_iff.mp hx
          exact .step (hsub x (by simp)) he hcv (hr d' hd')
      by_cases hin : x.1.day ∈ D
      · have ek : putKey D x.1.day = D := by unfold putKey; rw [if_pos hin]
        rw [ek] at h1 h2 h3 h4 ⊢
        refine ⟨h1, h2, ⟨m, h3, fun d hd => ?_⟩, fun hl y hy hpull => ?_⟩
        · obtain ⟨y, hy, e⟩ := h3' d hd
          exact ⟨y, .tail _ hy, e⟩
        · rcases List.mem_cons.mp hy with e | hy
          · subst e; exact hin
          · exact h4 hl y hy hpull
      · have ek : putKey D x.1.day = D ++ [x.1.day] := by unfold putKey; rw [if_neg hin]
        rw [ek] at h1 h2 h3 h4 ⊢
        refine ⟨h1, h2, ⟨x.1.day :: m, by rw [h3]; simp, fun d hd => ?_⟩, fun hl => ?_⟩
        · rcases List.mem_cons.mp hd with e | hd
          · exact ⟨x, by simp, e.symm⟩
          · obtain ⟨y, hy, e⟩ := h3' d hd
            exact ⟨y, .tail _ hy, e⟩
        · rw [h3] at hl
          simp at hl
    · rw [if_neg hx]
      obtain ⟨h1, h2, ⟨m, h3, h3'⟩, h4⟩ := passD_is l p0 r D hsub' h hr
      refine ⟨h1, h2, ⟨m, h3, fun d hd => ?_⟩, fun hl y hy hpull => ?_⟩
      · obtain ⟨y, hy, e⟩ := h3' d hd
        exact ⟨y, .tail _ hy, e⟩
      · rcases List.mem_cons.mp hy with e | hy
        · subst e; exact (hx hpull).elim
        · exact h4 hl y hy hpull
/-- a pass that brings something brings some demand's day that was out -/
theorem passD_out {l : List Lot} {p : List Sh} {D : List Nat} (h : D.Nodup) (hr : ∀ d ∈ D, Reach l p d) (hl : (passD l p D).length ≠ D.length) : out p (passD l p D) < out p D := by
  obtain ⟨h1, _, ⟨m, h3, h3'⟩, _⟩ := passD_is l p p D (fun _ q => q) h hr
  cases m with
  | nil => rw [h3] at hl; simp at hl
  | cons d m =>
    obtain ⟨x, hx, e⟩ := h3' d (by simp)
    refine out_lt (fun y hy => by rw [h3]; exact List.mem_append_left _ hy) hx (fun q => ?_) (by rw [h3, e]; simp)
    rw [h3, List.nodup_append] at h1
    exact h1.2.2 _ q d (by simp) e
/-- whoever ends with a closed list of days within reach, sorted, has tight -/
theorem tight_of (s : Stock) (a : Nat) (hd : s.demands.length < 100) {T : List Nat} (hs : T.Pairwise (· < ·)) (h0 : ∀ x ∈ plan s a, 0 < x.2.2 → x.1.day ∈ T) (hc : ∀ x ∈ plan s a, pulls s.lots x T = true → x.1.day ∈ T) (hr : ∀ d ∈ T, Reach s.lots (plan s a) d) : T = tight s a := by
  obtain ⟨h1, h2⟩ := tight_is s a hd
  exact uniq (fun x y p q => by omega) hs h1 fun z => (reach_iff h0 hc hr z).trans (h2 z).symm
end Vb
end
section
/-! The plan as the program makes it, over plain lists; that it is the specification's. -/
namespace Vb
open Vblaak
theorem chunk_cons (cv : Nat → Bool) (f : Nat → Nat) (i : Nat) (r : List Nat) (n : Nat) : chunk cv f (i :: r) n = if 0 < min n (f i) ∧ cv i = true then ((i, min n (f i)) :: (chunk cv f r (n - min n (f i))).1, (chunk cv f r (n - min n (f i))).2) else chunk cv f r n := rfl
theorem chunk_append (cv : Nat → Bool) (f : Nat → Nat) (ys : List Nat) : ∀ (xs : List Nat) (n : Nat), chunk cv f (xs ++ ys) n = ((chunk cv f xs n).1 ++ (chunk cv f ys (chunk cv f xs n).2).1, (chunk cv f ys (chunk cv f xs n).2).2)
  | [], n => by simp [chunk]
  | i :: r, n => by
    rw [List.cons_append, chunk_cons, chunk_cons]
    by_cases h : 0 < min n (f i) ∧ cv i = true
    · rw [if_pos h, if_pos h, chunk_append cv f ys r]
      rfl
    · rw [if_neg h, if_neg h, chunk_append cv f ys r]
theorem chunk_one (cv : Nat → Bool) (f : Nat → Nat) (i n : Nat) : chunk cv f [i] n = if 0 < min n (f i) ∧ cv i = true then ([(i, min n (f i))], n - min n (f i)) else ([], n) := by
  unfold chunk
  split <;> simp [chunk]
def tsum (ts : List (Nat × Nat)) : Nat := (ts.map Prod.snd).sum
theorem chunk_sum (cv : Nat → Bool) (f : Nat → Nat) : ∀ (r : List Nat) (n : Nat), tsum (chunk cv f r n).1 + (chunk cv f r n).2 = n
  | [], n => by simp [chunk, tsum]
  | i :: r, n => by
    unfold chunk
    split
    · have := chunk_sum cv f r (n - min n (f i))
      unfold tsum at *
      simp only [List.map_cons, List.sum_cons]
      omega
    · exact chunk_sum cv f r n
theorem chunk_len (cv : Nat → Bool) (f : Nat → Nat) : ∀ (r : List Nat) (n : Nat), (chunk cv f r n).1.length ≤ r.length
  | [], n => by simp [chunk]
  | i :: r, n => by
    unfold chunk
    split
    · have := chunk_len cv f r (n - min n (f i))
      simp only [List.length_cons]; omega
    · have := chunk_len cv f r n
      simp only [List.length_cons]; omega
def mplan (ord : List Nat) (cv : Nat → Nat → Bool) : (Nat → Nat) → List Demand → List Sh
  | _, [] => []
  | f, x :: r => (x, chunk (fun i => cv i x.day) f ord x.n) :: mplan ord cv (subs f (chunk (fun i => cv i x.day) f ord x.n).1) r
def mleft (ord : List Nat) (cv : Nat → Nat → Bool) : (Nat → Nat) → List Demand → Nat → Nat
  | f, [] => f
  | f, x :: r => mleft ord cv (subs f (chunk (fun i => cv i x.day) f ord x.n).1) r
theorem mplan_eq (a : Nat) : ∀ (ds : List Demand) (l : List Lot), (∀ x ∈ ds, x.article = a) → (planned l ds).1 = mplan (ordOf l a) (cvr l) (lf l) ds
  | [], l, _ => rfl
  | x :: r, l, h => by
    unfold planned mplan
    rw [h x (by simp), served_eq]
    dsimp only
    have st := lessened_stat (chunk (fun i => cvr l i x.day) (lf l) (ordOf l a) x.n).1 l
    rw [mplan_eq a r _ fun y hy => h y (.tail _ hy), ordOf_stat st, cvr_stat st, lf_lessened]
theorem mleft_eq (a : Nat) : ∀ (ds : List Demand) (l : List Lot), (∀ x ∈ ds, x.article = a) → lf (planned l ds).2 = mleft (ordOf l a) (cvr l) (lf l) ds ∧ Stat l (planned l ds).2
  | [], l, _ => ⟨rfl, Stat.refl l⟩
  | x :: r, l, h => by
    unfold planned mleft
    rw [h x (by simp), served_eq]
    dsimp only
    have st := lessened_stat (chunk (fun i => cvr l i x.day) (lf l) (ordOf l a) x.n).1 l
    obtain ⟨h1, h2⟩ := mleft_eq a r (lessened l (chunk (fun i => cvr l i x.day) (lf l) (ordOf l a) x.n).1) fun y hy => h y (.tail _ hy)
    rw [h1, ordOf_stat st, cvr_stat st, lf_lessened]
    exact ⟨rfl, st.trans h2⟩
theorem mplan_snoc (ord : List Nat) (cv : Nat → Nat → Bool) (x : Demand) : ∀ (ds : List Demand) (f : Nat → Nat), mplan ord cv f (ds ++ [x]) = mplan ord cv f ds ++ [(x, chunk (fun i => cv i x.day) (mleft ord cv f ds) ord x.n)] ∧
    mleft ord cv f (ds ++ [x]) = subs (mleft ord cv f ds) (chunk (fun i => cv i x.day) (mleft ord cv f ds) ord x.n).1
  | [], f => ⟨rfl, rfl⟩
  | y :: r, f => by
    obtain ⟨h1, h2⟩ := mplan_snoc ord cv x r (subs f (chunk (fun i => cv i y.day) f ord y.n).1)
    refine ⟨?_, ?_⟩
    · rw [List.cons_append]
      unfold mplan
      rw [h1]
      rfl
    · rw [List.cons_append]
      unfold mleft
      exact h2
theorem subs_append (ys : List (Nat × Nat)) : ∀ (xs : List (Nat × Nat)) (f : Nat → Nat), subs f (xs ++ ys) = subs (subs f xs) ys
  | [], f => rfl
  | x :: r, f => subs_append ys r (sub1 f x.1 x.2)
/-! ### the order of demands -/
def demLt (x y : Demand) : Prop := x.day < y.day ∨ (x.day = y.day ∧ x.num < y.num)
theorem demLt_asym (x y : Demand) (h1 : demLt x y) (h2 : demLt y x) : False := by unfold demLt at *; omega
theorem sorted_putDemand' {x : Demand} : ∀ {r : List Demand}, r.Pairwise demLt → (∀ y ∈ r, y.num < x.num) → (putDemand x r).Pairwise demLt
  | [], _, _ => by simp [putDemand]
  | z :: r, h, hlt => by
    obtain ⟨h1, h2⟩ := List.pairwise_cons.mp h
    unfold putDemand
    split
    · rename_i hl
      refine List.pairwise_cons.mpr ⟨fun y hy => ?_, h⟩
      rcases List.mem_cons.mp hy with e | q
      · subst e; exact .inl hl
      · have := h1 y q
        unfold demLt at *; omega
    · rename_i hl
      refine List.pairwise_cons.mpr ⟨fun y hy => ?_, sorted_putDemand' h2 fun y hy => hlt y (.tail _ hy)⟩
      rcases mem_putDemand.mp hy with e | q
      · subst e
        have := hlt z (by simp)
        unfold demLt; omega
      · exact h1 y q
/-- demands that are told with rising numbers, in order: by days, then numbers -/
theorem inOrder_lt (ds : List Demand) (h : ds.Pairwise fun x y => x.num < y.num) : (inOrder ds).Pairwise demLt := by
  suffices ∀ (ds acc : List Demand), ds.Pairwise (fun x y => x.num < y.num) → acc.Pairwise demLt → (∀ x ∈ acc, ∀ y ∈ ds, x.num < y.num) → (ds.foldl (fun r x => putDemand x r) acc).Pairwise demLt from this ds [] h (by simp) (by simp)
  intro ds
  induction ds with
  | nil => exact fun acc _ h _ => h
  | cons x r ih =>
    intro acc hp h hl
    obtain ⟨h1, h2⟩ := List.pairwise_cons.mp hp
    refine ih _ h2 (sorted_putDemand' h fun y hy => hl y hy x (by simp)) fun y hy z hz => ?_
    rcases mem_putDemand.mp hy with e | q
    · subst e; exact h1 z hz
    · exact hl y q z (.tail _ hz)
end Vb
end
section
/-! Vials: at most one open vial has anything left. -/
namespace Vb
open Vblaak
def openOf (last left : Nat) : List Vial := if left = 0 then [] else [⟨last, left⟩]
theorem openOf_zero (last : Nat) : openOf last 0 = [] := rfl
theorem openOf_pos {last left : Nat} (h : 0 < left) : openOf last left = [⟨last, left⟩] := by unfold openOf; rw [if_neg (by omega)]
theorem doses_one (m life day n : Nat) (last left : Nat) (opened : List Nat) (h : 0 < left) : doses m life day (n + 1) (openOf last left) opened = doses m life day n (openOf last (left - 1)) opened := by
  rw [openOf_pos h]
  show doses m life day n (if left ≤ 1 then [] else [⟨last, left - 1⟩]) opened = _
  unfold openOf
  by_cases h1 : left ≤ 1
  · rw [if_pos h1, if_pos (by omega)]
  · rw [if_neg h1, if_neg (by omega)]
theorem doses_some (m life day last : Nat) (opened : List Nat) : ∀ (k left n : Nat), k ≤ left → k ≤ n → doses m life day n (openOf last left) opened = doses m life day (n - k) (openOf last (left - k)) opened
  | 0, left, n, _, _ => rfl
  | k + 1, left, n, h1, h2 => by
    obtain ⟨n, rfl⟩ : ∃ n', n = n' + 1 := ⟨n - 1, by omega⟩
    rw [doses_one _ _ _ _ _ _ _ (by omega), doses_some m life day last opened k (left - 1) n (by omega) (by omega)]
    congr 1
    · omega
    · congr 1; omega
theorem doses_open (m life day n last : Nat) (opened : List Nat) (hm : 0 < m) (hn : 0 < n) : doses m life day n (openOf last 0) opened = doses m life day n (openOf (day + life - 1) m) (opened ++ [day]) := by
  obtain ⟨n, rfl⟩ : ∃ n', n = n' + 1 := ⟨n - 1, by omega⟩
  rw [doses_one _ _ _ _ _ _ _ hm, openOf_zero]
  show doses m life day n (if m = 1 then [] else [⟨day + life - 1, m - 1⟩]) (opened ++ [day]) = _
  unfold openOf
  by_cases h : m = 1
  · rw [if_pos h, if_pos (by omega)]
  · rw [if_neg h, if_neg (by omega)]
theorem openOf_filter (day last left : Nat) : (openOf last left).filter (fun v => decide (day ≤ v.last)) = openOf last (if day ≤ last then left else 0) := by
  unfold openOf
  by_cases h : left = 0
  · rw [if_pos h]; subst h; split <;> simp
  · rw [if_neg h]
    by_cases h1 : day ≤ last
    · simp [h1, h]
    · simp [h1]
/-- what the day before the j-th left -/
theorem opening_cons (m life day last left n : Nat) (r : List Nat) : opening m life day (openOf last left) (n :: r) =
    (doses m life day n (openOf last (if day ≤ last then left else 0)) []).2 ++ opening m life (day + 1) (doses m life day n (openOf last (if day ≤ last then left else 0)) []).1 r := by
  show (doses m life day n ((openOf last left).filter fun v => decide (day ≤ v.last)) []).2 ++ opening m life (day + 1) (doses m life day n ((openOf last left).filter fun v => decide (day ≤ v.last)) []).1 r = _
  rw [openOf_filter]
end Vb
end
section
/-! What every def of the text leans on: the text by places, calls in short, lots and demands on the heap. -/
namespace Rs
open PySem PySem.Spec PyProof.Rows L2
open Vblaak (Lot Demand)

def top (i : Nat) : Stmt := PySem.Challenge.pw_reagentstock_s01_answers.main.body.getD i (.Pass ⟨0, 0, 0, 0⟩)

/-! ### what a def of the text is worth -/
section
variable (P : Program) (w : World) (K : PySem.W.Frag) (mg : Str → Option Value) (base : Heap)
def Ok (k : Nat) (x : Str) (ps : List Str) (sp : Sp) : Prop := ∃ f fd, FnOk P w K mg base CX0 k f fd ps sp ∧ mg x = some (.ref f) ∧ PySem.W.keepIn K (.ref f) = true ∧ Binds K fd ps []
def OkM (C : Addr) (k : Nat) (m : Str) (ps : List Str) (sp : Sp) : Prop := ∃ f fd, FnOk P w K mg base CX0 k f fd ps sp ∧ Meth K C m f ∧ Binds K fd ps []
def OkC (C : Addr) (k : Nat) (x : Str) (ps : List Str) (sp : Sp) : Prop := ∃ f fd, FnOk P w K mg base CX0 k f fd ps sp ∧ mg x = some (.ref C) ∧ Mk K C f ∧ Binds K fd ps []
/-- a def as it stands behind the top -/
structure Has (x : Str) (st : Stmt) (ps : List Str) : Prop where
  ex : ∃ f fd, Fun K x x st f fd ∧ Binds K fd ps [] ∧ mg x = some (.ref f)
structure HasM (C : Addr) (x qual : Str) (st : Stmt) (ps : List Str) : Prop where
  ex : ∃ f fd, Fun K x qual st f fd ∧ Binds K fd ps [] ∧ Meth K C x f
structure HasC (C : Addr) (x qual : Str) (st : Stmt) (ps : List Str) : Prop where
  ex : ∃ f fd, Fun K "__init__" qual st f fd ∧ Binds K fd ps [] ∧ Mk K C f ∧ mg x = some (.ref C)
end
section
variable {P : Program} {w : World} {K : PySem.W.Frag} {mg : Str → Option Value} {base : Heap} {x qual : Str} {st : Stmt} {N ps : List Str} {k : Nat} {sp : Sp} {C : Addr}
/-- a def's body by its term and its reading -/
theorem Has.ok (h : Has K mg x st ps) (S : FnScope N ps (defScope st)) (len : ∀ vs H Q E, sp vs H Q E → vs.length = ps.length)
    (hbody : ∀ (f : Addr) (cdv : Value) (A : Around) (outer : List Env) (s : Shared) (H : Hp) (vs : List V) (Q : VK) (E : XK), Room k (A.deeper (envOfC x (defScope st) s.heap.objs.size f cdv)) → sp vs H Q E →
      ∃ t, PSs (cxOf CX0 P w K mg base N x (defScope st) f cdv A outer s H E).nox (defBody st) t ∧ t { nx := fun _ H' => Q .non H', rt := Q } (start N vs) H) : Ok P w K mg base (k + 1) x ps sp := by
  obtain ⟨f, fd, F, b, m⟩ := h.ex
  exact ⟨f, fd, F.ok S len (hbody f), m, F.kp, b⟩
theorem HasM.ok (h : HasM K C x qual st ps) (S : FnScope N ps (defScope st)) (len : ∀ vs H Q E, sp vs H Q E → vs.length = ps.length)
    (hbody : ∀ (f : Addr) (cdv : Value) (A : Around) (outer : List Env) (s : Shared) (H : Hp) (vs : List V) (Q : VK) (E : XK), Room k (A.deeper (envOfC qual (defScope st) s.heap.objs.size f cdv)) → sp vs H Q E →
      ∃ t, PSs (cxOf CX0 P w K mg base N qual (defScope st) f cdv A outer s H E).nox (defBody st) t ∧ t { nx := fun _ H' => Q .non H', rt := Q } (start N vs) H) : OkM P w K mg base C (k + 1) x ps sp := by
  obtain ⟨f, fd, F, b, m⟩ := h.ex
  exact ⟨f, fd, F.ok S len (hbody f), m, b⟩
theorem HasC.ok (h : HasC K mg C x qual st ps) (S : FnScope N ps (defScope st)) (len : ∀ vs H Q E, sp vs H Q E → vs.length = ps.length)
    (hbody : ∀ (f : Addr) (cdv : Value) (A : Around) (outer : List Env) (s : Shared) (H : Hp) (vs : List V) (Q : VK) (E : XK), Room k (A.deeper (envOfC qual (defScope st) s.heap.objs.size f cdv)) → sp vs H Q E →
      ∃ t, PSs (cxOf CX0 P w K mg base N qual (defScope st) f cdv A outer s H E).nox (defBody st) t ∧ t { nx := fun _ H' => Q .non H', rt := Q } (start N vs) H) : OkC P w K mg base C (k + 1) x ps sp := by
  obtain ⟨f, fd, F, b, m, g⟩ := h.ex
  exact ⟨f, fd, F.ok S len (hbody f), g, m, b⟩
end
section
variable {X : Cx} {k : Nat} {x m : Str} {ps : List Str} {sp : Sp} {C : Addr} {p pos apos : Pos} {e o : Expr} {es : List Expr} {t : TA} {ta : TE}
theorem pe_ok (F : Ok X.prog X.w X.K X.mg X.base k x ps sp) (hr : Room k X.A) (ha : PA X (e :: es) t) (hg : Gl X x := by rfl) (hdb : (x == ("__debug__" : Str)) = false := by decide) (he : starEach (e :: es) X.env = (false, eval e X.env) :: starEach es X.env := by rfl) (hpl : (backTo pos (starEach es X.env)).any (·.1) = false := by rfl) :
    PE X (.Call (.Name x p) (e :: es) [] pos) (tCall sp [] E0 t) := by
  obtain ⟨f, fd, F, hm, hk, hb⟩ := F
  exact pe_call F hr hg hm hk hb .nil pass0 ha hdb he hpl
theorem pe_okC (F : OkC X.prog X.w X.K X.mg X.base C k x ps sp) (hr : Room (k + 1) X.A) (ha : PA X (e :: es) t) (hg : Gl X x := by rfl) (hdb : (x == ("__debug__" : Str)) = false := by decide) (he : starEach (e :: es) X.env = (false, eval e X.env) :: starEach es X.env := by rfl) (hpl : (backTo pos (starEach es X.env)).any (·.1) = false := by rfl) :
    PE X (.Call (.Name x p) (e :: es) [] pos) (tMake C sp [] E0 t) := by
  obtain ⟨f, fd, F, hm, hk, hb⟩ := F
  exact pe_make hk F hr hg hm hb .nil pass0 ha hdb he hpl
theorem pe_sortOk {fx nm : Str} {q kp : Pos} (F : Ok X.prog X.w X.K X.mg X.base k fx [nm] sp) (hr : Room (k + 2) X.A) (hms : X.mg "sorted" = none) (ha : PE X e ta)
    (hg : Gl X "sorted" := by rfl) (hgf : Gl X fx := by rfl) (hdb : (fx == ("__debug__" : Str)) = false := by decide) (hs1 : starEach [e] X.env = [(false, eval e X.env)] := by rfl) :
    PE X (.Call (.Name "sorted" p) [e] [⟨some "key", .Name fx q, kp⟩] pos) (tSortK X.K sp ta) := by
  obtain ⟨f, fd, F, hm, hk, hb⟩ := F
  exact pe_sortK F hb hr hm hms ha hg hgf hdb hs1
end

/-! ### lots and demands on the heap -/
abbrev lotF (n : Nat) (x : Lot) : List (Str × V) := [("number", .int n), ("article", .int x.article), ("comes", .int x.come), ("last", .int x.last), ("left", .int x.left), ("had", .int x.had)]
abbrev demF (d : Demand) : List (Str × V) := [("number", .int d.num), ("article", .int d.article), ("day", .int d.day), ("doses", .int d.n)]
def LotAt (C : Addr) (H : Hp) (p : Addr) (n : Nat) (x : Lot) : Prop := ∃ dx, H p = some (.ins C dx (lotF n x))
def DemAt (C : Addr) (H : Hp) (p : Addr) (d : Demand) : Prop := ∃ dx, H p = some (.ins C dx (demF d))
theorem LotAt.same {C : Addr} {H H' : Hp} {p : Addr} {n : Nat} {x : Lot} (h : LotAt C H p n x) (s : Same H H') : LotAt C H' p n x := let ⟨dx, e⟩ := h; ⟨dx, s _ _ e⟩
theorem DemAt.same {C : Addr} {H H' : Hp} {p : Addr} {d : Demand} (h : DemAt C H p d) (s : Same H H') : DemAt C H' p d := let ⟨dx, e⟩ := h; ⟨dx, s _ _ e⟩
/-- the list at a holds what was taken: pairs of a lot's object (pa: by its number) and how many -/
def TakAt (H : Hp) (pa : Nat → Addr) (a : Addr) (ts : List (Nat × Nat)) : Prop :=
  ∃ zs : List (Addr × Nat × Nat), H a = some (.lst (zs.map fun z => V.ref z.1)) ∧ zs.map Prod.snd = ts ∧ ∀ z ∈ zs, H z.1 = some (.tup [.ref (pa z.2.1), .int z.2.2])
theorem TakAt.same {H H' : Hp} {pa : Nat → Addr} {a : Addr} {ts : List (Nat × Nat)} (h : TakAt H pa a ts) (s : Same H H') : TakAt H' pa a ts := let ⟨zs, h1, h2, h3⟩ := h; ⟨zs, s _ _ h1, h2, fun z hz => s _ _ (h3 z hz)⟩
/-- days, as a list or as a dict's keys -/
def DaysAt (H : Hp) (a : Addr) (ds : List Nat) : Prop := H a = some (.lst (ds.map fun (d : Nat) => V.int d)) ∨ ∃ kvs, H a = some (.dK kvs) ∧ kvs.map Prod.fst = ds.map fun (d : Nat) => Sum.inl (d : Int)
structure ClsF (K : PySem.W.Frag) (C : Addr) (fs : List Str) : Prop where
  cl : Cls K C
  no : ∀ f ∈ fs, NoAttr K C f
abbrev LOTF : List Str := ["number", "article", "comes", "last", "left", "had"]
abbrev DEMF : List Str := ["number", "article", "day", "doses"]
abbrev SHAF : List Str := ["demand", "taken", "lacks"]
abbrev BLTS : List Str := ["sum", "any", "sorted", "min", "len"]
structure Txt (K : PySem.W.Frag) (mg : Str → Option Value) (CL CD CS : Addr) : Prop where
  lot : ClsF K CL LOTF
  dem : ClsF K CD DEMF
  sha : ClsF K CS SHAF
  blt : ∀ x ∈ BLTS, mg x = none
theorem same_unlock {H H' : Hp} {d : Addr} {u : HO} {od : Obj} (h : H d = some u) (s : Same (upd H d (.frz od u)) H') : Same H (upd H' d u) := fun b o e => by
  by_cases hb : b = d
  · subst hb; rw [upd_same, ← h]; exact e
  · rw [upd_ne hb]; exact s b o (by rw [upd_ne hb]; exact e)
theorem boot_any' : bootBuiltins "any" = some (.builtin "any") := by decide +kernel
theorem boot_min' : bootBuiltins "min" = some (.builtin "min") := by decide +kernel
theorem int_sum (l : List Nat) : (l.map fun (n : Nat) => (n : Int)).sum = ((l.sum : Nat) : Int) := by
  induction l with
  | nil => rfl
  | cons a r ih => rw [List.map_cons, List.sum_cons, List.sum_cons, ih]; omega
end Rs
end
section
set_option maxHeartbeats 1000000
namespace Rs
open PySem PySem.Spec PyProof.Rows L2
open Vblaak (Lot Demand)
section
variable {P : Program} {w : World} {K : PySem.W.Frag} {mg : Str → Option Value} {base : Heap} {CL CD CS : Addr}
/-! is_good_on -/
abbrev sGood : Stmt := top 5
def spGood (CL : Addr) : Sp := fun vs H Q _ => ∃ p n x, ∃ day : Nat, vs = [.ref p, .int day] ∧ LotAt CL H p n x ∧ Q (.bl (Vblaak.covers x day)) H
theorem scGood : FnScope ["lot", "day"] ["lot", "day"] (defScope sGood) := ⟨rfl, rfl, rfl, by decide +kernel, rfl, by decide +kernel, by decide +kernel⟩
theorem ok_good (h : Has K mg "is_good_on" sGood ["lot", "day"]) (T : Txt K mg CL CD CS) : Ok P w K mg base 1 "is_good_on" ["lot", "day"] (spGood CL) := by
  refine h.ok scGood (fun vs H Q E h => ?_) (fun f cdv A outer s H vs Q E hr h => ?_)
  · obtain ⟨p, n, x, day, rfl, _⟩ := h
    rfl
  · obtain ⟨p, n, x, day, rfl, ⟨dx, hp⟩, k⟩ := h
    refine ⟨_, pss_one (ps_ret (pe_chain op_le op_le (pe_fld (pv 0) rfl) (pv 1) (pe_fld (pv 0) rfl))), ?_⟩
    refine ⟨_, rfl, p, CL, dx, _, _, rfl, hp, T.lot.cl, T.lot.no _ (by decide), rfl, _, rfl, _, _, rfl, rfl, _, rfl, ?_⟩
    unfold Vblaak.covers at k
    refine ite2 (fun h1 => ?_) fun h1 => ?_
    · refine ⟨_, rfl, p, CL, dx, _, _, rfl, hp, T.lot.cl, T.lot.no _ (by decide), rfl, _, _, rfl, rfl, ?_⟩
      have e : (decide ((day : Int) ≤ (x.last : Int))) = (decide (x.come ≤ day) && decide (day ≤ x.last)) := by
        have : x.come ≤ day := by have := of_decide_eq_true h1; omega
        rw [decide_eq_true this, Bool.true_and]
        congr 1
        exact propext ⟨fun h => by omega, fun h => by omega⟩
      show Q (.bl (decide ((day : Int) ≤ (x.last : Int)))) H
      rw [e]; exact k
    · have e : (decide (x.come ≤ day) && decide (day ≤ x.last)) = false := by
        have : ¬ x.come ≤ day := fun q => h1 (decide_eq_true (by omega))
        rw [decide_eq_false this, Bool.false_and]
      rw [e] at k; exact k
/-! expiry, turn -/
abbrev sExp : Stmt := top 7
def spExp (CL : Addr) : Sp := fun vs H Q _ => ∃ p n x, vs = [.ref p] ∧ LotAt CL H p n x ∧ ∀ t, H t = none → Q (.ref t) (upd H t (.tup [.int x.last, .int n]))
theorem scExp : FnScope ["lot"] ["lot"] (defScope sExp) := ⟨rfl, rfl, rfl, by decide +kernel, rfl, by decide +kernel, by decide +kernel⟩
theorem ok_exp (h : Has K mg "expiry" sExp ["lot"]) (T : Txt K mg CL CD CS) : Ok P w K mg base 1 "expiry" ["lot"] (spExp CL) := by
  refine h.ok scExp (fun vs H Q E h => ?_) (fun f cdv A outer s H vs Q E hr h => ?_)
  · obtain ⟨p, n, x, rfl, _⟩ := h
    rfl
  · obtain ⟨p, n, x, rfl, ⟨dx, hp⟩, k⟩ := h
    refine ⟨_, pss_one (ps_ret (pe_tup (pa_cons (pe_fld (pv 0) rfl) (pa_cons (pe_fld (pv 0) rfl) pa_nil)))), ?_⟩
    exact ⟨_, rfl, p, CL, dx, _, _, rfl, hp, T.lot.cl, T.lot.no _ (by decide), rfl, _, rfl, p, CL, dx, _, _, rfl, hp, T.lot.cl, T.lot.no _ (by decide), rfl, (by show 2 ≤ sizeLine; decide), fun t ht => k t ht⟩
abbrev sTurn : Stmt := top 8
def spTurn (CD : Addr) : Sp := fun vs H Q _ => ∃ p d, vs = [.ref p] ∧ DemAt CD H p d ∧ ∀ t, H t = none → Q (.ref t) (upd H t (.tup [.int d.day, .int d.num]))
theorem scTurn : FnScope ["demand"] ["demand"] (defScope sTurn) := ⟨rfl, rfl, rfl, by decide +kernel, rfl, by decide +kernel, by decide +kernel⟩
theorem ok_turn (h : Has K mg "turn" sTurn ["demand"]) (T : Txt K mg CL CD CS) : Ok P w K mg base 1 "turn" ["demand"] (spTurn CD) := by
  refine h.ok scTurn (fun vs H Q E h => ?_) (fun f cdv A outer s H vs Q E hr h => ?_)
  · obtain ⟨p, d, rfl, _⟩ := h
    rfl
  · obtain ⟨p, d, rfl, ⟨dx, hp⟩, k⟩ := h
    refine ⟨_, pss_one (ps_ret (pe_tup (pa_cons (pe_fld (pv 0) rfl) (pa_cons (pe_fld (pv 0) rfl) pa_nil)))), ?_⟩
    exact ⟨_, rfl, p, CD, dx, _, _, rfl, hp, T.dem.cl, T.dem.no _ (by decide), rfl, _, rfl, p, CD, dx, _, _, rfl, hp, T.dem.cl, T.dem.no _ (by decide), rfl, (by show 2 ≤ sizeLine; decide), fun t ht => k t ht⟩
/-! doses_of -/
abbrev sDo : Stmt := top 4
def tsum (ts : List (Nat × Nat)) : Nat := (ts.map Prod.snd).sum
def spDo : Sp := fun vs H Q _ => ∃ a pa ts, vs = [.ref a] ∧ TakAt H pa a ts ∧ ts.length < 1000 ∧ ∀ H', Same H H' → Q (.int (tsum ts : Nat)) H'
theorem scDo : FnScope ["taken", "lot", "doses"] ["taken"] (defScope sDo) := ⟨rfl, rfl, rfl, by decide +kernel, rfl, by decide +kernel, by decide +kernel⟩
theorem ok_do (h : Has K mg "doses_of" sDo ["taken"]) (T : Txt K mg CL CD CS) : Ok P w K mg base 1 "doses_of" ["taken"] spDo := by
  refine h.ok scDo (fun vs H Q E h => ?_) (fun f cdv A outer s H vs Q E hr h => ?_)
  · obtain ⟨a, pa, ts, rfl, _⟩ := h
    rfl
  · obtain ⟨a, pa, ts, rfl, ⟨zs, h1, h2, h3⟩, hz, k⟩ := h
    have hlen : zs.length = ts.length := by rw [← h2, List.length_map]
    refine ⟨_, pss_one (ps_ret (pe_callB (cr_sum rfl) (by rfl) (T.blt _ (by decide)) PyProof.Rows.boot_sum (pa_cons (pe_lc' [("lot", 1), ("doses", 2)] (gTup K 2 (gCons (gName 1) (gCons (gName 2) gNil))) rfl scDo.nd (pi_list (pv 0)) rfl
      (fun s H C cl fp => pg_tup (n := 2) rfl (pgs_cons (pg_name (i := 1) scDo.nd rfl (Or.inl rfl) (Or.inr rfl)) (pgs_cons (pg_name (i := 2) scDo.nd rfl (Or.inl rfl) (Or.inr rfl)) pgs_nil)))
      (fun s H C cl fp => pts_nil) (fun s H C cl fp => pv 2)) pa_nil))), ?_⟩
    refine ⟨_, rfl, a, rfl, ⟨_, SqL.of h1⟩, fun D hD => ?_⟩
    refine lc_l zs (fun z => V.ref z.1) (fun z => some (V.int z.2.2)) hD (SqL.of h1) (by rw [hlen]; exact small1000 (by omega)) (fun z H' Nx hz' s1 kp kn => ?_) (fun H' s1 hl => ?_)
    · refine ⟨z.1, [.ref (pa z.2.1), .int z.2.2], rfl, SqT.of (s1 _ _ (h3 z hz')), rfl, _, _, rfl, _, _, rfl, rfl, rfl, ?_⟩
      exact ⟨_, rfl, kp H' _ (Same.refl _) rfl⟩
    · refine ⟨D, zs.map fun z => (z.2.2 : Int), rfl, SqL.of ?_, ?_⟩
      · rw [hl]
        congr 2
        rw [List.map_map, List.filterMap_eq_map']
        rfl
      · have e : (zs.map fun z => (z.2.2 : Int)).sum = ((tsum ts : Nat) : Int) := by
          unfold tsum
          rw [← int_sum, ← h2, List.map_map, List.map_map]
          rfl
        rw [e]
        exact k H' s1
/-! is_good_on_one -/
abbrev sOne : Stmt := top 6
def spOne (CL : Addr) : Sp := fun vs H Q _ => ∃ p n x a ds, vs = [.ref p, .ref a] ∧ LotAt CL H p n x ∧ DaysAt H a ds ∧ ds.length < 1000 ∧ ∀ H', Same H H' → Q (.bl (ds.any fun d => Vblaak.covers x d)) H'
theorem scOne : FnScope ["lot", "days", "day"] ["lot", "days"] (defScope sOne) := ⟨rfl, rfl, rfl, by decide +kernel, rfl, by decide +kernel, by decide +kernel⟩
theorem ok_one (h : Has K mg "is_good_on_one" sOne ["lot", "days"]) (T : Txt K mg CL CD CS) (GG : Ok P w K mg base 1 "is_good_on" ["lot", "day"] (spGood CL)) : Ok P w K mg base 2 "is_good_on_one" ["lot", "days"] (spOne CL) := by
  refine h.ok scOne (fun vs H Q E h => ?_) (fun f cdv A outer s H vs Q E hr h => ?_)
  · obtain ⟨p, n, x, a, ds, rfl, _⟩ := h
    rfl
  · obtain ⟨p, n, x, a, ds, rfl, hp, hd, hz, k⟩ := h
    rcases hd with hd | ⟨kvs, hd, hk⟩
    · refine ⟨_, pss_one (ps_ret (pe_callB (cr_any rfl) (by rfl) (T.blt _ (by decide)) boot_any' (pa_cons (pe_lc' [("day", 2)] (gName 2) rfl scOne.nd (pi_list (pv 1)) rfl
        (fun s H C cl fp => pg_name (i := 2) scOne.nd rfl (Or.inl rfl) (Or.inr rfl)) (fun s H C cl fp => pts_nil) (fun s H C cl fp => pe_ok GG hr (pa_cons (pv 0) (pa_cons (pv 2) pa_nil)))) pa_nil))), ?_⟩
      refine ⟨_, rfl, a, rfl, ⟨_, SqL.of hd⟩, fun D hD => ?_⟩
      refine lc_l ds (fun (d : Nat) => V.int d) (fun d => some (V.bl (Vblaak.covers x d))) hD (SqL.of hd) (small1000 (by omega)) (fun z H' Nx hz' s1 kp kn => ?_) (fun H' s1 hl => ?_)
      · exact ⟨rfl, _, rfl, _, rfl, p, n, x, z, rfl, hp.same s1, kp H' _ (Same.refl _) rfl⟩
      · refine ⟨D, ds.map (Vblaak.covers x), rfl, SqL.of ?_, ?_⟩
        · rw [hl, List.map_map, List.filterMap_eq_map']
          rfl
        · rw [List.any_map]
          exact k H' s1
    · have hlen : kvs.length = ds.length := by have := congrArg List.length hk; simpa using this
      refine ⟨_, pss_one (ps_ret (pe_callB (cr_any rfl) (by rfl) (T.blt _ (by decide)) boot_any' (pa_cons (pe_lock (pe_lc' [("day", 2)] (gName 2) rfl scOne.nd (pi_keys (pv 1)) rfl
        (fun s H C cl fp => pg_name (i := 2) scOne.nd rfl (Or.inl rfl) (Or.inr rfl)) (fun s H C cl fp => pts_nil) (fun s H C cl fp => pe_ok GG hr (pa_cons (pv 0) (pa_cons (pv 2) pa_nil))))) pa_nil))), ?_⟩
      refine ⟨a, _, hd, trivial, fun od => ⟨_, rfl, a, od, rfl, .inl ⟨kvs, upd_same, fun D hD => ?_⟩⟩⟩
      have hp1 : LotAt CL (upd H a (.frz od (.dK kvs))) p n x := by
        obtain ⟨dx, e⟩ := hp
        exact ⟨dx, by rw [upd_ne (ne_of e hd (by intro z; cases z))]; exact e⟩
      have hDa : D ≠ a := fun e => by rw [e, upd_same] at hD; cases hD
      refine lc_k (fun kv => some (V.bl (Vblaak.covers x (match kv.1 with | .inl i => i.toNat | _ => 0)))) hD upd_same (by rw [hlen]; exact small1000 (by omega)) (fun z H' Nx hz' s1 kp kn => ?_) (fun H' s1 hl => ?_)
      · obtain ⟨z1, z2⟩ := z
        have hm : z1 ∈ kvs.map Prod.fst := List.mem_map.mpr ⟨_, hz', rfl⟩
        rw [hk] at hm
        obtain ⟨d, _, rfl⟩ := List.mem_map.mp hm
        exact ⟨rfl, _, rfl, _, rfl, p, n, x, d, rfl, hp1.same s1, kp H' _ (Same.refl _) rfl⟩
      · refine ⟨s1 _ _ upd_same, D, ds.map (Vblaak.covers x), rfl, SqL.of ?_, ?_⟩
        · rw [upd_ne hDa, hl, List.map_map, List.filterMap_eq_map']
          have e1 : kvs.map (V.bl ∘ fun kv => Vblaak.covers x (match kv.1 with | .inl i => i.toNat | _ => 0)) = (kvs.map Prod.fst).map (fun key => V.bl (Vblaak.covers x (match key with | .inl i => i.toNat | _ => 0))) := by rw [List.map_map]; rfl
          have e2 : (fun kv : Key × V => V.bl (Vblaak.covers x (match kv.1 with | .inl i => i.toNat | _ => 0))) = (V.bl ∘ fun kv => Vblaak.covers x (match kv.1 with | .inl i => i.toNat | _ => 0)) := rfl
          rw [e2, e1, hk, List.map_map]
          rfl
        · rw [List.any_map]
          exact k _ (same_unlock hd s1)
end
end Rs
end
section
set_option maxHeartbeats 2000000
namespace Rs
open PySem PySem.Spec PyProof.Rows L2
open Vblaak (Lot Demand lotAt)
open Vb (chunk mplan mleft subs sub1 cvr lf lotLt demLt lastOf Sh)
/-- the list at a holds the lots with the numbers ix -/
def LotsAt (CL : Addr) (H : Hp) (a : Addr) (pa : Nat → Addr) (l : List Lot) (ix : List Nat) : Prop := H a = some (.lst (ix.map fun i => V.ref (pa i))) ∧ ∀ i ∈ ix, LotAt CL H (pa i) i (lotAt l i)
theorem LotsAt.same {CL : Addr} {H H' : Hp} {a : Addr} {pa : Nat → Addr} {l : List Lot} {ix : List Nat} (h : LotsAt CL H a pa l ix) (s : Same H H') : LotsAt CL H' a pa l ix := ⟨s _ _ h.1, fun i hi => (h.2 i hi).same s⟩
/-- the dict at d holds what is left, by numbers -/
def LeftAt (H : Hp) (d : Addr) (ix : List Nat) (f : Nat → Nat) : Prop := ∃ kvs, H d = some (.dK kvs) ∧ kvs.length ≤ 1000 ∧ ∀ i ∈ ix, valV kvs (Sum.inl (i : Int)) = some (.int (f i : Nat))
theorem putK_length {κ : Type} [DecidableEq κ] (kvs : List (κ × V)) (k : κ) (v : V) : (putK kvs k v).length ≤ kvs.length + 1 := by
  unfold putK
  split <;> simp
theorem take_mem_succ {α : Type} {l : List α} {j : Nat} {x y : α} (h : l[j]? = some x) : y ∈ l.take (j + 1) ↔ y ∈ l.take j ∨ y = x := by
  rw [List.take_add_one, h]
  simp
theorem map_get {α β : Type} {f : α → β} {l : List α} {i : Nat} {y : β} (h : (l.map f)[i]? = some y) : ∃ x, l[i]? = some x ∧ y = f x := by
  rw [List.getElem?_map] at h
  cases e : l[i]? with
  | none => rw [e] at h; cases h
  | some x => rw [e] at h; exact ⟨x, rfl, (Option.some.inj h).symm⟩
section
variable {P : Program} {w : World} {K : PySem.W.Frag} {mg : Str → Option Value} {base : Heap} {CL CD CS : Addr}
/-! what_is_left -/
abbrev sWil : Stmt := top 9
def spWil (CL : Addr) : Sp := fun vs H Q _ => ∃ a pa l ix, vs = [.ref a] ∧ LotsAt CL H a pa l ix ∧ ix.length ≤ 100 ∧ ∀ H' d, Same H H' → H d = none → LeftAt H' d ix (lf l) → Q (.ref d) H'
theorem scWil : FnScope ["lots", "left", "lot"] ["lots"] (defScope sWil) := ⟨rfl, rfl, rfl, by decide +kernel, rfl, by decide +kernel, by decide +kernel⟩
theorem ok_wil (h : Has K mg "what_is_left" sWil ["lots"]) (T : Txt K mg CL CD CS) : Ok P w K mg base 1 "what_is_left" ["lots"] (spWil CL) := by
  refine h.ok scWil (fun vs H Q E h => ?_) (fun f cdv A outer s H vs Q E hr h => ?_)
  · obtain ⟨a, pa, l, ix, rfl, _⟩ := h
    rfl
  · obtain ⟨a, pa, l, ix, rfl, hl, hz, k⟩ := h
    have hu := hu_of hr
    refine ⟨_, pss_cons (ps_set (i := 1) scWil.nd rfl (Or.inl rfl) pe_dnewK) (pss_cons (ps_for PassesOwn.never rfl (pi_list (pv 0)) (pg_name (i := 2) scWil.nd rfl (Or.inl rfl)) (pss_one (ps_dput hu (pv 1) (pe_fld (pv 2) rfl) (pe_fld (pv 2) rfl) rfl))) (pss_one (ps_ret (pv 1)))), ?_⟩
    intro d hd
    refine ⟨_, rfl, a, rfl, ⟨_, SqL.of (by rw [upd_ne (ne_of_none hl.1 hd)]; exact hl.1)⟩, for_list (K := K) (a := a) (xs := ix.map fun i => V.ref (pa i))
      (fun j σ H' => ∃ v2 kvs, σ = [some (.ref a), some (.ref d), v2] ∧ Same H H' ∧ H' d = some (.dK kvs) ∧ kvs.length ≤ j ∧ ∀ i ∈ ix.take j, valV kvs (Sum.inl (i : Int)) = some (.int (lf l i : Nat)))
      ⟨none, [], rfl, fun b o e => by rw [upd_ne (ne_of_none e hd)]; exact e, upd_same, Nat.zero_le _, by simp⟩ (fun j σ H' _ ⟨_, _, _, s1, _⟩ => SqL.of (s1 _ _ hl.1)) ?_ ?_⟩
    · rintro j y σ H' hj ⟨v2, kvs, rfl, s1, hd', hk, hv⟩
      obtain ⟨i, hi, rfl⟩ := map_get hj
      have hmem : i ∈ ix := List.mem_of_getElem? hi
      obtain ⟨dx, hp⟩ := (hl.2 i hmem).same s1
      have hjl : j < ix.length := (List.getElem?_eq_some_iff.mp hi).1
      refine ⟨_, rfl, _, CL, dx, _, _, rfl, hp, T.lot.cl, T.lot.no _ (by decide), rfl, _, rfl, _, rfl, _, CL, dx, _, _, rfl, hp, T.lot.cl, T.lot.no _ (by decide), rfl, d, _, rfl, DPut.k (k := Sum.inl (i : Int)) hd' (small1000 (by omega)), ?_⟩
      refine ⟨_, _, rfl, fun b o e => by rw [upd_ne (ne_of_none e hd)]; exact s1 _ _ e, upd_same, ?_, fun i' hi' => ?_⟩
      · have := putK_length kvs (Sum.inl (i : Int) : Key) (V.int ((lotAt l i).left : Nat)); omega
      · rw [valV_put]
        by_cases e : (Sum.inl (i' : Int) : Key) = Sum.inl (i : Int)
        · rw [if_pos e]
          have : i' = i := by have := Sum.inl.inj e; omega
          rw [this]; rfl
        · rw [if_neg e]
          rcases (take_mem_succ hi).mp hi' with q | q
          · exact hv i' q
          · exact absurd (by rw [q]) e
    · rintro σ H' ⟨v2, kvs, rfl, s1, hd', hk, hv⟩
      rw [List.length_map] at hk hv
      rw [List.take_length] at hv
      exact ⟨_, rfl, k H' d s1 hd ⟨kvs, hd', by omega, hv⟩⟩
/-! first_expired_first -/
theorem sorted_lots {l : List Lot} {pa : Nat → Addr} {ix : List Nat} {out : List Addr} (hn : ix.Nodup) (h : SortOut (ix.map fun i => ((lastOf l i : Int), (i : Int))) (ix.map pa) out) : ∃ ys : List Nat, ys.Perm ix ∧ ys.Pairwise (lotLt l) ∧ out = ys.map pa := by
  obtain ⟨zs, hp, ho, hs⟩ := h
  have e0 : (ix.map fun i => ((lastOf l i : Int), (i : Int))).zip (ix.map pa) = ix.map fun i => (((lastOf l i : Int), (i : Int)), pa i) := by
    rw [List.zip_map', ]
  rw [e0] at hp
  have hz : ∀ z ∈ zs, z = (((lastOf l z.1.2.toNat : Int), (z.1.2.toNat : Int)), pa z.1.2.toNat) := fun z hzm => by
    obtain ⟨i, _, rfl⟩ := List.mem_map.mp (hp.mem_iff.mp hzm)
    simp
  have ez : zs = (zs.map fun z => z.1.2.toNat).map fun i => (((lastOf l i : Int), (i : Int)), pa i) := by
    rw [List.map_map]
    conv => lhs; rw [← List.map_id zs]
    exact List.map_congr_left fun z hzm => hz z hzm
  have hperm : (zs.map fun z => z.1.2.toNat).Perm ix := by
    have := hp.map (fun z => z.1.2.toNat)
    rw [List.map_map] at this
    have e1 : ix.map ((fun z : K2 × Addr => z.1.2.toNat) ∘ fun i => (((lastOf l i : Int), (i : Int)), pa i)) = ix := by
      conv => rhs; rw [← List.map_id ix]
      exact List.map_congr_left fun i _ => by simp
    rw [e1] at this
    exact this
  refine ⟨zs.map fun z => z.1.2.toNat, hperm, ?_, ?_⟩
  · have hnd : (zs.map fun z => z.1.2.toNat).Nodup := hperm.nodup_iff.mpr hn
    rw [ez, List.pairwise_map] at hs
    refine (hs.and hnd).imp fun {i j} ⟨h1, h2⟩ => ?_
    unfold k2lt at h1
    unfold lotLt
    have h2' : i ≠ j := h2
    simp only at h1
    omega
  · rw [ho]
    conv => lhs; rw [ez]
    rw [List.map_map]
    rfl
abbrev sFef : Stmt := top 10
def spFef (CL : Addr) : Sp := fun vs H Q _ => ∃ a d pa l ix ord f, ∃ day n : Nat, vs = [.ref a, .ref d, .int day, .int n] ∧ LotsAt CL H a pa l ix ∧ ix.length ≤ 100 ∧ ix.Nodup ∧ ord.Perm ix ∧ ord.Pairwise (lotLt l) ∧ LeftAt H d ix f ∧
  ∀ H' t, Same H H' → H t = none → TakAt H' pa t (chunk (fun i => cvr l i day) f ord n).1 → Q (.ref t) H'
theorem scFef : FnScope ["lots", "left", "day", "doses", "taken", "wanting", "lot", "part"] ["lots", "left", "day", "doses"] (defScope sFef) := ⟨rfl, rfl, rfl, by decide +kernel, rfl, by decide +kernel, by decide +kernel⟩
theorem tak_snoc {H : Hp} {pa : Nat → Addr} {t q : Addr} {ts : List (Nat × Nat)} {i k : Nat} (h : TakAt H pa t ts) (hq : H q = none) : ∃ xs, H t = some (.lst xs) ∧ xs.length = ts.length ∧ TakAt (upd (upd H q (.tup [.ref (pa i), .int (k : Nat)])) t (.lst (xs ++ [.ref q]))) pa t (ts ++ [(i, k)]) := by
  obtain ⟨zs, h1, h2, h3⟩ := h
  refine ⟨_, h1, by rw [List.length_map, ← h2, List.length_map], zs ++ [(q, i, k)], ?_, ?_, fun z hz => ?_⟩
  · rw [upd_same, List.map_append]; rfl
  · rw [List.map_append, h2]; rfl
  · have hqt : q ≠ t := fun e => by rw [e, h1] at hq; cases hq
    rcases List.mem_append.mp hz with m | m
    · rw [upd_ne (ne_of (h3 z m) h1 (by intro e; cases e)), upd_ne (ne_of_none (h3 z m) hq)]
      exact h3 z m
    · rw [List.mem_singleton.mp m, upd_ne hqt, upd_same]
theorem ok_fef (h : Has K mg "first_expired_first" sFef ["lots", "left", "day", "doses"]) (T : Txt K mg CL CD CS) (GG : Ok P w K mg base 1 "is_good_on" ["lot", "day"] (spGood CL)) (GE : Ok P w K mg base 1 "expiry" ["lot"] (spExp CL)) :
    Ok P w K mg base 4 "first_expired_first" ["lots", "left", "day", "doses"] (spFef CL) := by
  refine h.ok scFef (fun vs H Q E h => ?_) (fun f0 cdv A outer s H vs Q E hr h => ?_)
  · obtain ⟨a, d, pa, l, ix, ord, f, day, n, rfl, _⟩ := h
    rfl
  · obtain ⟨a, d, pa, l, ix, ord, f, day, n, rfl, hl, hz, hnd, hop, hos, ⟨kvs, hd, hkl, hkv⟩, k⟩ := h
    have hu := hu_of hr
    have hr1 : Room 1 _ := hr.mono (by decide)
    refine ⟨_, pss_cons (ps_set (i := 4) scFef.nd rfl (Or.inl rfl) (pe_lst pa_nil)) (pss_cons (ps_set (i := 5) scFef.nd rfl (Or.inl rfl) (pv 3)) (pss_cons (ps_for PassesOwn.never rfl (pi_list (pe_sortOk GE hr (T.blt _ (by decide)) (pv 0))) (pg_name (i := 6) scFef.nd rfl (Or.inl rfl))
      (pss_cons (ps_set (i := 7) scFef.nd rfl (Or.inl rfl) (pe_callB (call_min2 rfl) (by rfl) (T.blt _ (by decide)) boot_min' (pa_cons (pv 5) (pa_cons (pe_dget hu (pv 1) (pe_fld (pv 6) rfl) (fun _ _ => rfl)) pa_nil))))
      (pss_one (ps_if (PW.pt (pw_and (pt_cmpR op_gt (pv 7) pe_int (nomark _)) (pw_and1 (pt_val (pe_ok GG hr1 (pa_cons (pv 6) (pa_cons (pv 2) pa_nil)))))))
        (pss_cons (ps_expr (pe_bm PySem.F.plainAttrs_list PySem.F.slot_list_append PySem.F.type_list_append mt_append (pv 4) (pa_cons (pe_tup (pa_cons (pv 6) (pa_cons (pv 7) pa_nil))) pa_nil))) (pss_one (ps_aug (i := 5) scFef.nd rfl (Or.inl rfl) (pv 7) ip_sub)))
        pss_nil)))) (pss_one (ps_ret (pv 4))))), ?_⟩
    refine ⟨Nat.zero_le _, fun t ht => ?_⟩
    have s0 : Same H (upd H t (.lst [])) := fun b o e => by rw [upd_ne (ne_of_none e ht)]; exact e
    refine ⟨_, rfl, _, rfl, a, ix.map pa, ix.map fun i => ((lastOf l i : Int), (i : Int)), rfl, SqL.of (by rw [List.map_map]; exact s0 _ _ hl.1), by simp, by rw [List.length_map]; omega, fun j p kk H' Q' hp hk s1 hq => ?_, fun out b H2 so s1 hb => ?_⟩
    · obtain ⟨i, hi, rfl⟩ := map_get hp
      obtain ⟨i2, hi2, rfl⟩ := map_get hk
      rw [hi] at hi2
      cases hi2
      exact ⟨pa i, i, lotAt l i, rfl, (hl.2 i (List.mem_of_getElem? hi)).same (s0.trans s1), fun t2 ht2 => hq t2 _ (fun b o e => by rw [upd_ne (ne_of_none e ht2)]; exact e) upd_same⟩
    · obtain ⟨ys, hy1, hy2, rfl⟩ := sorted_lots hnd so
      have ey : ys = ord := Vb.uniq (Vb.lotLt_asym l) hy2 hos fun z => (hy1.mem_iff).trans hop.mem_iff.symm
      subst ey
      refine ⟨b, rfl, ⟨_, SqL.of hb⟩, for_list (K := K) (a := b) (xs := ys.map fun i => V.ref (pa i))
        (fun j σ H' => ∃ v6 v7, σ = [some (.ref a), some (.ref d), some (.int day), some (.int n), some (.ref t), some (.int ((chunk (fun i => cvr l i day) f (ys.take j) n).2 : Nat)), v6, v7] ∧ Same H H' ∧ H' b = some (.lst (ys.map fun i => V.ref (pa i))) ∧ TakAt H' pa t (chunk (fun i => cvr l i day) f (ys.take j) n).1)
        ⟨none, none, rfl, s0.trans s1, by rw [hb, List.map_map]; rfl, [], by rw [s1 _ _ upd_same]; rfl, rfl, by simp⟩ (fun j σ H' _ ⟨_, _, _, _, hb', _⟩ => SqL.of hb') ?_ ?_⟩
      · rintro j y σ H' hj ⟨v6, v7, rfl, s2, hb', htk⟩
        obtain ⟨i, hi, rfl⟩ := map_get hj
        have hmem : i ∈ ix := hy1.mem_iff.mp (List.mem_of_getElem? hi)
        obtain ⟨dx, hp⟩ := (hl.2 i hmem).same s2
        have hch : chunk (fun i => cvr l i day) f (ys.take (j + 1)) n = ((chunk (fun i => cvr l i day) f (ys.take j) n).1 ++ (chunk (fun i => cvr l i day) f [i] (chunk (fun i => cvr l i day) f (ys.take j) n).2).1, (chunk (fun i => cvr l i day) f [i] (chunk (fun i => cvr l i day) f (ys.take j) n).2).2) := by
          rw [List.take_add_one, hi]
          exact Vb.chunk_append _ _ _ _ _
        rw [Vb.chunk_one] at hch
        generalize hm : (chunk (fun i => cvr l i day) f (ys.take j) n).2 = m at hch ⊢
        generalize hts : (chunk (fun i => cvr l i day) f (ys.take j) n).1 = ts at hch htk ⊢
        refine ⟨_, rfl, _, rfl, _, rfl, _, CL, dx, _, _, rfl, hp, T.lot.cl, T.lot.no _ (by decide), rfl, d, _, rfl, (by rw [← hkv i hmem]; exact DGet.k (k := Sum.inl (i : Int)) (s2 _ _ hd)), _, _, rfl, ?_⟩
        have emin : (if ((f i : Nat) : Int) < (m : Int) then ((f i : Nat) : Int) else (m : Int)) = ((min m (f i) : Nat) : Int) := by split <;> omega
        rw [emin]
        refine ⟨_, rfl, _, _, rfl, rfl, _, rfl, ?_⟩
        refine ite2 (fun hpos => ?_) fun hpos => ?_
        · have hpos' : 0 < min m (f i) := by have := of_decide_eq_true hpos; omega
          refine ⟨_, rfl, _, rfl, pa i, i, lotAt l i, day, rfl, ⟨dx, hp⟩, _, rfl, ?_⟩
          refine ite2 (fun hcv => ?_) fun hcv => ?_
          · have hif : 0 < min m (f i) ∧ cvr l i day = true := ⟨hpos', hcv⟩
            rw [if_pos hif] at hch
            obtain ⟨zs, hz1, hz2, hz3⟩ := id htk
            have hzl : zs.length ≤ 100 := by
              have h1 : zs.length = ts.length := by rw [← hz2, List.length_map]
              have h2 := Vb.chunk_len (fun i => cvr l i day) f (ys.take j) n
              have h3 := hy1.length_eq
              rw [hts, List.length_take] at h2
              omega
            refine ⟨_, rfl, .inl ⟨rfl, _, SqL.of hz1⟩, _, rfl, _, rfl, (by show 2 ≤ sizeLine; decide), fun q hq => ?_⟩
            obtain ⟨xs, hx1, hx2, hx3⟩ := tak_snoc (i := i) (k := min m (f i)) htk hq
            rw [hx1] at hz1
            cases hz1
            refine ⟨t, _, _, rfl, rfl, (by rw [upd_ne (ne_of_none hx1 hq)]; exact hx1), (by rw [List.length_map]; exact small1000 (by omega)), ?_⟩
            refine ⟨_, rfl, _, rfl, _, _, rfl, rfl, ?_⟩
            have s3 : Same H (upd (upd H' q (.tup [.ref (pa i), .int (min m (f i) : Nat)])) t (.lst (zs.map (fun z => V.ref z.1) ++ [.ref q]))) := fun b' o e => by
              rw [upd_ne (ne_of_none e ht), upd_ne (ne_of_none (s2 _ _ e) hq)]
              exact s2 _ _ e
            have hbt : b ≠ t := fun e => by
              subst e
              have := s1 _ _ (upd_same (H := H) (a := b) (o := .lst []))
              rw [hb] at this
              cases ys with
              | nil => simp at hi
              | cons y r => cases this
            refine ⟨some (.ref (pa i)), some (.int (min m (f i) : Nat)), ?_, s3, ?_, ?_⟩
            · rw [hch]
              have : (((m - min m (f i) : Nat) : Nat) : Int) = (m : Int) - ((min m (f i) : Nat) : Int) := by omega
              rw [this]
              rfl
            · rw [upd_ne hbt, upd_ne (ne_of_none hb' hq)]; exact hb'
            · rw [hch]; exact hx3
          · have hif : ¬ (0 < min m (f i) ∧ cvr l i day = true) := fun q => hcv q.2
            rw [if_neg hif] at hch
            refine ⟨some (.ref (pa i)), some (.int (min m (f i) : Nat)), ?_, s2, hb', ?_⟩
            · rw [hch]; rfl
            · rw [hch]; simpa using htk
        · have hif : ¬ (0 < min m (f i) ∧ cvr l i day = true) := fun q => hpos (decide_eq_true (by omega))
          rw [if_neg hif] at hch
          refine ⟨some (.ref (pa i)), some (.int (min m (f i) : Nat)), ?_, s2, hb', ?_⟩
          · rw [hch]; rfl
          · rw [hch]; simpa using htk
      · rintro σ H' ⟨v6, v7, rfl, s2, hb', htk⟩
        rw [List.length_map, List.take_length] at htk
        exact ⟨_, rfl, k H' t s2 ht htk⟩
end
end Rs
end
section
set_option maxHeartbeats 2000000
namespace Rs
open PySem PySem.Spec PyProof.Rows L2
open Vblaak (Lot Demand lotAt)
open Vb (chunk mplan mleft subs sub1 cvr lf lotLt demLt lastOf Sh)
/-! dict(d) of a dict -/
theorem cr_dictD {X : Cx} : CallR X (.type "dict") (fun xs H Q => ∃ (a : Addr) (kvs : List (Key × V)), xs = [.ref a] ∧ H a = some (.dK kvs) ∧ ∀ p, H p = none → Q (.ref p) (upd H p (.dK kvs))) := by
  intro pins s σ H xs us Q I r q
  obtain ⟨a, kvs, rfl, hd, q⟩ := q
  rw [Vals.ref1 r]
  obtain ⟨hz, lo, vs, kv, hD⟩ := I.hok a _ hd
  have hl : vs.length = kvs.length := (Paired.length kv).symm
  refine kt_call_dict (knd := mixKind X.prog X.w) lo hD (by rw [hl]; exact hz) fun h' hd' hs => ?_
  have hm : (s.heap.objs.size == sysModules) = false := beq_eq_false_iff_ne.mpr (Nat.ne_of_gt I.big)
  exact ⟨.ref s.heap.objs.size, upd H s.heap.objs.size (.dK kvs), I.laid (t' := s.toks) (fun b o e => (hs.2 b (Nat.ne_of_lt (Heap.lt_size e))).trans (Heap.get?_push_of_some _ e)) (Nat.le_refl _) (show ObjOk X.prog X.w _ _ _ (.dK kvs) from ⟨hz, hm, vs, kv, hd'⟩), rfl, q _ (I.hok.fresh (Nat.le_refl _))⟩
theorem boot_dict' : bootBuiltins "dict" = some (.type "dict") := by decide +kernel
theorem same_new {H : Hp} {a : Addr} {o : HO} (h : H a = none) : Same H (upd H a o) := fun b u e => by rw [upd_ne (ne_of_none e h)]; exact e
/-- all but what stands at d is as it was -/
def SBut (d : Addr) (H H' : Hp) : Prop := ∀ b o, H b = some o → b ≠ d → H' b = some o
theorem SBut.refl {d : Addr} {H : Hp} : SBut d H H := fun _ _ e _ => e
theorem LotAt.but {C : Addr} {H H' : Hp} {p d : Addr} {n : Nat} {x : Lot} (h : LotAt C H p n x) (s : SBut d H H') (hd : ∀ C dx fs, H d ≠ some (.ins C dx fs)) : LotAt C H' p n x := let ⟨dx, e⟩ := h; ⟨dx, s _ _ e fun z => hd C dx _ (by rw [← z]; exact e)⟩
theorem split_at {α : Type} {l : List α} {j : Nat} {x : α} (h : l[j]? = some x) : l = l.take j ++ x :: l.drop (j + 1) := by
  obtain ⟨hj, e⟩ := List.getElem?_eq_some_iff.mp h
  have := List.drop_eq_getElem_cons hj
  rw [← e, ← this]
  exact (List.take_append_drop j l).symm
/-! ### what a taking fits in -/
def Fits : (Nat → Nat) → List (Nat × Nat) → Prop
  | _, [] => True
  | f, e :: r => e.2 ≤ f e.1 ∧ Fits (sub1 f e.1 e.2) r
theorem fits_of : ∀ (ts : List (Nat × Nat)) (f : Nat → Nat), (ts.map Prod.fst).Nodup → (∀ e ∈ ts, e.2 ≤ f e.1) → Fits f ts
  | [], f, _, _ => trivial
  | e :: r, f, hn, h => by
    rw [List.map_cons, List.nodup_cons] at hn
    refine ⟨h e (by simp), fits_of r _ hn.2 fun e' he' => ?_⟩
    have : e'.1 ≠ e.1 := fun q => hn.1 (q ▸ List.mem_map.mpr ⟨e', he', rfl⟩)
    rw [Vb.sub1_ne this]
    exact h e' (.tail _ he')
theorem chunk_nodup (cv : Nat → Bool) (f : Nat → Nat) : ∀ (r : List Nat) (n : Nat), r.Nodup → ((chunk cv f r n).1.map Prod.fst).Nodup
  | [], n, _ => by simp [chunk]
  | i :: r, n, h => by
    rw [List.nodup_cons] at h
    rw [Vb.chunk_cons]
    split
    · rw [List.map_cons, List.nodup_cons]
      refine ⟨fun m => ?_, chunk_nodup cv f r _ h.2⟩
      obtain ⟨e, he, q⟩ := List.mem_map.mp m
      have q' : e.1 = i := q
      exact h.1 (q' ▸ (Vb.chunk_mem he).1)
    · exact chunk_nodup cv f r _ h.2
theorem chunk_fits (cv : Nat → Bool) (f : Nat → Nat) (r : List Nat) (n : Nat) (h : r.Nodup) : Fits f (chunk cv f r n).1 := fits_of _ _ (chunk_nodup cv f r n h) fun e he => (Vb.chunk_mem he).2.2.2
theorem fits_append : ∀ (xs ys : List (Nat × Nat)) (f : Nat → Nat), Fits f (xs ++ ys) ↔ Fits f xs ∧ Fits (subs f xs) ys
  | [], ys, f => by simp [Fits, subs]
  | x :: r, ys, f => by
    simp only [List.cons_append, Fits, subs]
    rw [fits_append r ys]
    exact and_assoc.symm
section
variable {P : Program} {w : World} {K : PySem.W.Frag} {mg : Str → Option Value} {base : Heap} {CL CD CS : Addr}
/-! take_off -/
abbrev sTo : Stmt := top 11
def spTo (CL : Addr) : Sp := fun vs H Q _ => ∃ d t pa l ix f ts, vs = [.ref d, .ref t] ∧ LeftAt H d ix f ∧ TakAt H pa t ts ∧ (∀ e ∈ ts, e.1 ∈ ix ∧ LotAt CL H (pa e.1) e.1 (lotAt l e.1)) ∧ Fits f ts ∧
  ∀ H', SBut d H H' → LeftAt H' d ix (subs f ts) → Q .non H'
theorem scTo : FnScope ["left", "taken", "lot", "doses"] ["left", "taken"] (defScope sTo) := ⟨rfl, rfl, rfl, by decide +kernel, rfl, by decide +kernel, by decide +kernel⟩
theorem putK_length_in {κ : Type} [DecidableEq κ] (kvs : List (κ × V)) (k : κ) (v w : V) (h : valV kvs k = some w) : (putK kvs k v).length = kvs.length := by
  unfold putK
  rw [if_pos (by rw [valV_any, h]; rfl), List.length_map]
theorem ok_to (h : Has K mg "take_off" sTo ["left", "taken"]) (T : Txt K mg CL CD CS) : Ok P w K mg base 1 "take_off" ["left", "taken"] (spTo CL) := by
  refine h.ok scTo (fun vs H Q E h => ?_) (fun f0 cdv A outer s H vs Q E hr h => ?_)
  · obtain ⟨d, t, pa, l, ix, f, ts, rfl, _⟩ := h
    rfl
  · obtain ⟨d, t, pa, l, ix, f, ts, rfl, ⟨kvs, hd, hkl, hkv⟩, ⟨zs, h1, h2, h3⟩, hts, hfit, k⟩ := h
    have hu := hu_of hr
    refine ⟨_, pss_one (ps_for PassesOwn.never rfl (pi_list (pv 1)) (pg_tup (n := 2) rfl (pgs_cons (pg_name (i := 2) scTo.nd rfl (Or.inl rfl)) (pgs_cons (pg_name (i := 3) scTo.nd rfl (Or.inl rfl)) pgs_nil)))
      (pss_one (ps_daug hu (pv 0) (pe_fld (pv 2) rfl) (pv 3) in_sub (fun _ _ _ => rfl)))), ?_⟩
    have hdt : t ≠ d := ne_of h1 hd (by intro z; cases z)
    refine ⟨_, rfl, t, rfl, ⟨_, SqL.of h1⟩, for_list (K := K) (a := t) (xs := zs.map fun z => V.ref z.1)
      (fun j σ H' => ∃ v2 v3, σ = [some (.ref d), some (.ref t), v2, v3] ∧ SBut d H H' ∧ LeftAt H' d ix (subs f (ts.take j)))
      ⟨none, none, rfl, SBut.refl, kvs, hd, hkl, hkv⟩ (fun j σ H' _ ⟨_, _, _, s1, _⟩ => SqL.of (s1 _ _ h1 hdt)) ?_ ?_⟩
    · rintro j y σ H' hj ⟨v2, v3, rfl, s1, kv1, hd', hl', hv'⟩
      obtain ⟨z, hz, rfl⟩ := map_get hj
      have hzm : z ∈ zs := List.mem_of_getElem? hz
      have htj : ts[j]? = some z.2 := by rw [← h2, List.getElem?_map, hz]; rfl
      have htm : z.2 ∈ ts := List.mem_of_getElem? htj
      obtain ⟨hix, hlot⟩ := hts _ htm
      obtain ⟨dx, hp⟩ := hlot.but s1 (by intro C dx fs q; rw [hd] at q; cases q)
      have htup : H' z.1 = some (.tup [.ref (pa z.2.1), .int z.2.2]) := s1 _ _ (h3 z hzm) (ne_of (h3 z hzm) hd (by intro q; cases q))
      have hfj : z.2.2 ≤ subs f (ts.take j) z.2.1 := by
        have e := split_at htj
        rw [e, fits_append] at hfit
        exact hfit.2.1
      refine ⟨z.1, _, rfl, SqT.of htup, rfl, _, _, rfl, _, _, rfl, rfl, ?_⟩
      refine ⟨_, rfl, _, rfl, _, CL, dx, _, _, rfl, hp, T.lot.cl, T.lot.no _ (by decide), rfl, d, _, rfl, (by rw [← hv' z.2.1 hix]; exact DGet.k (k := Sum.inl (z.2.1 : Int)) hd'), _, rfl, _, _, rfl, rfl, _, DPut.k (k := Sum.inl (z.2.1 : Int)) hd' (small1000 (by omega)), ?_⟩
      refine ⟨_, _, rfl, fun b o e hb => by rw [upd_ne hb]; exact s1 b o e hb, _, upd_same, ?_, fun i hi => ?_⟩
      · rw [putK_length_in _ _ _ _ (hv' z.2.1 hix)]; exact hl'
      · rw [valV_put]
        have et : ts.take (j + 1) = ts.take j ++ [z.2] := by rw [List.take_add_one, htj]; rfl
        have es : subs f (ts.take (j + 1)) = sub1 (subs f (ts.take j)) z.2.1 z.2.2 := by rw [et, Vb.subs_append]; rfl
        by_cases e : (Sum.inl (i : Int) : Key) = Sum.inl (z.2.1 : Int)
        · rw [if_pos e]
          have : i = z.2.1 := by have := Sum.inl.inj e; omega
          subst this
          rw [es, Vb.sub1_self]
          congr 2
          omega
        · rw [if_neg e, hv' i hi, es, Vb.sub1_ne (fun q => e (by rw [q]))]
    · rintro σ H' ⟨v2, v3, rfl, s1, hl'⟩
      have : zs.length = ts.length := by rw [← h2, List.length_map]
      rw [List.length_map, this, List.take_length] at hl'
      exact k H' s1 hl'
end
end Rs
end
section
set_option maxHeartbeats 2000000
namespace Rs
open PySem PySem.Spec PyProof.Rows L2
open Vblaak (Lot Demand lotAt)
open Vb (chunk mplan mleft subs sub1 cvr lf lotLt demLt lastOf Sh)
theorem perm_map_inv {α β : Type} (g : α → β) : ∀ {a b : List β}, a.Perm b → ∀ qs : List α, b = qs.map g → ∃ qs' : List α, qs'.Perm qs ∧ a = qs'.map g := by
  intro a b h
  induction h with
  | nil => exact fun qs e => ⟨qs, .refl _, e⟩
  | @cons x l1 l2 _ ih =>
    intro qs e
    cases qs with
    | nil => cases e
    | cons q r =>
      rw [List.map_cons] at e
      injection e with e1 e2
      obtain ⟨r', p, e3⟩ := ih r e2
      exact ⟨q :: r', p.cons q, by rw [List.map_cons, e1, e3]⟩
  | swap x y l =>
    intro qs e
    match qs, e with
    | q1 :: q2 :: r, e =>
      rw [List.map_cons, List.map_cons] at e
      injection e with e1 e2
      injection e2 with e2 e3
      exact ⟨q2 :: q1 :: r, .swap _ _ _, by rw [List.map_cons, List.map_cons, e1, e2, e3]⟩
  | trans _ _ ih1 ih2 =>
    intro qs e
    obtain ⟨q1, p1, e1⟩ := ih2 qs e
    obtain ⟨q2, p2, e2⟩ := ih1 q1 e1
    exact ⟨q2, p2.trans p1, e2⟩
/-- the list at a holds the demands ds, at their addresses -/
def DemsAt (CD : Addr) (H : Hp) (a : Addr) (ds : List Demand) : Prop := ∃ qs : List (Addr × Demand), H a = some (.lst (qs.map fun q => V.ref q.1)) ∧ qs.map Prod.snd = ds ∧ ∀ q ∈ qs, DemAt CD H q.1 q.2
theorem DemsAt.same {CD : Addr} {H H' : Hp} {a : Addr} {ds : List Demand} (h : DemsAt CD H a ds) (s : Same H H') : DemsAt CD H' a ds := let ⟨qs, h1, h2, h3⟩ := h; ⟨qs, s _ _ h1, h2, fun q hq => (h3 q hq).same s⟩
abbrev shaF (dp t : Addr) (n : Int) : List (Str × V) := [("demand", .ref dp), ("taken", .ref t), ("lacks", .int n)]
/-- a share: its demand, what it takes (at t), what it lacks -/
def ShaAt (CS CD : Addr) (H : Hp) (pa : Nat → Addr) (p t : Addr) (x : Sh) : Prop := ∃ dx dp, H p = some (.ins CS dx (shaF dp t (x.2.2 : Nat))) ∧ DemAt CD H dp x.1 ∧ TakAt H pa t x.2.1
theorem ShaAt.same {CS CD : Addr} {H H' : Hp} {pa : Nat → Addr} {p t : Addr} {x : Sh} (h : ShaAt CS CD H pa p t x) (s : Same H H') : ShaAt CS CD H' pa p t x := let ⟨dx, dp, h1, h2, h3⟩ := h; ⟨dx, dp, s _ _ h1, h2.same s, h3.same s⟩
def SharesAt (CS CD : Addr) (H : Hp) (pa : Nat → Addr) (a : Addr) (p : List Sh) : Prop := ∃ zs : List (Addr × Addr × Sh), H a = some (.lst (zs.map fun z => V.ref z.1)) ∧ zs.map (fun z => z.2.2) = p ∧ ∀ z ∈ zs, z.2.1 ≠ a ∧ ShaAt CS CD H pa z.1 z.2.1 z.2.2
theorem SharesAt.same {CS CD : Addr} {H H' : Hp} {pa : Nat → Addr} {a : Addr} {p : List Sh} (h : SharesAt CS CD H pa a p) (s : Same H H') : SharesAt CS CD H' pa a p := let ⟨zs, h1, h2, h3⟩ := h; ⟨zs, s _ _ h1, h2, fun z hz => ⟨(h3 z hz).1, (h3 z hz).2.same s⟩⟩
/-- what differs from a dict at d stays when that dict changes -/
theorem SBut.dk {d : Addr} {H H' : Hp} {kvs : List (Key × V)} (s : SBut d H H') (hd : H d = some (.dK kvs)) {b : Addr} {o : HO} (h : H b = some o) (ho : ∀ k, o ≠ .dK k) : H' b = some o := s b o h (ne_of h hd (ho _))
theorem TakAt.dk {d : Addr} {H H' : Hp} {kvs : List (Key × V)} {pa : Nat → Addr} {t : Addr} {ts : List (Nat × Nat)} (h : TakAt H pa t ts) (s : SBut d H H') (hd : H d = some (.dK kvs)) : TakAt H' pa t ts :=
  let ⟨zs, h1, h2, h3⟩ := h; ⟨zs, s.dk hd h1 (by intro k z; cases z), h2, fun z hz => s.dk hd (h3 z hz) (by intro k z; cases z)⟩
theorem DemAt.dk {d : Addr} {H H' : Hp} {kvs : List (Key × V)} {C p : Addr} {x : Demand} (h : DemAt C H p x) (s : SBut d H H') (hd : H d = some (.dK kvs)) : DemAt C H' p x := let ⟨dx, e⟩ := h; ⟨dx, s.dk hd e (by intro k z; cases z)⟩
theorem SharesAt.dk {CS CD d : Addr} {H H' : Hp} {kvs : List (Key × V)} {pa : Nat → Addr} {a : Addr} {p : List Sh} (h : SharesAt CS CD H pa a p) (s : SBut d H H') (hd : H d = some (.dK kvs)) : SharesAt CS CD H' pa a p :=
  let ⟨zs, h1, h2, h3⟩ := h; ⟨zs, s.dk hd h1 (by intro k z; cases z), h2, fun z hz => ⟨(h3 z hz).1, let ⟨dx, dp, g1, g2, g3⟩ := (h3 z hz).2; ⟨dx, dp, s.dk hd g1 (by intro k z; cases z), g2.dk s hd, g3.dk s hd⟩⟩⟩
theorem TakAt.lst {a : Addr} {H H' : Hp} {xs : List V} {pa : Nat → Addr} {t : Addr} {ts : List (Nat × Nat)} (h : TakAt H pa t ts) (s : SBut a H H') (ha : H a = some (.lst xs)) (hta : t ≠ a) : TakAt H' pa t ts :=
  let ⟨zs, h1, h2, h3⟩ := h; ⟨zs, s _ _ h1 hta, h2, fun z hz => s _ _ (h3 z hz) (ne_of (h3 z hz) ha (by intro z; cases z))⟩
theorem SharesAt.snoc {CS CD : Addr} {H : Hp} {pa : Nat → Addr} {a q t : Addr} {p : List Sh} {x : Sh} (h : SharesAt CS CD H pa a p) (hq : ShaAt CS CD H pa q t x) (hta : t ≠ a) : ∃ xs, H a = some (.lst xs) ∧ xs.length = p.length ∧ SharesAt CS CD (upd H a (.lst (xs ++ [.ref q]))) pa a (p ++ [x]) := by
  obtain ⟨zs, h1, h2, h3⟩ := h
  have sb : SBut a H (upd H a (.lst (zs.map (fun z => V.ref z.1) ++ [.ref q]))) := fun b o e hb => by rw [upd_ne hb]; exact e
  have key : ∀ {r t' : Addr} {y : Sh}, ShaAt CS CD H pa r t' y → t' ≠ a → ShaAt CS CD (upd H a (.lst (zs.map (fun z => V.ref z.1) ++ [.ref q]))) pa r t' y := fun {r t' y} g ht => by
    obtain ⟨dx, dp, g1, ⟨dx2, g2⟩, g3⟩ := g
    exact ⟨dx, dp, sb _ _ g1 (ne_of g1 h1 (by intro z; cases z)), ⟨dx2, sb _ _ g2 (ne_of g2 h1 (by intro z; cases z))⟩, g3.lst sb h1 ht⟩
  refine ⟨_, h1, by rw [List.length_map, ← h2, List.length_map], zs ++ [(q, t, x)], ?_, ?_, fun z hz => ?_⟩
  · rw [upd_same, List.map_append]; rfl
  · rw [List.map_append, h2]; rfl
  · rcases List.mem_append.mp hz with m | m
    · exact ⟨(h3 z m).1, key (h3 z m).2 (h3 z m).1⟩
    · rw [List.mem_singleton.mp m]; exact ⟨hta, key hq hta⟩
theorem sorted_dems {qs : List (Addr × Demand)} {out : List Addr} (hn : (qs.map fun q => q.2.num).Nodup) (h : SortOut (qs.map fun q => ((q.2.day : Int), (q.2.num : Int))) (qs.map Prod.fst) out) : ∃ ys : List (Addr × Demand), ys.Perm qs ∧ (ys.map Prod.snd).Pairwise demLt ∧ out = ys.map Prod.fst := by
  obtain ⟨zs, hp, ho, hs⟩ := h
  rw [List.zip_map'] at hp
  obtain ⟨ys, py, rfl⟩ := perm_map_inv _ hp qs rfl
  refine ⟨ys, py, ?_, ?_⟩
  · have hnd : (ys.map fun q => q.2.num).Nodup := (py.map _).nodup_iff.mpr hn
    rw [List.pairwise_map] at hs
    have hnd' := List.pairwise_map.mp hnd
    rw [List.pairwise_map]
    refine (hs.and hnd').imp fun {x y} ⟨h1, h2⟩ => ?_
    unfold k2lt at h1
    unfold demLt
    have h2' : x.2.num ≠ y.2.num := h2
    simp only at h1
    omega
  · rw [ho, List.map_map]; rfl
section
variable {P : Program} {w : World} {K : PySem.W.Frag} {mg : Str → Option Value} {base : Heap} {CL CD CS : Addr}
/-! Share -/
abbrev sShI : Stmt := inClass (top 3) 0
def spShI (CS CD : Addr) : Sp := fun vs H Q _ => ∃ p dx dp t pa d ts, vs = [.ref p, .ref dp, .ref t] ∧ H p = some (.ins CS dx []) ∧ DemAt CD H dp d ∧ TakAt H pa t ts ∧ ts.length < 1000 ∧ ∀ H', SBut p H H' → H' p = some (.ins CS dx (shaF dp t ((d.n : Int) - (tsum ts : Nat)))) → Q .non H'
theorem scShI : FnScope ["self", "demand", "taken"] ["self", "demand", "taken"] (defScope sShI) := ⟨rfl, rfl, rfl, by decide +kernel, rfl, by decide +kernel, by decide +kernel⟩
theorem TakAt.ins {d : Addr} {H H' : Hp} {C dx : Addr} {fs : List (Str × V)} {pa : Nat → Addr} {t : Addr} {ts : List (Nat × Nat)} (h : TakAt H pa t ts) (s : SBut d H H') (hd : H d = some (.ins C dx fs)) : TakAt H' pa t ts :=
  let ⟨zs, h1, h2, h3⟩ := h; ⟨zs, s _ _ h1 (ne_of h1 hd (by intro z; cases z)), h2, fun z hz => s _ _ (h3 z hz) (ne_of (h3 z hz) hd (by intro z; cases z))⟩
theorem ok_shI (h : HasC K mg CS "Share" "Share.__init__" sShI ["self", "demand", "taken"]) (T : Txt K mg CL CD CS) (GD : Ok P w K mg base 1 "doses_of" ["taken"] spDo) : OkC P w K mg base CS 2 "Share" ["self", "demand", "taken"] (spShI CS CD) := by
  refine h.ok scShI (fun vs H Q E h => ?_) (fun f0 cdv A outer s H vs Q E hr h => ?_)
  · obtain ⟨p, dx, dp, t, pa, d, ts, rfl, _⟩ := h
    rfl
  · obtain ⟨p, dx, dp, t, pa, d, ts, rfl, hp, ⟨ddx, hd⟩, ht, hl, k⟩ := h
    refine ⟨_, pss_cons (ps_fld (pv 0) (pv 1) rfl) (pss_cons (ps_fld (pv 0) (pv 2) rfl) (pss_one (ps_fld (pv 0) (pe_op op_sub (pe_fld (pv 1) rfl) (pe_ok GD hr (pa_cons (pv 2) pa_nil))) rfl))), ?_⟩
    have hdp : dp ≠ p := ne_of hd hp (by intro z; injection z with _ _ z; cases z)
    refine ⟨_, rfl, _, rfl, p, CS, dx, [], rfl, hp, T.sha.cl, T.sha.no _ (by decide), (by decide), ?_⟩
    refine ⟨_, rfl, _, rfl, p, CS, dx, _, rfl, upd_same, T.sha.cl, T.sha.no _ (by decide), (by show 1 < 1000; decide), ?_⟩
    rw [upd_upd]
    have sb : SBut p H (upd H p (.ins CS dx (putF "taken" (.ref t) (putF "demand" (.ref dp) [])))) := fun b o e hb => by rw [upd_ne hb]; exact e
    refine ⟨_, rfl, dp, CD, ddx, _, _, rfl, sb _ _ hd hdp, T.dem.cl, T.dem.no _ (by decide), rfl, _, rfl, t, pa, ts, rfl, ht.ins sb hp, hl, fun H3 s3 => ?_⟩
    refine ⟨_, _, rfl, rfl, _, rfl, p, CS, dx, _, rfl, s3 _ _ upd_same, T.sha.cl, T.sha.no _ (by decide), (by show 2 < 1000; decide), ?_⟩
    exact k _ (fun b o e hb => by rw [upd_ne hb]; exact s3 _ _ (sb b o e hb)) upd_same
/-! plan_shares -/
abbrev sPl : Stmt := top 12
def spPl (CL CD CS : Addr) : Sp := fun vs H Q _ => ∃ a d b pa l ix ord f ds ods, vs = [.ref a, .ref d, .ref b] ∧ LotsAt CL H a pa l ix ∧ ix.length ≤ 100 ∧ ix.Nodup ∧ ord.Perm ix ∧ ord.Pairwise (lotLt l) ∧ LeftAt H d ix f ∧
  DemsAt CD H b ds ∧ ds.length ≤ 100 ∧ (ds.map fun x => x.num).Nodup ∧ ods.Pairwise demLt ∧ (∀ z, z ∈ ods ↔ z ∈ ds) ∧
  ∀ H' t, Same H H' → H t = none → SharesAt CS CD H' pa t (mplan ord (cvr l) f ods) → Q (.ref t) H'
theorem scPl : FnScope ["lots", "left", "demands", "rest", "shares", "demand", "taken"] ["lots", "left", "demands"] (defScope sPl) := ⟨rfl, rfl, rfl, by decide +kernel, rfl, by decide +kernel, by decide +kernel⟩
theorem mplan_len (ord : List Nat) (cv : Nat → Nat → Bool) : ∀ (ds : List Demand) (f : Nat → Nat), (mplan ord cv f ds).length = ds.length
  | [], f => rfl
  | x :: r, f => by unfold mplan; rw [List.length_cons, List.length_cons, mplan_len ord cv r]
theorem ok_pl (h : Has K mg "plan_shares" sPl ["lots", "left", "demands"]) (T : Txt K mg CL CD CS) (hdict : mg "dict" = none) (GT : Ok P w K mg base 1 "turn" ["demand"] (spTurn CD)) (GF : Ok P w K mg base 4 "first_expired_first" ["lots", "left", "day", "doses"] (spFef CL))
    (GO : Ok P w K mg base 1 "take_off" ["left", "taken"] (spTo CL)) (GS : OkC P w K mg base CS 2 "Share" ["self", "demand", "taken"] (spShI CS CD)) : Ok P w K mg base 5 "plan_shares" ["lots", "left", "demands"] (spPl CL CD CS) := by
  refine h.ok scPl (fun vs H Q E h => ?_) (fun f0 cdv A outer s H vs Q E hr h => ?_)
  · obtain ⟨a, d, b, pa, l, ix, ord, f, ds, ods, rfl, _⟩ := h
    rfl
  · obtain ⟨a, d, b, pa, l, ix, ord, f, ds, ods, rfl, hl, hz, hnd, hop, hos, ⟨kvs, hd, hkl, hkv⟩, ⟨qs, hb1, hb2, hb3⟩, hdz, hdn, hod, hodm, k⟩ := h
    have hu := hu_of hr
    have hr1 : Room 1 _ := hr.mono (by decide)
    have hr3 : Room 3 _ := hr.mono (by decide)
    refine ⟨_, pss_cons (ps_set (i := 3) scPl.nd rfl (Or.inl rfl) (pe_callTy cr_dictD (by rfl) hdict boot_dict' (pa_cons (pv 1) pa_nil)))
      (pss_cons (ps_set (i := 4) scPl.nd rfl (Or.inl rfl) (pe_lst pa_nil))
      (pss_cons (ps_for PassesOwn.never rfl (pi_list (pe_sortOk GT hr3 (T.blt _ (by decide)) (pv 2))) (pg_name (i := 5) scPl.nd rfl (Or.inl rfl))
        (pss_cons (ps_set (i := 6) scPl.nd rfl (Or.inl rfl) (pe_ok GF hr (pa_cons (pv 0) (pa_cons (pv 3) (pa_cons (pe_fld (pv 5) rfl) (pa_cons (pe_fld (pv 5) rfl) pa_nil))))))
        (pss_cons (ps_expr (pe_ok GO hr1 (pa_cons (pv 3) (pa_cons (pv 6) pa_nil))))
        (pss_one (ps_expr (pe_bm PySem.F.plainAttrs_list PySem.F.slot_list_append PySem.F.type_list_append mt_append (pv 4) (pa_cons (pe_okC GS hr3 (pa_cons (pv 5) (pa_cons (pv 6) pa_nil))) pa_nil)))))))
      (pss_one (ps_ret (pv 4))))), ?_⟩
    refine ⟨_, rfl, d, kvs, rfl, hd, fun r hr0 => ?_⟩
    have s0 : Same H (upd H r (.dK kvs)) := same_new hr0
    refine ⟨Nat.zero_le _, fun t ht => ?_⟩
    have s1 : Same H (upd (upd H r (.dK kvs)) t (.lst [])) := s0.trans (same_new ht)
    have htH : H t = none := s0.free ht
    have hqs : qs.map (fun q => V.ref q.1) = (qs.map Prod.fst).map V.ref := by rw [List.map_map]; rfl
    have hql : qs.length ≤ 100 := by rw [← List.length_map (f := Prod.snd), hb2]; exact hdz
    refine ⟨_, rfl, b, qs.map Prod.fst, qs.map fun q => ((q.2.day : Int), (q.2.num : Int)), rfl, SqL.of (by rw [← hqs]; exact s1 _ _ hb1), by simp, by rw [List.length_map]; omega, fun j p kk H' Q' hp hk s2 hq => ?_, fun out b' H2 so s2 hb' => ?_⟩
    · obtain ⟨q, hq1, rfl⟩ := map_get hp
      obtain ⟨q2, hq2, rfl⟩ := map_get hk
      rw [hq1] at hq2
      cases hq2
      exact ⟨q.1, q.2, rfl, (hb3 q (List.mem_of_getElem? hq1)).same (s1.trans s2), fun t2 ht2 => hq t2 _ (same_new ht2) upd_same⟩
    · obtain ⟨ys, hy1, hy2, rfl⟩ := sorted_dems (by rw [← hb2, List.map_map] at hdn; exact hdn) so
      have ey : ys.map Prod.snd = ods := Vb.uniq Vb.demLt_asym hy2 hod fun z => by
        rw [hodm, ← hb2]
        exact (hy1.map Prod.snd).mem_iff
      have hyl : ys.length ≤ 100 := by rw [hy1.length_eq]; exact hql
      have hrt : r ≠ t := fun e => by rw [← e, upd_same] at ht; cases ht
      have s12 := s1.trans s2
      refine ⟨b', rfl, ⟨_, SqL.of hb'⟩, for_list (K := K) (a := b') (xs := ys.map fun q => V.ref q.1)
        (fun j σ H' => ∃ v5 v6, σ = [some (.ref a), some (.ref d), some (.ref b), some (.ref r), some (.ref t), v5, v6] ∧ Same H H' ∧ H' b' = some (.lst (ys.map fun q => V.ref q.1)) ∧ LeftAt H' r ix (mleft ord (cvr l) f (ods.take j)) ∧ SharesAt CS CD H' pa t (mplan ord (cvr l) f (ods.take j)) ∧ (b' = t → ys = []))
        ⟨none, none, rfl, s12, by rw [hb', List.map_map]; rfl, ⟨kvs, s2 _ _ (by rw [upd_ne hrt]; exact upd_same), hkl, hkv⟩, ⟨[], by rw [s2 _ _ upd_same]; rfl, rfl, by simp⟩, ?_⟩ (fun j σ H' _ ⟨_, _, _, _, hb', _⟩ => SqL.of hb') ?_ ?_⟩
      · intro e
        subst e
        have := s2 _ _ (upd_same (H := upd H r (.dK kvs)) (a := b') (o := .lst []))
        rw [hb'] at this
        cases ys with
        | nil => rfl
        | cons y r => cases this
      · rintro j y σ H' hj ⟨v5, v6, rfl, s3, hb3', hlf, hsh, hbt⟩
        obtain ⟨q, hq, rfl⟩ := map_get hj
        have hbt' : b' ≠ t := fun e => by rw [hbt e] at hq; simp at hq
        have hqm : q ∈ qs := hy1.mem_iff.mp (List.mem_of_getElem? hq)
        have hoj : ods[j]? = some q.2 := by rw [← ey, List.getElem?_map, hq]; rfl
        obtain ⟨ddx, hdem⟩ := (hb3 q hqm).same s3
        have etk : ods.take (j + 1) = ods.take j ++ [q.2] := by rw [List.take_add_one, hoj]; rfl
        obtain ⟨em1, em2⟩ := Vb.mplan_snoc ord (cvr l) q.2 (ods.take j) f
        rw [← etk] at em1 em2
        generalize hm : mleft ord (cvr l) f (ods.take j) = m at hlf em1 em2
        generalize hpp : mplan ord (cvr l) f (ods.take j) = pp at hsh em1
        have hppl : pp.length ≤ 100 := by
          rw [← hpp, mplan_len, List.length_take, ← ey, List.length_map]; omega
        refine ⟨_, rfl, _, rfl, _, rfl, q.1, CD, ddx, _, _, rfl, hdem, T.dem.cl, T.dem.no _ (by decide), rfl, _, rfl, q.1, CD, ddx, _, _, rfl, hdem, T.dem.cl, T.dem.no _ (by decide), rfl, ?_⟩
        refine ⟨a, r, pa, l, ix, ord, m, q.2.day, q.2.n, rfl, hl.same s3, hz, hnd, hop, hos, hlf, fun H4 tk s4 htk0 htk => ?_⟩
        generalize hch : chunk (fun i => cvr l i q.2.day) m ord q.2.n = ch at htk em1 em2
        have hch1 : ∀ e ∈ ch.1, e.1 ∈ ix := fun e he => by rw [← hch] at he; exact hop.mem_iff.mp (Vb.chunk_mem he).1
        have hchl : ch.1.length ≤ 100 := by
          rw [← hch]
          exact Nat.le_trans (Vb.chunk_len _ _ _ _) (by rw [hop.length_eq]; exact hz)
        have hchs : Vb.tsum ch.1 + ch.2 = q.2.n := by rw [← hch]; exact Vb.chunk_sum _ _ _ _
        obtain ⟨kv4, hr4, hkl4, hkv4⟩ := id hlf
        refine ⟨_, rfl, _, rfl, r, tk, pa, l, ix, m, ch.1, rfl, ⟨kv4, s4 _ _ hr4, hkl4, hkv4⟩, htk, fun e he => ⟨hch1 e he, (hl.2 _ (hch1 e he)).same (s3.trans s4)⟩, by rw [← hch]; exact chunk_fits _ _ _ _ (hop.nodup_iff.mpr hnd), fun H5 s5 hl5 => ?_⟩
        have hr4' := s4 _ _ hr4
        have s35 : Same H H5 := fun b o e => s5 b o (s4 _ _ (s3 _ _ e)) (ne_of_none e hr0)
        have hsh5 : SharesAt CS CD H5 pa t pp := (hsh.same s4).dk s5 hr4'
        have htk5 : TakAt H5 pa tk ch.1 := htk.dk s5 hr4'
        have hdem5 : DemAt CD H5 q.1 q.2 := (DemAt.same ⟨ddx, hdem⟩ s4).dk s5 hr4'
        obtain ⟨zs, hz1, hz2, hz3⟩ := id hsh5
        have htkt : tk ≠ t := fun e => by
          obtain ⟨zs', hz1', _⟩ := hsh
          rw [← e, htk0] at hz1'; cases hz1'
        refine ⟨_, rfl, .inl ⟨rfl, _, SqL.of hz1⟩, _, rfl, _, rfl, fun x dx nx ndx hne => ?_⟩
        have s6 : Same H5 (upd (upd H5 dx (.own x)) x (.ins CS dx [])) := (same_new ndx).trans (same_new (by rw [upd_ne hne.symm]; exact nx))
        refine ⟨x, dx, q.1, tk, pa, q.2, ch.1, rfl, upd_same, hdem5.same s6, htk5.same s6, by omega, fun H7 s7 h7 => ⟨rfl, ?_⟩⟩
        have s57 : Same H5 H7 := fun b o e => s7 b o (s6 _ _ e) (ne_of_none e nx)
        have hsha : ShaAt CS CD H7 pa x tk (q.2, ch) := by
          refine ⟨dx, q.1, ?_, hdem5.same s57, htk5.same s57⟩
          rw [h7]
          have : (q.2.n : Int) - ((tsum ch.1 : Nat) : Int) = ((ch.2 : Nat) : Int) := by
            have : tsum ch.1 = Vb.tsum ch.1 := rfl
            omega
          rw [this]
        obtain ⟨xs, hx1, hx2, hx3⟩ := (hsh5.same s57).snoc hsha htkt
        refine ⟨t, _, _, rfl, rfl, hx1, small1000 (by omega), ?_⟩
        refine ⟨_, _, rfl, fun b o e => ?_, ?_, ?_, ?_, hbt⟩
        · rw [upd_ne (ne_of_none e htH)]; exact s57 _ _ (s35 _ _ e)
        · rw [upd_ne hbt']
          exact s57 _ _ (s5 _ _ (s4 _ _ hb3') (ne_of (s4 _ _ hb3') hr4' (by intro z; cases z)))
        · rw [em2]
          obtain ⟨kv5, g1, g2, g3⟩ := hl5
          exact ⟨kv5, by rw [upd_ne hrt]; exact s57 _ _ g1, g2, g3⟩
        · rw [em1]; exact hx3
      · rintro σ H' ⟨v5, v6, rfl, s3, _, _, hsh, _⟩
        have : (ys.map fun q => V.ref q.1).length = ods.length := by rw [← ey, List.length_map, List.length_map]
        rw [this, List.take_length] at hsh
        exact ⟨_, rfl, k H' t s3 htH hsh⟩
end
end Rs
end
section
set_option maxHeartbeats 2000000
namespace Rs
open PySem PySem.Spec PyProof.Rows L2
open Vblaak (Lot Demand lotAt)
open Vb (chunk mplan mleft subs sub1 cvr lf lotLt demLt lastOf Sh pulls Reach putKey base0 passD)
/-- within a comprehension: the fragment named -/
theorem pe_fldK {X : Cx} {e : Expr} {ta : TE} {f : Str} {pos : Pos} (K : PySem.W.Frag) (he : PE X e ta) (hb : attributeBase e f X.env (eval e X.env) = eval e X.env := by rfl) (hK : X.K = K := by rfl) : PE X (.Attribute e f pos) (tFld K ta f) := by
  subst hK
  exact pe_fld he hb
theorem op_in_seqK {X : Cx} (K : PySem.W.Frag) (hK : X.K = K := by rfl) : OpR X (compareOp .In) (rIn K false) := by
  subst hK
  exact op_in_seq
section
variable {P : Program} {w : World} {K : PySem.W.Frag} {mg : Str → Option Value} {base : Heap} {CL CD CS : Addr}
/-! Lot, Demand -/
abbrev sLoI : Stmt := inClass (top 1) 0
abbrev lotG (n a c l d : Int) : List (Str × V) := [("number", .int n), ("article", .int a), ("comes", .int c), ("last", .int l), ("left", .int d), ("had", .int d)]
def spLoI (CL : Addr) : Sp := fun vs H Q _ => ∃ p dx, ∃ n a c l d : Int, vs = [.ref p, .int n, .int a, .int c, .int l, .int d] ∧ H p = some (.ins CL dx []) ∧ ∀ H', SBut p H H' → H' p = some (.ins CL dx (lotG n a c l d)) → Q .non H'
theorem scLoI : FnScope ["self", "number", "article", "comes", "last", "doses"] ["self", "number", "article", "comes", "last", "doses"] (defScope sLoI) := ⟨rfl, rfl, rfl, by decide +kernel, rfl, by decide +kernel, by decide +kernel⟩
theorem ok_loI (h : HasC K mg CL "Lot" "Lot.__init__" sLoI ["self", "number", "article", "comes", "last", "doses"]) (T : Txt K mg CL CD CS) : OkC P w K mg base CL 1 "Lot" ["self", "number", "article", "comes", "last", "doses"] (spLoI CL) := by
  refine h.ok scLoI (fun vs H Q E h => ?_) (fun f0 cdv A outer s H vs Q E hr h => ?_)
  · obtain ⟨p, dx, n, a, c, l, d, rfl, _⟩ := h
    rfl
  · obtain ⟨p, dx, n, a, c, l, d, rfl, hp, k⟩ := h
    refine ⟨_, pss_cons (ps_fld (pv 0) (pv 1) rfl) (pss_cons (ps_fld (pv 0) (pv 2) rfl) (pss_cons (ps_fld (pv 0) (pv 3) rfl) (pss_cons (ps_fld (pv 0) (pv 4) rfl) (pss_cons (ps_fld (pv 0) (pv 5) rfl) (pss_one (ps_fld (pv 0) (pv 5) rfl)))))), ?_⟩
    refine ⟨_, rfl, _, rfl, p, CL, dx, _, rfl, hp, T.lot.cl, T.lot.no _ (by decide), (by decide), ?_⟩
    refine ⟨_, rfl, _, rfl, p, CL, dx, _, rfl, upd_same, T.lot.cl, T.lot.no _ (by decide), (by show 1 < 1000; decide), ?_⟩
    refine ⟨_, rfl, _, rfl, p, CL, dx, _, rfl, upd_same, T.lot.cl, T.lot.no _ (by decide), (by show 2 < 1000; decide), ?_⟩
    refine ⟨_, rfl, _, rfl, p, CL, dx, _, rfl, upd_same, T.lot.cl, T.lot.no _ (by decide), (by show 3 < 1000; decide), ?_⟩
    refine ⟨_, rfl, _, rfl, p, CL, dx, _, rfl, upd_same, T.lot.cl, T.lot.no _ (by decide), (by show 4 < 1000; decide), ?_⟩
    refine ⟨_, rfl, _, rfl, p, CL, dx, _, rfl, upd_same, T.lot.cl, T.lot.no _ (by decide), (by show 5 < 1000; decide), ?_⟩
    exact k _ (fun b o e hb => by simp only [upd_ne hb]; exact e) upd_same
abbrev sDeI : Stmt := inClass (top 2) 0
abbrev demG (n a c l : Int) : List (Str × V) := [("number", .int n), ("article", .int a), ("day", .int c), ("doses", .int l)]
def spDeI (CD : Addr) : Sp := fun vs H Q _ => ∃ p dx, ∃ n a c l : Int, vs = [.ref p, .int n, .int a, .int c, .int l] ∧ H p = some (.ins CD dx []) ∧ ∀ H', SBut p H H' → H' p = some (.ins CD dx (demG n a c l)) → Q .non H'
theorem scDeI : FnScope ["self", "number", "article", "day", "doses"] ["self", "number", "article", "day", "doses"] (defScope sDeI) := ⟨rfl, rfl, rfl, by decide +kernel, rfl, by decide +kernel, by decide +kernel⟩
theorem ok_deI (h : HasC K mg CD "Demand" "Demand.__init__" sDeI ["self", "number", "article", "day", "doses"]) (T : Txt K mg CL CD CS) : OkC P w K mg base CD 1 "Demand" ["self", "number", "article", "day", "doses"] (spDeI CD) := by
  refine h.ok scDeI (fun vs H Q E h => ?_) (fun f0 cdv A outer s H vs Q E hr h => ?_)
  · obtain ⟨p, dx, n, a, c, l, rfl, _⟩ := h
    rfl
  · obtain ⟨p, dx, n, a, c, l, rfl, hp, k⟩ := h
    refine ⟨_, pss_cons (ps_fld (pv 0) (pv 1) rfl) (pss_cons (ps_fld (pv 0) (pv 2) rfl) (pss_cons (ps_fld (pv 0) (pv 3) rfl) (pss_one (ps_fld (pv 0) (pv 4) rfl)))), ?_⟩
    refine ⟨_, rfl, _, rfl, p, CD, dx, _, rfl, hp, T.dem.cl, T.dem.no _ (by decide), (by decide), ?_⟩
    refine ⟨_, rfl, _, rfl, p, CD, dx, _, rfl, upd_same, T.dem.cl, T.dem.no _ (by decide), (by show 1 < 1000; decide), ?_⟩
    refine ⟨_, rfl, _, rfl, p, CD, dx, _, rfl, upd_same, T.dem.cl, T.dem.no _ (by decide), (by show 2 < 1000; decide), ?_⟩
    refine ⟨_, rfl, _, rfl, p, CD, dx, _, rfl, upd_same, T.dem.cl, T.dem.no _ (by decide), (by show 3 < 1000; decide), ?_⟩
    exact k _ (fun b o e hb => by simp only [upd_ne hb]; exact e) upd_same
/-! doses_served, doses_lacking -/
abbrev sSv : Stmt := top 13
def servedSum (p : List Sh) : Nat := (p.map fun x => tsum x.2.1).sum
def spSv (CS CD : Addr) : Sp := fun vs H Q _ => ∃ a pa p, vs = [.ref a] ∧ SharesAt CS CD H pa a p ∧ p.length ≤ 100 ∧ (∀ x ∈ p, x.2.1.length ≤ 100) ∧ ∀ H', Same H H' → Q (.int (servedSum p : Nat)) H'
theorem scSv : FnScope ["shares", "share"] ["shares"] (defScope sSv) := ⟨rfl, rfl, rfl, by decide +kernel, rfl, by decide +kernel, by decide +kernel⟩
theorem ok_sv (h : Has K mg "doses_served" sSv ["shares"]) (T : Txt K mg CL CD CS) (GD : Ok P w K mg base 1 "doses_of" ["taken"] spDo) : Ok P w K mg base 2 "doses_served" ["shares"] (spSv CS CD) := by
  refine h.ok scSv (fun vs H Q E h => ?_) (fun f cdv A outer s H vs Q E hr h => ?_)
  · obtain ⟨a, pa, ts, rfl, _⟩ := h
    rfl
  · obtain ⟨a, pa, p, rfl, ⟨zs, h1, h2, h3⟩, hz, hzt, k⟩ := h
    have hlen : zs.length = p.length := by rw [← h2, List.length_map]
    refine ⟨_, pss_one (ps_ret (pe_callB (cr_sum rfl) (by rfl) (T.blt _ (by decide)) PyProof.Rows.boot_sum (pa_cons (pe_lc' [("share", 1)] (gName 1) rfl scSv.nd (pi_list (pv 0)) rfl
      (fun s H C cl fp => pg_name (i := 1) scSv.nd rfl (Or.inl rfl) (Or.inr rfl))
      (fun s H C cl fp => pts_nil) (fun s H C cl fp => pe_ok GD hr (pa_cons (pe_fldK K (pv 1)) pa_nil))) pa_nil))), ?_⟩
    refine ⟨_, rfl, a, rfl, ⟨_, SqL.of h1⟩, fun D hD => ?_⟩
    refine lc_l zs (fun z => V.ref z.1) (fun z => some (V.int (tsum z.2.2.2.1 : Nat))) hD (SqL.of h1) (small1000 (by omega)) (fun z H' Nx hz' s1 kp kn => ?_) (fun H' s1 hl => ?_)
    · obtain ⟨dx, dp, g1, g2, g3⟩ := (h3 z hz').2.same s1
      refine ⟨rfl, _, rfl, z.1, CS, dx, _, _, rfl, g1, T.sha.cl, T.sha.no _ (by decide), rfl, z.2.1, pa, _, rfl, g3, ?_, fun H2 s2 => kp H2 _ s2 rfl⟩
      have := hzt z.2.2 (by rw [← h2]; exact List.mem_map.mpr ⟨z, hz', rfl⟩)
      omega
    · refine ⟨D, zs.map fun z => ((tsum z.2.2.2.1 : Nat) : Int), rfl, SqL.of ?_, ?_⟩
      · rw [hl]
        congr 2
        rw [List.map_map, List.filterMap_eq_map']
        rfl
      · have e : (zs.map fun z => ((tsum z.2.2.2.1 : Nat) : Int)).sum = ((servedSum p : Nat) : Int) := by
          unfold servedSum
          rw [← int_sum, ← h2, List.map_map, List.map_map]
          rfl
        rw [e]
        exact k H' s1
abbrev sLk : Stmt := top 14
def spLk (CS CD : Addr) : Sp := fun vs H Q _ => ∃ a pa p, vs = [.ref a] ∧ SharesAt CS CD H pa a p ∧ p.length ≤ 100 ∧ ∀ H', Same H H' → Q (.int (Vb.lackSum p : Nat)) H'
theorem scLk : FnScope ["shares", "share"] ["shares"] (defScope sLk) := ⟨rfl, rfl, rfl, by decide +kernel, rfl, by decide +kernel, by decide +kernel⟩
theorem ok_lk (h : Has K mg "doses_lacking" sLk ["shares"]) (T : Txt K mg CL CD CS) : Ok P w K mg base 1 "doses_lacking" ["shares"] (spLk CS CD) := by
  refine h.ok scLk (fun vs H Q E h => ?_) (fun f cdv A outer s H vs Q E hr h => ?_)
  · obtain ⟨a, pa, ts, rfl, _⟩ := h
    rfl
  · obtain ⟨a, pa, p, rfl, ⟨zs, h1, h2, h3⟩, hz, k⟩ := h
    have hlen : zs.length = p.length := by rw [← h2, List.length_map]
    refine ⟨_, pss_one (ps_ret (pe_callB (cr_sum rfl) (by rfl) (T.blt _ (by decide)) PyProof.Rows.boot_sum (pa_cons (pe_lc' [("share", 1)] (gName 1) rfl scLk.nd (pi_list (pv 0)) rfl
      (fun s H C cl fp => pg_name (i := 1) scLk.nd rfl (Or.inl rfl) (Or.inr rfl))
      (fun s H C cl fp => pts_nil) (fun s H C cl fp => pe_fldK K (pv 1))) pa_nil))), ?_⟩
    refine ⟨_, rfl, a, rfl, ⟨_, SqL.of h1⟩, fun D hD => ?_⟩
    refine lc_l zs (fun z => V.ref z.1) (fun z => some (V.int (z.2.2.2.2 : Nat))) hD (SqL.of h1) (small1000 (by omega)) (fun z H' Nx hz' s1 kp kn => ?_) (fun H' s1 hl => ?_)
    · obtain ⟨dx, dp, g1, g2, g3⟩ := (h3 z hz').2.same s1
      exact ⟨rfl, _, rfl, z.1, CS, dx, _, _, rfl, g1, T.sha.cl, T.sha.no _ (by decide), rfl, kp H' _ (Same.refl _) rfl⟩
    · refine ⟨D, zs.map fun z => ((z.2.2.2.2 : Nat) : Int), rfl, SqL.of ?_, ?_⟩
      · rw [hl]
        congr 2
        rw [List.map_map, List.filterMap_eq_map']
        rfl
      · have e : (zs.map fun z => ((z.2.2.2.2 : Nat) : Int)).sum = ((Vb.lackSum p : Nat) : Int) := by
          unfold Vb.lackSum
          rw [← int_sum, ← h2, List.map_map, List.map_map]
          rfl
        rw [e]
        exact k H' s1
/-! draws_on -/
abbrev sDr : Stmt := top 15
/-- the lots that shares take of -/
def LotsIn (CL : Addr) (H : Hp) (pa : Nat → Addr) (l : List Lot) (ts : List (Nat × Nat)) : Prop := ∀ e ∈ ts, LotAt CL H (pa e.1) e.1 (lotAt l e.1)
theorem LotsIn.same {CL : Addr} {H H' : Hp} {pa : Nat → Addr} {l : List Lot} {ts : List (Nat × Nat)} (h : LotsIn CL H pa l ts) (s : Same H H') : LotsIn CL H' pa l ts := fun e he => (h e he).same s
theorem DaysAt.same {H H' : Hp} {a : Addr} {ds : List Nat} (h : DaysAt H a ds) (s : Same H H') : DaysAt H' a ds := by
  rcases h with h | ⟨kvs, h, e⟩
  · exact .inl (s _ _ h)
  · exact .inr ⟨kvs, s _ _ h, e⟩
def spDr (CL CD CS : Addr) : Sp := fun vs H Q _ => ∃ p t pa x a ds l, vs = [.ref p, .ref a] ∧ ShaAt CS CD H pa p t x ∧ x.2.1.length ≤ 100 ∧ LotsIn CL H pa l x.2.1 ∧ DaysAt H a ds ∧ ds.length < 1000 ∧ ∀ H', Same H H' → Q (.bl (pulls l x ds)) H'
theorem scDr : FnScope ["share", "days", "lot", "doses"] ["share", "days"] (defScope sDr) := ⟨rfl, rfl, rfl, by decide +kernel, rfl, by decide +kernel, by decide +kernel⟩
theorem ok_dr (h : Has K mg "draws_on" sDr ["share", "days"]) (T : Txt K mg CL CD CS) (GO : Ok P w K mg base 2 "is_good_on_one" ["lot", "days"] (spOne CL)) : Ok P w K mg base 3 "draws_on" ["share", "days"] (spDr CL CD CS) := by
  refine h.ok scDr (fun vs H Q E h => ?_) (fun f cdv A outer s H vs Q E hr h => ?_)
  · obtain ⟨p, t, pa, x, a, ds, l, rfl, _⟩ := h
    rfl
  · obtain ⟨p, t, pa, x, a, ds, l, rfl, ⟨dx, dp, g1, g2, ⟨zs, h1, h2, h3⟩⟩, hz, hlo, hda, hdl, k⟩ := h
    have hlen : zs.length = x.2.1.length := by rw [← h2, List.length_map]
    refine ⟨_, pss_one (ps_ret (pe_callB (cr_any rfl) (by rfl) (T.blt _ (by decide)) boot_any' (pa_cons (pe_lc' [("lot", 2), ("doses", 3)] (gTup K 2 (gCons (gName 2) (gCons (gName 3) gNil))) rfl scDr.nd (pi_list (pe_fld (pv 0) rfl)) rfl
      (fun s H C cl fp => pg_tup (n := 2) rfl (pgs_cons (pg_name (i := 2) scDr.nd rfl (Or.inl rfl) (Or.inr rfl)) (pgs_cons (pg_name (i := 3) scDr.nd rfl (Or.inl rfl) (Or.inr rfl)) pgs_nil)))
      (fun s H C cl fp => pts_nil) (fun s H C cl fp => pe_ok GO hr (pa_cons (pv 2) (pa_cons (pv 1) pa_nil)))) pa_nil))), ?_⟩
    refine ⟨_, rfl, p, CS, dx, _, _, rfl, g1, T.sha.cl, T.sha.no _ (by decide), rfl, t, rfl, ⟨_, SqL.of h1⟩, fun D hD => ?_⟩
    refine lc_l zs (fun z => V.ref z.1) (fun z => some (V.bl (ds.any fun d => cvr l z.2.1 d))) hD (SqL.of h1) (small1000 (by omega)) (fun z H' Nx hz' s1 kp kn => ?_) (fun H' s1 hl => ?_)
    · have hm : z.2 ∈ x.2.1 := by rw [← h2]; exact List.mem_map.mpr ⟨z, hz', rfl⟩
      refine ⟨z.1, _, rfl, SqT.of (s1 _ _ (h3 z hz')), rfl, _, _, rfl, _, _, rfl, rfl, rfl, ?_⟩
      exact ⟨_, rfl, _, rfl, pa z.2.1, z.2.1, lotAt l z.2.1, a, ds, rfl, (hlo _ hm).same s1, hda.same s1, hdl, fun H2 s2 => kp H2 _ s2 rfl⟩
    · refine ⟨D, zs.map fun z => ds.any fun d => cvr l z.2.1 d, rfl, SqL.of ?_, ?_⟩
      · rw [hl]
        congr 2
        rw [List.map_map, List.filterMap_eq_map']
        rfl
      · have e : (zs.map fun z => ds.any fun d => cvr l z.2.1 d).any id = pulls l x ds := by
          unfold pulls
          rw [← h2, List.any_map, List.any_map]
          rfl
        rw [e]
        exact k H' s1
/-! doses_asked_on, doses_left_for -/
abbrev sAo : Stmt := top 17
def spAo (CD : Addr) : Sp := fun vs H Q _ => ∃ b a, ∃ (ds : List Demand) (T : List Nat), vs = [.ref b, .ref a] ∧ DemsAt CD H b ds ∧ ds.length ≤ 100 ∧ H a = some (.lst (T.map fun (d : Nat) => V.int d)) ∧ ∀ H', Same H H' → Q (.int (((ds.filter fun x => T.contains x.day).map fun x => x.n).sum : Nat)) H'
theorem scAo : FnScope ["demands", "days", "demand"] ["demands", "days"] (defScope sAo) := ⟨rfl, rfl, rfl, by decide +kernel, rfl, by decide +kernel, by decide +kernel⟩
theorem inV_days (T : List Nat) (d : Nat) : inV (.int (d : Nat)) (T.map fun (d : Nat) => V.int d) = T.contains d := by
  unfold inV
  rw [List.any_map, List.contains_eq_any_beq]
  refine congrArg (List.any T) (funext fun x => ?_)
  show ((x : Int) == (d : Int)) = (d == x)
  rw [Bool.eq_iff_iff]
  simp only [beq_iff_eq]
  omega
theorem fm_filter {α : Type} (p : α → Bool) (g : α → V) (l : List α) : l.filterMap (fun x => if p x = true then some (g x) else none) = (l.filter p).map g := by
  induction l with
  | nil => rfl
  | cons x r ih =>
    rw [List.filterMap_cons, List.filter_cons]
    by_cases h : p x = true
    · rw [if_pos h, if_pos h, List.map_cons, ← ih]
    · rw [if_neg h, if_neg h, ih]
theorem ok_ao (h : Has K mg "doses_asked_on" sAo ["demands", "days"]) (T : Txt K mg CL CD CS) : Ok P w K mg base 1 "doses_asked_on" ["demands", "days"] (spAo CD) := by
  refine h.ok scAo (fun vs H Q E h => ?_) (fun f cdv A outer s H vs Q E hr h => ?_)
  · obtain ⟨b, a, ds, D, rfl, _⟩ := h
    rfl
  · obtain ⟨b, a, ds, TT, rfl, ⟨qs, h1, h2, h3⟩, hz, ha, k⟩ := h
    have hlen : qs.length = ds.length := by rw [← h2, List.length_map]
    refine ⟨_, pss_one (ps_ret (pe_callB (cr_sum rfl) (by rfl) (T.blt _ (by decide)) PyProof.Rows.boot_sum (pa_cons (pe_lc' [("demand", 2)] (gName 2) rfl scAo.nd (pi_list (pv 0)) rfl
      (fun s H C cl fp => pg_name (i := 2) scAo.nd rfl (Or.inl rfl) (Or.inr rfl))
      (fun s H C cl fp => pts_one (pt_cmpR (op_in_seqK K) (pe_fldK K (pv 2)) (pv 1) rfl)) (fun s H C cl fp => pe_fldK K (pv 2))) pa_nil))), ?_⟩
    refine ⟨_, rfl, b, rfl, ⟨_, SqL.of h1⟩, fun D hD => ?_⟩
    refine lc_l qs (fun z => V.ref z.1) (fun z => if TT.contains z.2.day = true then some (V.int (z.2.n : Nat)) else none) hD (SqL.of h1) (small1000 (by omega)) (fun z H' Nx hz' s1 kp kn => ?_) (fun H' s1 hl => ?_)
    · obtain ⟨dx, g⟩ := (h3 z hz').same s1
      refine ⟨rfl, _, rfl, z.1, CD, dx, _, _, rfl, g, T.dem.cl, T.dem.no _ (by decide), rfl, _, rfl, a, _, rfl, .inl (SqL.of (s1 _ _ ha)), rfl, ?_, _, rfl, ?_⟩
      · rw [List.all_map]; exact List.all_eq_true.mpr fun _ _ => rfl
      · show if (inV _ _) = true then _ else _
        rw [inV_days]
        refine ite2 (fun hc => ?_) fun hc => ?_
        · exact ⟨_, rfl, z.1, CD, dx, _, _, rfl, g, T.dem.cl, T.dem.no _ (by decide), rfl, kp H' _ (Same.refl _) (if_pos hc)⟩
        · exact kn H' (Same.refl _) (if_neg hc)
    · refine ⟨D, (qs.filter fun z => TT.contains z.2.day).map fun z => ((z.2.n : Nat) : Int), rfl, SqL.of ?_, ?_⟩
      · rw [hl, fm_filter, List.map_map]
        rfl
      · have e : ((qs.filter fun z => TT.contains z.2.day).map fun z => ((z.2.n : Nat) : Int)).sum = ((((ds.filter fun x => TT.contains x.day).map fun x => x.n).sum : Nat) : Int) := by
          rw [← int_sum, ← h2, List.filter_map, List.map_map, List.map_map]
          rfl
        rw [e]
        exact k H' s1
abbrev sLf : Stmt := top 18
def spLf (CL : Addr) : Sp := fun vs H Q _ => ∃ b a pa l ix, ∃ (T : List Nat), vs = [.ref b, .ref a] ∧ LotsAt CL H b pa l ix ∧ ix.length ≤ 100 ∧ H a = some (.lst (T.map fun (d : Nat) => V.int d)) ∧ T.length < 1000 ∧ ∀ H', Same H H' → Q (.int (((ix.filter fun i => T.any fun d => cvr l i d).map fun i => lf l i).sum : Nat)) H'
theorem scLf : FnScope ["lots", "days", "lot"] ["lots", "days"] (defScope sLf) := ⟨rfl, rfl, rfl, by decide +kernel, rfl, by decide +kernel, by decide +kernel⟩
theorem ok_lf (h : Has K mg "doses_left_for" sLf ["lots", "days"]) (T : Txt K mg CL CD CS) (GO : Ok P w K mg base 2 "is_good_on_one" ["lot", "days"] (spOne CL)) : Ok P w K mg base 3 "doses_left_for" ["lots", "days"] (spLf CL) := by
  refine h.ok scLf (fun vs H Q E h => ?_) (fun f cdv A outer s H vs Q E hr h => ?_)
  · obtain ⟨b, a, pa, l, ix, D, rfl, _⟩ := h
    rfl
  · obtain ⟨b, a, pa, l, ix, TT, rfl, ⟨h1, h3⟩, hz, ha, hT, k⟩ := h
    refine ⟨_, pss_one (ps_ret (pe_callB (cr_sum rfl) (by rfl) (T.blt _ (by decide)) PyProof.Rows.boot_sum (pa_cons (pe_lc' [("lot", 2)] (gName 2) rfl scLf.nd (pi_list (pv 0)) rfl
      (fun s H C cl fp => pg_name (i := 2) scLf.nd rfl (Or.inl rfl) (Or.inr rfl))
      (fun s H C cl fp => pts_one (pt_val (pe_ok GO hr (pa_cons (pv 2) (pa_cons (pv 1) pa_nil))))) (fun s H C cl fp => pe_fldK K (pv 2))) pa_nil))), ?_⟩
    refine ⟨_, rfl, b, rfl, ⟨_, SqL.of h1⟩, fun D hD => ?_⟩
    refine lc_l ix (fun i => V.ref (pa i)) (fun i => if (TT.any fun d => cvr l i d) = true then some (V.int (lf l i : Nat)) else none) hD (SqL.of h1) (small1000 (by omega)) (fun i H' Nx hi s1 kp kn => ?_) (fun H' s1 hl => ?_)
    · refine ⟨rfl, _, rfl, _, rfl, pa i, i, lotAt l i, a, TT, rfl, (h3 i hi).same s1, .inl (s1 _ _ ha), hT, fun H2 s2 => ⟨_, rfl, ?_⟩⟩
      refine ite2 (fun hc => ?_) fun hc => ?_
      · obtain ⟨dx, g⟩ := (h3 i hi).same (s1.trans s2)
        exact ⟨_, rfl, pa i, CL, dx, _, _, rfl, g, T.lot.cl, T.lot.no _ (by decide), rfl, kp H2 _ s2 (if_pos hc)⟩
      · exact kn H2 s2 (if_neg hc)
    · refine ⟨D, (ix.filter fun i => TT.any fun d => cvr l i d).map fun i => ((lf l i : Nat) : Int), rfl, SqL.of ?_, ?_⟩
      · rw [hl, fm_filter, List.map_map]
        rfl
      · have e : ((ix.filter fun i => TT.any fun d => cvr l i d).map fun i => ((lf l i : Nat) : Int)).sum = ((((ix.filter fun i => TT.any fun d => cvr l i d).map fun i => lf l i).sum : Nat) : Int) := by
          rw [← int_sum, List.map_map]
          rfl
        rw [e]
        exact k H' s1
end
end Rs
end
section
set_option maxHeartbeats 2000000
namespace Rs
open PySem PySem.Spec PyProof.Rows L2
open Vblaak (Lot Demand lotAt)
open Vb (chunk mplan mleft subs sub1 cvr lf lotLt demLt lastOf Sh pulls Reach putKey base0 passD)
theorem nodup_len {α : Type} [BEq α] [LawfulBEq α] : ∀ (D L : List α), D.Nodup → (∀ d ∈ D, d ∈ L) → D.length ≤ L.length
  | [], L, _, _ => Nat.zero_le _
  | d :: r, L, h, hs => by
    rw [List.nodup_cons] at h
    have hd : d ∈ L := hs d (by simp)
    have := nodup_len r (L.erase d) h.2 fun x hx => (List.mem_erase_of_ne (fun (e : x = d) => h.1 (e ▸ hx))).mpr (hs x (.tail _ hx))
    rw [List.length_erase_of_mem hd] at this
    have hp : 0 < L.length := List.length_pos_of_mem hd
    simp only [List.length_cons]; omega
theorem reach_day {l : List Lot} {p : List Sh} {d : Nat} (h : Reach l p d) : d ∈ p.map fun x => x.1.day := by
  cases h with
  | base h1 _ => exact List.mem_map.mpr ⟨_, h1, rfl⟩
  | step h1 _ _ _ => exact List.mem_map.mpr ⟨_, h1, rfl⟩
/-- the dict at d: its keys are the days D -/
def DaysD (H : Hp) (d : Addr) (D : List Nat) : Prop := ∃ kvs : List (Key × V), H d = some (.dK kvs) ∧ kvs.map Prod.fst = D.map fun (d : Nat) => Sum.inl (d : Int)
theorem any_key {kvs : List (Key × V)} {D : List Nat} {d : Nat} (h : kvs.map Prod.fst = D.map fun (d : Nat) => (Sum.inl (d : Int) : Key)) : (kvs.any fun kv => decide (kv.1 = Sum.inl (d : Int))) = decide (d ∈ D) := by
  have e : (kvs.any fun kv => decide (kv.1 = Sum.inl (d : Int))) = (kvs.map Prod.fst).any fun k => decide (k = Sum.inl (d : Int)) := by rw [List.any_map]; rfl
  rw [e, h, List.any_map, Bool.eq_iff_iff, List.any_eq_true]
  simp only [Function.comp, decide_eq_true_eq]
  constructor
  · rintro ⟨x, hx, q⟩
    have : (x : Int) = (d : Int) := Sum.inl.inj q
    have : x = d := by omega
    exact this ▸ hx
  · exact fun hd => ⟨d, hd, rfl⟩
theorem put_keys {kvs : List (Key × V)} {D : List Nat} {d : Nat} {v : V} (h : kvs.map Prod.fst = D.map fun (d : Nat) => (Sum.inl (d : Int) : Key)) : (putK kvs (Sum.inl (d : Int)) v).map Prod.fst = (putKey D d).map fun (d : Nat) => (Sum.inl (d : Int) : Key) := by
  unfold putK putKey
  rw [any_key h]
  by_cases hd : d ∈ D
  · rw [if_pos (decide_eq_true hd), if_pos hd, List.map_map, ← h]
    refine List.map_congr_left fun kv _ => ?_
    show (if kv.1 = _ then (kv.1, v) else kv).1 = kv.1
    split <;> rfl
  · rw [if_neg (by simpa using hd), if_neg hd, List.map_append, List.map_append, h]
    rfl
theorem base0_snoc {p : List Sh} {j : Nat} {x : Sh} (D : List Nat) (h : p[j]? = some x) : base0 (p.take (j + 1)) D = if 0 < x.2.2 then putKey (base0 (p.take j) D) x.1.day else base0 (p.take j) D := by
  rw [List.take_add_one, h]
  unfold base0
  rw [List.foldl_append]
  rfl
theorem passD_snoc {l : List Lot} {p : List Sh} {j : Nat} {x : Sh} (D : List Nat) (h : p[j]? = some x) : passD l (p.take (j + 1)) D = if pulls l x (passD l (p.take j) D) = true then putKey (passD l (p.take j) D) x.1.day else passD l (p.take j) D := by
  rw [List.take_add_one, h]
  unfold passD
  rw [List.foldl_append]
  rfl
section
variable {P : Program} {w : World} {K : PySem.W.Frag} {mg : Str → Option Value} {base : Heap} {CL CD CS : Addr}
/-! days_asking_too_much -/
abbrev sTm : Stmt := top 16
def spTm (CL CD CS : Addr) : Sp := fun vs H Q _ => ∃ a pa p l, vs = [.ref a] ∧ SharesAt CS CD H pa a p ∧ p.length ≤ 40 ∧ (∀ x ∈ p, x.2.1.length ≤ 100 ∧ LotsIn CL H pa l x.2.1) ∧
  ∀ H' t T, Same H H' → H t = none → T.Pairwise (· < ·) → (∀ x ∈ p, 0 < x.2.2 → x.1.day ∈ T) → (∀ x ∈ p, pulls l x T = true → x.1.day ∈ T) → (∀ d ∈ T, Reach l p d) → H' t = some (.lst (T.map fun (d : Nat) => V.int d)) → Q (.ref t) H'
theorem scTm : FnScope ["shares", "days", "share", "grows", "before"] ["shares"] (defScope sTm) := ⟨rfl, rfl, rfl, by decide +kernel, rfl, by decide +kernel, by decide +kernel⟩
theorem pulls_ext {l : List Lot} {x : Sh} {D T : List Nat} (h : ∀ d, d ∈ D ↔ d ∈ T) (hp : pulls l x T = true) : pulls l x D = true := by
  obtain ⟨e, he, d, hd, q⟩ := Vb.pulls_iff.mp hp
  exact Vb.pulls_iff.mpr ⟨e, he, d, (h d).mpr hd, q⟩
theorem ok_tm (h : Has K mg "days_asking_too_much" sTm ["shares"]) (T : Txt K mg CL CD CS) (GD : Ok P w K mg base 3 "draws_on" ["share", "days"] (spDr CL CD CS)) : Ok P w K mg base 4 "days_asking_too_much" ["shares"] (spTm CL CD CS) := by
  refine h.ok scTm (fun vs H Q E h => ?_) (fun f0 cdv A outer s H vs Q E hr h => ?_)
  · obtain ⟨a, pa, p, l, rfl, _⟩ := h
    rfl
  · obtain ⟨a, pa, p, l, rfl, ⟨zs, h1, h2, h3⟩, hz, hx, k⟩ := h
    have hu := hu_of hr
    have hlen : zs.length = p.length := by rw [← h2, List.length_map]
    refine ⟨_, pss_cons (ps_set (i := 1) scTm.nd rfl (Or.inl rfl) pe_dnewK)
      (pss_cons (ps_for PassesOwn.never rfl (pi_list (pv 0)) (pg_name (i := 2) scTm.nd rfl (Or.inl rfl))
        (pss_one (ps_if (pt_cmpR op_gt (pe_fld (pv 2) rfl) pe_int (nomark _)) (pss_one (ps_dput hu (pv 1) (pe_fld (pe_fld (pv 2) rfl) rfl) pe_bl rfl)) pss_nil)))
      (pss_cons (ps_set (i := 3) scTm.nd rfl (Or.inl rfl) pe_bl)
      (pss_cons (ps_while PassesOwn.never (pt_val (pv 3))
        (pss_cons (ps_set (i := 4) scTm.nd rfl (Or.inl rfl) (pe_callB call_lenD (by rfl) (T.blt _ (by decide)) PySem.boot_len (pa_cons (pv 1) pa_nil)))
        (pss_cons (ps_for PassesOwn.never rfl (pi_list (pv 0)) (pg_name (i := 2) scTm.nd rfl (Or.inl rfl))
          (pss_one (ps_if (pt_val (pe_ok GD hr (pa_cons (pv 2) (pa_cons (pv 1) pa_nil)))) (pss_one (ps_dput hu (pv 1) (pe_fld (pe_fld (pv 2) rfl) rfl) pe_bl rfl)) pss_nil)))
        (pss_one (ps_set (i := 3) scTm.nd rfl (Or.inl rfl) (pe_cmpR op_gt (pe_callB call_lenD (by rfl) (T.blt _ (by decide)) PySem.boot_len (pa_cons (pv 1) pa_nil)) (pv 4) (nomark _)))))))
      (pss_one (ps_ret (pe_callB (cr_sortedD rfl) (by rfl) (T.blt _ (by decide)) PyProof.Rows.boot_sorted (pa_cons (pv 1) pa_nil))))))), ?_⟩
    intro d hd
    have s0 : Same H (upd H d (.dK [])) := same_new hd
    have hg : ∀ {j : Nat} {z : Addr × Addr × Sh}, zs[j]? = some z → p[j]? = some z.2.2 := fun {j z} e => by rw [← h2, List.getElem?_map, e]; rfl
    refine ⟨_, rfl, a, rfl, ⟨_, SqL.of (s0 _ _ h1)⟩, for_list (K := K) (a := a) (xs := zs.map fun z => V.ref z.1)
      (fun j σ H' => ∃ v2, σ = [some (.ref a), some (.ref d), v2, none, none] ∧ Same H H' ∧ DaysD H' d (base0 (p.take j) []))
      ⟨none, rfl, s0, [], upd_same, rfl⟩ (fun j σ H' _ ⟨_, _, s1, _⟩ => SqL.of (s1 _ _ h1)) ?_ ?_⟩
    · rintro j y σ H' hj ⟨v2, rfl, s1, kvs, hk1, hk2⟩
      obtain ⟨z, hzj, rfl⟩ := map_get hj
      have hzm : z ∈ zs := List.mem_of_getElem? hzj
      obtain ⟨dx, dp, g1, ⟨ddx, g2⟩, g3⟩ := (h3 z hzm).2.same s1
      refine ⟨_, rfl, z.1, CS, dx, _, _, rfl, g1, T.sha.cl, T.sha.no _ (by decide), rfl, _, _, rfl, rfl, _, rfl, ?_⟩
      have eb := base0_snoc [] (hg hzj)
      refine ite2 (fun hc => ?_) fun hc => ?_
      · have hc' : 0 < z.2.2.2.2 := by have := of_decide_eq_true hc; omega
        rw [if_pos hc'] at eb
        have hkl : kvs.length ≤ 40 := by
          have e1 := congrArg List.length hk2
          rw [List.length_map, List.length_map] at e1
          obtain ⟨b1, b2⟩ := Vb.base0_is (p.take j) [] (by simp)
          have := nodup_len _ (p.map fun x => x.1.day) b1 fun d hd => by
            rcases (b2 d).mp hd with q | ⟨x, hx, _, rfl⟩
            · simp at q
            · exact List.mem_map.mpr ⟨x, List.mem_of_mem_take hx, rfl⟩
          rw [List.length_map] at this
          omega
        refine ⟨_, rfl, _, rfl, z.1, CS, dx, _, _, rfl, g1, T.sha.cl, T.sha.no _ (by decide), rfl, dp, CD, ddx, _, _, rfl, g2, T.dem.cl, T.dem.no _ (by decide), rfl, d, _, rfl, DPut.k (k := Sum.inl (z.2.2.1.day : Int)) hk1 (small1000 (by omega)), ?_⟩
        exact ⟨_, rfl, fun b o e => by rw [upd_ne (ne_of_none e hd)]; exact s1 _ _ e, _, upd_same, by rw [eb]; exact put_keys hk2⟩
      · have hc' : ¬ 0 < z.2.2.2.2 := fun q => hc (decide_eq_true (by omega))
        rw [if_neg hc'] at eb
        exact ⟨_, rfl, s1, kvs, hk1, by rw [eb]; exact hk2⟩
    · rintro σ H1 ⟨v2, rfl, s1, hD1⟩
      rw [List.length_map, hlen, List.take_length] at hD1
      obtain ⟨b1, b2⟩ := Vb.base0_is p [] (by simp)
      -- the while
      refine ⟨fun m σ H' => ∃ v2 g v4 D, σ = [some (.ref a), some (.ref d), v2, some (.bl g), v4] ∧ Same H H' ∧ DaysD H' d D ∧ D.Nodup ∧ (∀ d ∈ D, Reach l p d) ∧ (∀ x ∈ p, 0 < x.2.2 → x.1.day ∈ D) ∧ (g = false → ∀ x ∈ p, pulls l x D = true → x.1.day ∈ D) ∧ m = (if g = true then Vb.out p D + 1 else 0),
        ⟨_, v2, true, none, base0 p [], rfl, s1, hD1, b1, fun d hd => ?_, fun x hx hp => (b2 _).mpr (.inr ⟨x, hx, hp, rfl⟩), (fun q => nomatch q), rfl⟩, ?_⟩
      · rcases (b2 d).mp hd with q | ⟨x, hx, hp, rfl⟩
        · simp at q
        · exact .base hx hp
      · rintro m σ H' ⟨v2, g, v4, D, rfl, s2, ⟨kvs, hk1, hk2⟩, hn, hre, hb, hcl, rfl⟩
        have hDl : D.length ≤ 40 := by
          have := nodup_len D (p.map fun x => x.1.day) hn fun d hd => reach_day (hre d hd)
          rw [List.length_map] at this
          omega
        have hkl : kvs.length = D.length := by have := congrArg List.length hk2; rwa [List.length_map, List.length_map] at this
        refine ⟨_, rfl, _, rfl, ?_⟩
        cases g with
        | false =>
          refine iteF ?_
          refine ⟨_, rfl, d, kvs, D.map fun (d : Nat) => (d : Int), rfl, hk1, by rw [hk2, List.map_map]; rfl, by rw [List.length_map]; omega, fun ns' t' hpm hpw ht => ?_⟩
          obtain ⟨TT, hTp, rfl⟩ := perm_map_inv (fun (d : Nat) => (d : Int)) hpm D rfl
          have hTm : ∀ d, d ∈ D ↔ d ∈ TT := fun d => hTp.mem_iff.symm
          refine k _ t' TT (s2.trans (same_new ht)) (s2.free ht) ?_ (fun x hx hp => (hTm _).mp (hb x hx hp)) (fun x hx hp => (hTm _).mp (hcl rfl x hx (pulls_ext hTm hp))) (fun d hd => hre d ((hTm d).mpr hd)) ?_
          · rw [List.pairwise_map] at hpw
            exact (hpw.and (hTp.nodup_iff.mpr hn)).imp fun {x y} ⟨q1, q2⟩ => by
              have q2' : x ≠ y := q2
              omega
          · rw [upd_same, List.map_map]; rfl
        | true =>
          refine iteT ⟨fun σ H' => ∃ v2 g v4 D', σ = [some (.ref a), some (.ref d), v2, some (.bl g), v4] ∧ Same H H' ∧ DaysD H' d D' ∧ D'.Nodup ∧ (∀ d ∈ D', Reach l p d) ∧ (∀ x ∈ p, 0 < x.2.2 → x.1.day ∈ D') ∧ (g = false → ∀ x ∈ p, pulls l x D' = true → x.1.day ∈ D') ∧ (g = true → Vb.out p D' < Vb.out p D), ?_, ?_⟩
          · rintro σ' H2 ⟨v2', g', v4', D', rfl, c1, c2, c3, c4, c5, c6, c7⟩
            refine ⟨_, ?_, v2', g', v4', D', rfl, c1, c2, c3, c4, c5, c6, rfl⟩
            cases g' with
            | false => rw [if_neg (by simp), if_pos rfl]; exact Nat.succ_pos _
            | true => rw [if_pos rfl, if_pos rfl]; exact Nat.succ_lt_succ (c7 rfl)
          · obtain ⟨p1, p2, ⟨mm, p3, p3'⟩, p4⟩ := Vb.passD_is l p p D (fun _ q => q) hn hre
            have hout := fun q => Vb.passD_out (l := l) (p := p) (D := D) hn hre q
            have hst : ∀ j, (passD l (p.take j) D).length ≤ 40 := fun j => by
              obtain ⟨q1, q2, _⟩ := Vb.passD_is l p (p.take j) D (fun x hx => List.mem_of_mem_take hx) hn hre
              have := nodup_len _ (p.map fun x => x.1.day) q1 fun d hd => reach_day (q2 d hd)
              rw [List.length_map] at this
              omega
            refine ⟨_, rfl, d, kvs, rfl, hk1, ?_⟩
            refine ⟨_, rfl, a, rfl, ⟨_, SqL.of (s2 _ _ h1)⟩, for_list (K := K) (a := a) (xs := zs.map fun z => V.ref z.1)
              (fun j σ H' => ∃ v2, σ = [some (.ref a), some (.ref d), v2, some (.bl true), some (.int (D.length : Nat))] ∧ Same H H' ∧ DaysD H' d (passD l (p.take j) D))
              ⟨v2, by rw [hkl]; rfl, s2, kvs, hk1, hk2⟩ (fun j σ H' _ ⟨_, _, s1, _⟩ => SqL.of (s1 _ _ h1)) ?_ ?_⟩
            · rintro j y σ H3 hj ⟨v2, rfl, s3, kv3, hk3, hk3'⟩
              obtain ⟨z, hzj, rfl⟩ := map_get hj
              have hzm : z ∈ zs := List.mem_of_getElem? hzj
              have hxz := hx z.2.2 (List.mem_of_getElem? (hg hzj))
              have sha := (h3 z hzm).2.same s3
              have hkl3 : kv3.length ≤ 40 := by
                have e1 := congrArg List.length hk3'
                rw [List.length_map, List.length_map] at e1
                rw [e1]; exact hst j
              refine ⟨_, rfl, _, rfl, z.1, z.2.1, pa, z.2.2, d, passD l (p.take j) D, l, rfl, sha, hxz.1, hxz.2.same s3, .inr ⟨kv3, hk3, hk3'⟩, by have := hst j; omega, fun H4 s4 => ⟨_, rfl, ?_⟩⟩
              have eb := passD_snoc (l := l) D (hg hzj)
              obtain ⟨dx, dp, g1, ⟨ddx, g2⟩, g3⟩ := sha.same s4
              refine ite2 (fun hc => ?_) fun hc => ?_
              · rw [if_pos hc] at eb
                refine ⟨_, rfl, _, rfl, z.1, CS, dx, _, _, rfl, g1, T.sha.cl, T.sha.no _ (by decide), rfl, dp, CD, ddx, _, _, rfl, g2, T.dem.cl, T.dem.no _ (by decide), rfl, d, _, rfl, DPut.k (k := Sum.inl (z.2.2.1.day : Int)) (s4 _ _ hk3) (small1000 (by omega)), ?_⟩
                exact ⟨_, rfl, fun b o e => by rw [upd_ne (ne_of_none e hd)]; exact s4 _ _ (s3 _ _ e), _, upd_same, by rw [eb]; exact put_keys hk3'⟩
              · rw [if_neg hc] at eb
                exact ⟨_, rfl, s3.trans s4, kv3, s4 _ _ hk3, by rw [eb]; exact hk3'⟩
            · rintro σ H3 ⟨v2, rfl, s3, kv3, hk3, hk3'⟩
              rw [List.length_map, hlen, List.take_length] at hk3'
              have hkl3 : kv3.length = (passD l p D).length := by have := congrArg List.length hk3'; rwa [List.length_map, List.length_map] at this
              refine ⟨_, rfl, d, kv3, rfl, hk3, _, rfl, _, _, rfl, rfl, ?_⟩
              refine ⟨v2, _, _, passD l p D, rfl, s3, ⟨kv3, hk3, hk3'⟩, p1, p2, fun x hx hp => by rw [p3]; exact List.mem_append_left _ (hb x hx hp), fun q => ?_, fun q => ?_⟩
              · have hl' : (passD l p D).length = D.length := by
                  have h1 : ¬ ((D.length : Int) < (kv3.length : Int)) := of_decide_eq_false q
                  have h2 : D.length ≤ (passD l p D).length := by rw [p3, List.length_append]; omega
                  omega
                have em : passD l p D = D := by
                  have : mm.length = 0 := by rw [p3, List.length_append] at hl'; omega
                  rw [p3, List.eq_nil_of_length_eq_zero this, List.append_nil]
                rw [em]
                exact p4 hl'
              · have h1 : (D.length : Int) < (kv3.length : Int) := of_decide_eq_true q
                exact hout (by omega)
end
end Rs
end
section
set_option maxHeartbeats 2000000
namespace Rs
open PySem PySem.Spec PyProof.Rows L2
open Vblaak (Lot Demand lotAt opening doses)
open Vb (openOf)
/-- over enumerate of a list that the body leaves as it is -/
theorem for_enum {K : PySem.W.Frag} {a : Addr} {xs : List V} {g : TG} {tb : TS} {D : Ends} {σ : L2.St} {H : Hp} (Pv : Nat → L2.St → Hp → Prop) (h0 : Pv 0 σ H) (hl : ∀ i σ H, i ≤ xs.length → Pv i σ H → SqL K H a xs)
    (hs : ∀ i x σ H T, xs[i]? = some x → Pv i σ H → H T = none → g (.ref T) σ (upd H T (.tup [.int (i : Nat), x])) fun σ2 H2 => tb { D with nx := Pv (i + 1), ct := Pv (i + 1), bk := D.nx } σ2 H2) (hd : ∀ σ H, Pv xs.length σ H → D.nx σ H) :
    ∃ W : Nat → Nat → L2.St → Hp → Prop, (∃ m, W 0 m σ H) ∧ ∀ i m σ H, W i m σ H →
      ((Ite K a).stop i H ∧ D.nx σ H) ∨ ((Ite K a).go i H ∧ ∃ N : L2.St → Hp → Prop, (∀ σ' H', N σ' H' → ∃ m', m' < m ∧ W (i + 1) m' σ' H') ∧ ∀ x H', (Ite K a).yld i H x H' → g x σ H' fun σ2 H2 => tb { D with nx := N, ct := N, bk := D.nx } σ2 H2) := by
  refine ⟨fun i m σ H => m = xs.length - i ∧ i ≤ xs.length ∧ Pv i σ H, ⟨xs.length, by simp, Nat.zero_le _, h0⟩, ?_⟩
  rintro i m σ H ⟨rfl, hi, p⟩
  have q := hl i σ H hi p
  by_cases hlt : i < xs.length
  · refine .inr ⟨⟨xs, xs[i], q, by simp [hlt]⟩, Pv (i + 1), fun σ' H' p' => ⟨xs.length - (i + 1), by omega, rfl, hlt, p'⟩, fun x H' y => ?_⟩
    obtain ⟨T, z, rfl, hT, rfl, y⟩ := y
    exact hs i z σ _ T (y xs q) p hT
  · have e : i = xs.length := by omega
    subst e
    exact .inl ⟨⟨xs, q, Nat.le_refl _⟩, hd σ H p⟩
theorem small1000' {n : Nat} (h : n ≤ 10000000) : n < sizeLine := Nat.lt_of_le_of_lt h (by decide)
/-- some statements by a reading of one's own -/
theorem pss_by {X : Cx} {sts : List Stmt} {t0 : TS} (t1 : TS) (h : PSs X sts t0) (imp : ∀ D σ H, t1 D σ H → t0 D σ H) : PSs X sts t1 := fun pins s σ H D I q => h pins s σ H D I (imp D σ H q)
/-- the last day on which the vial that was opened last may be used -/
def endOf (life : Nat) (ds : List Nat) : Nat := (ds.getLast?.map fun d => d + life - 1).getD 0
theorem endOf_snoc (life : Nat) (ds : List Nat) (d : Nat) : endOf life (ds ++ [d]) = d + life - 1 := by unfold endOf; simp
/-- a day's doses -/
def tDay : TS := fun D σ H => ∃ (m life : Nat) (a t : Addr) (ds : List Nat) (left j n : Nat) (v7 v8 : Option V), σ = [some (.int (m : Nat)), some (.int (life : Nat)), some (.ref a), some (.ref t), some (.int (left : Nat)), some (.int (j : Nat)), some (.int (n : Nat)), v7, v8] ∧
  H t = some (.lst (ds.map fun (n : Nat) => V.int n)) ∧ 0 < m ∧ ds.length + n ≤ 100000 ∧ (ds = [] → left = 0) ∧
  ∀ (H' : Hp) (left' : Nat) (opened : List Nat) (v7' v8' : Option V), SBut t H H' → H' t = some (.lst ((ds ++ opened).map fun (n : Nat) => V.int n)) → opened.length ≤ n → doses m life j n (openOf (endOf life ds) left) [] = (openOf (endOf life (ds ++ opened)) left', opened) → (ds ++ opened = [] → left' = 0) →
    D.nx [some (.int (m : Nat)), some (.int (life : Nat)), some (.ref a), some (.ref t), some (.int (left' : Nat)), some (.int (j : Nat)), some (.int (n : Nat)), v7', v8'] H'
def vInv (H : Hp) (m life : Nat) (a t : Addr) (ns : List Nat) (j : Nat) (σ : L2.St) (H' : Hp) : Prop := ∃ v5 v6 v7 v8, ∃ (ds : List Nat) (left : Nat), σ = [some (.int (m : Nat)), some (.int (life : Nat)), some (.ref a), some (.ref t), some (.int (left : Nat)), v5, v6, v7, v8] ∧ Same H H' ∧ H' t = some (.lst (ds.map fun (n : Nat) => V.int n)) ∧ ds.length ≤ 100 * j ∧ (ds = [] → left = 0) ∧
  Vblaak.vials m life ns = ds ++ opening m life j (openOf (endOf life ds) left) (ns.drop j)
section
variable {P : Program} {w : World} {K : PySem.W.Frag} {mg : Str → Option Value} {base : Heap} {CL CD CS : Addr}
abbrev sDoo : Stmt := top 20
def spDoo : Sp := fun vs H Q _ => ∃ (m life : Nat) (a : Addr) (ns : List Nat), vs = [.int (m : Nat), .int (life : Nat), .ref a] ∧ H a = some (.lst (ns.map fun (n : Nat) => V.int n)) ∧ 0 < m ∧ 0 < life ∧ ns.length ≤ 100 ∧ (∀ n ∈ ns, n ≤ 100) ∧
  ∀ H' t, Same H H' → H t = none → H' t = some (.lst ((Vblaak.vials m life ns).map fun (n : Nat) => V.int n)) → (Vblaak.vials m life ns).length ≤ 100 * ns.length → Q (.ref t) H'
theorem scDoo : FnScope ["m", "life", "needs", "days", "left", "day", "need", "wanting", "part"] ["m", "life", "needs"] (defScope sDoo) := ⟨rfl, rfl, rfl, by decide +kernel, rfl, by decide +kernel, by decide +kernel⟩
theorem ok_doo (h : Has K mg "days_of_opening" sDoo ["m", "life", "needs"]) (T : Txt K mg CL CD CS) (henum : mg "enumerate" = none) : Ok P w K mg base 1 "days_of_opening" ["m", "life", "needs"] spDoo := by
  refine h.ok scDoo (fun vs H Q E h => ?_) (fun f0 cdv A outer s H vs Q E hr h => ?_)
  · obtain ⟨m, life, a, ns, rfl, _⟩ := h
    rfl
  · obtain ⟨m, life, a, ns, rfl, ha, hm, hlife, hnl, hn, k⟩ := h
    refine ⟨_, pss_cons (ps_set (i := 3) scDoo.nd rfl (Or.inl rfl) (pe_lst pa_nil)) (pss_cons (ps_set (i := 4) scDoo.nd rfl (Or.inl rfl) pe_int)
      (pss_cons (ps_for PassesOwn.never rfl (pi_enum (by rfl) henum (pa_cons (pv 2) pa_nil)) (pg_tup (n := 2) rfl (pgs_cons (pg_name (i := 5) scDoo.nd rfl (Or.inl rfl)) (pgs_cons (pg_name (i := 6) scDoo.nd rfl (Or.inl rfl)) pgs_nil)))
        (pss_cons (ps_if (PW.pt (pw_and (pt_truth (pv 3) (fun _ => rfl)) (pw_and1 (pt_cmpR op_ge (pv 5) (pe_op op_add (pe_ix ix_list (pv 3) (pe_un un_neg pe_int) (fun _ _ => rfl)) (pv 1)) (nomark _))))) (pss_one (ps_set (i := 4) scDoo.nd rfl (Or.inl rfl) pe_int)) pss_nil)
        (pss_by tDay (pss_cons (ps_set (i := 7) scDoo.nd rfl (Or.inl rfl) (pv 6))
        (pss_one (ps_while PassesOwn.never (pt_cmpR op_gt (pv 7) pe_int (nomark _))
          (pss_cons (ps_if (pt_cmpR op_eq (pv 4) pe_int (nomark _)) (pss_cons (ps_expr (pe_bm PySem.F.plainAttrs_list PySem.F.slot_list_append PySem.F.type_list_append mt_append (pv 3) (pa_cons (pv 5) pa_nil))) (pss_one (ps_set (i := 4) scDoo.nd rfl (Or.inl rfl) (pv 0)))) pss_nil)
          (pss_cons (ps_set (i := 8) scDoo.nd rfl (Or.inl rfl) (pe_callB (call_min2 rfl) (by rfl) (T.blt _ (by decide)) boot_min' (pa_cons (pv 7) (pa_cons (pv 4) pa_nil))))
          (pss_cons (ps_aug (i := 4) scDoo.nd rfl (Or.inl rfl) (pv 8) ip_sub) (pss_one (ps_aug (i := 7) scDoo.nd rfl (Or.inl rfl) (pv 8) ip_sub)))))))) ?day)))
      (pss_one (ps_ret (pv 3))))), ?main⟩
    case day =>
      rintro D σ H ⟨m, life, a, t, ds, left, j, n, v7, v8, rfl, ht, hm, hdl, hd0, k⟩
      refine ⟨_, rfl, fun mm σ H' => ∃ (wanting left1 : Nat) (opened : List Nat) (v8 : Option V), mm = wanting ∧ σ = [some (.int (m : Nat)), some (.int (life : Nat)), some (.ref a), some (.ref t), some (.int (left1 : Nat)), some (.int (j : Nat)), some (.int (n : Nat)), some (.int (wanting : Nat)), v8] ∧ SBut t H H' ∧
        H' t = some (.lst ((ds ++ opened).map fun (n : Nat) => V.int n)) ∧ doses m life j n (openOf (endOf life ds) left) [] = doses m life j wanting (openOf (endOf life (ds ++ opened)) left1) opened ∧ opened.length + wanting ≤ n ∧ (ds ++ opened = [] → left1 = 0),
        ⟨n, n, left, [], v8, rfl, rfl, SBut.refl, by rw [List.append_nil]; exact ht, by rw [List.append_nil], by simp, by rw [List.append_nil]; exact hd0⟩, ?_⟩
      rintro mm σ H' ⟨wanting, left1, opened, v8, rfl, rfl, s1, ht1, hds, hlo, h0⟩
      refine ⟨_, rfl, _, _, rfl, rfl, _, rfl, ?_⟩
      refine ite2 (fun hc => ?_) fun hc => ?_
      · have hw : 0 < mm := by have := of_decide_eq_true hc; omega
        refine ⟨fun σ H' => ∃ (wanting left1 : Nat) (opened : List Nat) (v8 : Option V), wanting < mm ∧ σ = [some (.int (m : Nat)), some (.int (life : Nat)), some (.ref a), some (.ref t), some (.int (left1 : Nat)), some (.int (j : Nat)), some (.int (n : Nat)), some (.int (wanting : Nat)), v8] ∧ SBut t H H' ∧
          H' t = some (.lst ((ds ++ opened).map fun (n : Nat) => V.int n)) ∧ doses m life j n (openOf (endOf life ds) left) [] = doses m life j wanting (openOf (endOf life (ds ++ opened)) left1) opened ∧ opened.length + wanting ≤ n ∧ (ds ++ opened = [] → left1 = 0),
          fun σ' H2 ⟨w', l', o', v', c1, c2⟩ => ⟨w', c1, w', l', o', v', rfl, c2⟩, ?_⟩
        have emin : ∀ x y : Nat, (if ((y : Nat) : Int) < (x : Int) then ((y : Nat) : Int) else (x : Int)) = ((min x y : Nat) : Int) := fun x y => by split <;> omega
        have esub : ∀ x y : Nat, y ≤ x → (x : Int) - (y : Int) = ((x - y : Nat) : Int) := fun x y h => by omega
        refine ⟨_, rfl, rfl, _, rfl, ?_⟩
        refine ite2 (fun hc2 => ?_) fun hc2 => ?_
        · have hl0 : left1 = 0 := by have := V.int.inj (of_decide_eq_true hc2); omega
          subst hl0
          refine ⟨_, rfl, .inl ⟨rfl, _, SqL.of ht1⟩, _, rfl, t, _, _, rfl, rfl, ht1, small1000' (by rw [List.length_map, List.length_append]; omega), ?_⟩
          refine ⟨_, rfl, ?_⟩
          refine ⟨_, rfl, _, rfl, _, _, rfl, ?_⟩
          rw [emin]
          refine ⟨_, rfl, _, rfl, _, _, rfl, rfl, ?_⟩
          refine ⟨_, rfl, _, rfl, _, _, rfl, rfl, ?_⟩
          refine ⟨mm - min mm m, m - min mm m, opened ++ [j], some (.int (min mm m : Nat)), by omega, ?_, fun b o e hb => by rw [upd_ne hb]; exact s1 b o e hb, ?_, ?_, ?_, ?_⟩
          · rw [← esub _ _ (Nat.min_le_right _ _), ← esub _ _ (Nat.min_le_left _ _)]; rfl
          · rw [upd_same, ← List.append_assoc, List.map_append (l₂ := [j])]; rfl
          · rw [hds, Vb.doses_open _ _ _ _ _ _ hm hw, ← List.append_assoc, endOf_snoc]
            exact Vb.doses_some _ _ _ _ _ _ _ _ (Nat.min_le_right _ _) (Nat.min_le_left _ _)
          · rw [List.length_append, List.length_singleton]; omega
          · intro q; simp at q
        · have hl0 : 0 < left1 := by
            rcases Nat.eq_zero_or_pos left1 with q | q
            · exact (hc2 (by rw [q]; exact decide_eq_true rfl)).elim
            · exact q
          refine ⟨_, rfl, _, rfl, _, _, rfl, ?_⟩
          rw [emin]
          refine ⟨_, rfl, _, rfl, _, _, rfl, rfl, ?_⟩
          refine ⟨_, rfl, _, rfl, _, _, rfl, rfl, ?_⟩
          refine ⟨mm - min mm left1, left1 - min mm left1, opened, some (.int (min mm left1 : Nat)), by omega, ?_, s1, ht1, ?_, by omega, fun q => ?_⟩
          · rw [← esub _ _ (Nat.min_le_right _ _), ← esub _ _ (Nat.min_le_left _ _)]; rfl
          · rw [hds]
            exact Vb.doses_some _ _ _ _ _ _ _ _ (Nat.min_le_right _ _) (Nat.min_le_left _ _)
          · have := h0 q; omega
      · have hw : mm = 0 := by
          rcases Nat.eq_zero_or_pos mm with q | q
          · exact q
          · exact (hc (decide_eq_true (by omega))).elim
        subst hw
        exact k H' left1 opened _ _ s1 ht1 (by omega) hds h0
    case main =>
      refine ⟨Nat.zero_le _, fun t ht => ?_⟩
      have s0 : Same H (upd H t (.lst [])) := same_new ht
      refine ⟨_, rfl, a, _, rfl, SqL.of (s0 _ _ ha), for_enum (K := K) (a := a) (xs := ns.map fun (n : Nat) => V.int n)
        (vInv H m life a t ns)
          ⟨none, none, none, none, [], 0, rfl, s0, upd_same, Nat.zero_le _, fun _ => rfl, rfl⟩ (fun j σ H' _ ⟨_, _, _, _, _, _, _, s1, _⟩ => SqL.of (s1 _ _ ha)) ?_ ?_⟩
      · rintro j y σ H' tp hj ⟨v5, v6, v7, v8, ds, left, rfl, s1, ht1, hdl, hd0, hv⟩ htp
        obtain ⟨n, hnj, rfl⟩ := map_get hj
        have hn100 : n ≤ 100 := hn n (List.mem_of_getElem? hnj)
        have hjl : j < ns.length := (List.getElem?_eq_some_iff.mp hnj).1
        have edrop : ns.drop j = n :: ns.drop (j + 1) := by
          obtain ⟨hj', e⟩ := List.getElem?_eq_some_iff.mp hnj
          rw [List.drop_eq_getElem_cons hj', e]
        rw [edrop, Vb.opening_cons] at hv
        have s2 : Same H' (upd H' tp (.tup [.int (j : Nat), .int (n : Nat)])) := same_new htp
        refine ⟨tp, _, rfl, SqT.of upd_same, rfl, _, _, rfl, _, _, rfl, rfl, ?_⟩
        have hdl' : ds.length + n ≤ 100000 := by omega
        have s12 : Same H (upd H' tp (.tup [.int (j : Nat), .int (n : Nat)])) := s1.trans s2
        have fin : ∀ (D' : Ends) (left2 : Nat), left2 = (if j ≤ endOf life ds then left else 0) → D'.nx = vInv H m life a t ns (j + 1) → tDay D' [some (.int (m : Nat)), some (.int (life : Nat)), some (.ref a), some (.ref t), some (.int (left2 : Nat)), some (.int (j : Nat)), some (.int (n : Nat)), v7, v8] (upd H' tp (.tup [.int (j : Nat), .int (n : Nat)])) := fun D' left2 e2 eD => by
          refine ⟨m, life, a, t, ds, left2, j, n, v7, v8, rfl, s2 _ _ ht1, hm, hdl', fun q => by rw [e2, hd0 q]; split <;> rfl, fun H4 left' opened v7' v8' s4 ht4 hol hdo h0' => ?_⟩
          rw [eD]
          refine ⟨_, _, _, _, ds ++ opened, left', rfl, fun b o e => s4 b o (s12 b o e) (ne_of_none e ht), ht4, by rw [List.length_append]; omega, h0', ?_⟩
          rw [hv, ← e2, hdo, List.append_assoc]
        refine ⟨_, rfl, _, .inl ⟨_, SqL.of (s2 _ _ ht1), rfl⟩, ?_⟩
        rcases List.eq_nil_or_concat ds with e | ⟨ds', dl, e⟩
        · subst e
          refine iteF (iteF ?_)
          exact fin _ left (by rw [hd0 rfl]; split <;> rfl) rfl
        · rw [List.concat_eq_append] at e
          subst e
          have hne : (!((ds' ++ [dl]).map fun (n : Nat) => V.int n).isEmpty) = true := by simp
          rw [hne]
          refine iteT ⟨_, rfl, _, rfl, _, rfl, t, _, _, V.int (dl : Nat), rfl, rfl, SqL.of (s2 _ _ ht1), (by rw [List.map_append]; exact atI_last _ _), _, rfl, _, _, rfl, rfl, _, _, rfl, rfl, _, rfl, ?_⟩
          rw [endOf_snoc] at fin
          refine ite2 (fun hc => ?_) fun hc => ?_
          · refine fin _ 0 ?_ rfl
            have := of_decide_eq_true hc
            rw [if_neg (by omega)]
          · refine fin _ left ?_ rfl
            have : ¬ ((dl : Int) + (life : Int) ≤ (j : Int)) := fun q => hc (decide_eq_true q)
            rw [if_pos (by omega)]
      · rintro σ H' ⟨v5, v6, v7, v8, ds, left, rfl, s1, ht1, hdl, hd0, hv⟩
        rw [List.length_map] at hv hdl
        have e : Vblaak.vials m life ns = ds := by rw [hv, List.drop_length]; exact List.append_nil _
        exact ⟨_, rfl, k H' t s1 ht (by rw [e]; exact ht1) (by rw [e]; exact hdl)⟩
end
end Rs
end
section
set_option maxHeartbeats 2000000
namespace Rs
open PySem PySem.Spec PyProof.Rows L2
open Vblaak (Lot Demand lotAt between isArticle isDay)
abbrev GI : List (Str × Int) := [("MOST_LOTS", 40), ("MOST_DEMANDS", 40), ("LAST_ARTICLE", 8), ("LAST_DAY", 400), ("MOST_DOSES", 1000), ("MOST_IN_VIAL", 100), ("LONGEST_LIFE", 60), ("LONGEST_ROW", 40), ("MOST_NEEDED", 100), ("OUT_OF_RANGE", -1), ("NO_ROOM", -2), ("BEFORE_TODAY", -3), ("NO_SUCH_DEMAND", -4), ("NOT_TODAY", -5), ("TOO_FEW_LEFT", -7), ("LACKS_MORE", -9), ("VIALS", 15)]
abbrev STKF : List Str := ["today", "lots", "demands", "demands_told", "uses", "thrown_away", "withdrawn"]
abbrev BLT2 : List Str := ["dict", "enumerate", "all"]
structure TxtB (K : PySem.W.Frag) (mg : Str → Option Value) (CU CT : Addr) : Prop where
  use : ClsF K CU ["number", "article", "day", "taken"]
  stk : ClsF K CT STKF
  blt : ∀ x ∈ BLT2, mg x = none
  gi : ∀ p ∈ GI, ∃ t, mg p.1 = some (.int p.2 t)
theorem pe_gi {X : Cx} {x : Str} {n : Int} {pos : Pos} (h : ∃ t, X.mg x = some (.int n t)) (hg : Gl X x := by rfl) (hd : (x == ("__debug__" : Str)) = false := by decide) : PE X (.Name x pos) (tC (.int n)) := by
  obtain ⟨t, h⟩ := h
  exact pe_glob hg h ⟨t, rfl⟩ hd
theorem boot_all' : bootBuiltins "all" = some (.builtin "all") := by decide +kernel
def spBt (lo hi : Int) : Sp := fun vs H Q _ => ∃ n : Int, vs = [.int n] ∧ Q (.bl (between n lo hi)) H
section
variable {P : Program} {w : World} {K : PySem.W.Frag} {mg : Str → Option Value} {base : Heap} {CL CD CS CU CT : Addr}
/-- the reading of lo <= n <= hi -/
theorem btw {n lo hi : Int} {Q : Bool → Prop} (h : Q (between n lo hi)) : if (decide (lo ≤ n)) = true then Q (decide (n ≤ hi)) else Q false := by
  unfold between at h
  refine ite2 (fun h1 => ?_) fun h1 => ?_
  · rw [h1, Bool.true_and] at h; exact h
  · have : decide (lo ≤ n) = false := by simpa using h1
    rw [this, Bool.false_and] at h; exact h
abbrev sIA : Stmt := top 38
theorem scIA : FnScope ["number"] ["number"] (defScope sIA) := ⟨rfl, rfl, rfl, by decide +kernel, rfl, by decide +kernel, by decide +kernel⟩
theorem ok_ia (h : Has K mg "is_article" sIA ["number"]) (TB : TxtB K mg CU CT) : Ok P w K mg base 1 "is_article" ["number"] (spBt 1 8) := by
  refine h.ok scIA (fun vs H Q E h => ?_) (fun f cdv A outer s H vs Q E hr h => ?_)
  · obtain ⟨n, rfl, _⟩ := h
    rfl
  · obtain ⟨n, rfl, k⟩ := h
    refine ⟨_, pss_one (ps_ret (pe_chain op_le op_le pe_int (pv 0) (pe_gi (TB.gi ("LAST_ARTICLE", 8) (by decide))))), ?_⟩
    exact ⟨_, rfl, _, _, rfl, rfl, _, rfl, btw (Q := fun b => Q (.bl b) H) k |> fun z => ite2 (fun h1 => ⟨_, _, rfl, rfl, by rw [if_pos h1] at z; exact z⟩) fun h1 => by rw [if_neg h1] at z; exact z⟩
abbrev sID : Stmt := top 39
theorem scID : FnScope ["number"] ["number"] (defScope sID) := ⟨rfl, rfl, rfl, by decide +kernel, rfl, by decide +kernel, by decide +kernel⟩
theorem ok_id (h : Has K mg "is_day" sID ["number"]) (TB : TxtB K mg CU CT) : Ok P w K mg base 1 "is_day" ["number"] (spBt 0 400) := by
  refine h.ok scID (fun vs H Q E h => ?_) (fun f cdv A outer s H vs Q E hr h => ?_)
  · obtain ⟨n, rfl, _⟩ := h
    rfl
  · obtain ⟨n, rfl, k⟩ := h
    refine ⟨_, pss_one (ps_ret (pe_chain op_le op_le pe_int (pv 0) (pe_gi (TB.gi ("LAST_DAY", 400) (by decide))))), ?_⟩
    exact ⟨_, rfl, _, _, rfl, rfl, _, rfl, btw (Q := fun b => Q (.bl b) H) k |> fun z => ite2 (fun h1 => ⟨_, _, rfl, rfl, by rw [if_pos h1] at z; exact z⟩) fun h1 => by rw [if_neg h1] at z; exact z⟩
abbrev sIDo : Stmt := top 40
theorem scIDo : FnScope ["number"] ["number"] (defScope sIDo) := ⟨rfl, rfl, rfl, by decide +kernel, rfl, by decide +kernel, by decide +kernel⟩
theorem ok_ido (h : Has K mg "is_doses" sIDo ["number"]) (TB : TxtB K mg CU CT) : Ok P w K mg base 1 "is_doses" ["number"] (spBt 1 1000) := by
  refine h.ok scIDo (fun vs H Q E h => ?_) (fun f cdv A outer s H vs Q E hr h => ?_)
  · obtain ⟨n, rfl, _⟩ := h
    rfl
  · obtain ⟨n, rfl, k⟩ := h
    refine ⟨_, pss_one (ps_ret (pe_chain op_le op_le pe_int (pv 0) (pe_gi (TB.gi ("MOST_DOSES", 1000) (by decide))))), ?_⟩
    exact ⟨_, rfl, _, _, rfl, rfl, _, rfl, btw (Q := fun b => Q (.bl b) H) k |> fun z => ite2 (fun h1 => ⟨_, _, rfl, rfl, by rw [if_pos h1] at z; exact z⟩) fun h1 => by rw [if_neg h1] at z; exact z⟩
/-! is_article_day_doses -/
abbrev sADD : Stmt := top 42
def spADD : Sp := fun vs H Q _ => ∃ g, ∃ a d n : Int, ∃ r : List V, vs = [.ref g] ∧ H g = some (.lst (.int a :: .int d :: .int n :: r)) ∧ Q (.bl (isArticle a && (isDay d && between n 1 1000))) H
theorem scADD : FnScope ["given"] ["given"] (defScope sADD) := ⟨rfl, rfl, rfl, by decide +kernel, rfl, by decide +kernel, by decide +kernel⟩
theorem ok_add3 (h : Has K mg "is_article_day_doses" sADD ["given"]) (GA : Ok P w K mg base 1 "is_article" ["number"] (spBt 1 8)) (GD : Ok P w K mg base 1 "is_day" ["number"] (spBt 0 400)) (GO : Ok P w K mg base 1 "is_doses" ["number"] (spBt 1 1000)) : Ok P w K mg base 2 "is_article_day_doses" ["given"] spADD := by
  refine h.ok scADD (fun vs H Q E h => ?_) (fun f cdv A outer s H vs Q E hr h => ?_)
  · obtain ⟨g, a, d, n, r, rfl, _⟩ := h
    rfl
  · obtain ⟨g, a, d, n, r, rfl, hg, k⟩ := h
    refine ⟨_, pss_one (ps_ret (pe_and (pe_ok GA hr (pa_cons (pe_ix ix_list (pv 0) pe_int (fun _ _ => rfl)) pa_nil)) (pe_and (pe_ok GD hr (pa_cons (pe_ix ix_list (pv 0) pe_int (fun _ _ => rfl)) pa_nil)) (pe_one (pe_ok GO hr (pa_cons (pe_ix ix_list (pv 0) pe_int (fun _ _ => rfl)) pa_nil)))))), ?_⟩
    refine ⟨_, rfl, g, _, _, _, rfl, rfl, SqL.of hg, at_of (j := 0) (v := .int a) rfl rfl, a, rfl, _, rfl, ?_⟩
    refine ite2 (fun h1 => ?_) fun h1 => ?_
    · refine ⟨_, rfl, g, _, _, _, rfl, rfl, SqL.of hg, at_of (j := 1) (v := .int d) rfl rfl, d, rfl, _, rfl, ?_⟩
      refine ite2 (fun h2 => ?_) fun h2 => ?_
      · refine ⟨_, rfl, g, _, _, _, rfl, rfl, SqL.of hg, at_of (j := 2) (v := .int n) rfl rfl, n, rfl, ?_⟩
        unfold isArticle isDay at k
        rw [h1, h2] at k
        exact k
      · unfold isArticle isDay at k
        rw [h1, Bool.eq_false_iff.mpr h2] at k
        exact k
    · unfold isArticle at k
      rw [Bool.eq_false_iff.mpr h1] at k
      exact k
/-! is_row -/
abbrev sRow : Stmt := top 43
def spRow : Sp := fun vs H Q _ => ∃ g, ∃ ns : List Int, vs = [.ref g] ∧ H g = some (.lst (ns.map V.int)) ∧ ns.length ≤ 100 ∧ ∀ H', Same H H' → Q (.bl (decide (ns.length ≤ 40) && ns.all fun n => between n 0 100)) H'
theorem scRow : FnScope ["needs", "need"] ["needs"] (defScope sRow) := ⟨rfl, rfl, rfl, by decide +kernel, rfl, by decide +kernel, by decide +kernel⟩
theorem ok_row (h : Has K mg "is_row" sRow ["needs"]) (T : Txt K mg CL CD CS) (TB : TxtB K mg CU CT) : Ok P w K mg base 1 "is_row" ["needs"] spRow := by
  refine h.ok scRow (fun vs H Q E h => ?_) (fun f cdv A outer s H vs Q E hr h => ?_)
  · obtain ⟨g, ns, rfl, _⟩ := h
    rfl
  · obtain ⟨g, ns, rfl, hg, hz, k⟩ := h
    refine ⟨_, pss_one (ps_ret (pe_and (pe_cmpR op_le (pe_callB call_len_seq (by rfl) (T.blt _ (by decide)) PySem.boot_len (pa_cons (pv 0) pa_nil)) (pe_gi (TB.gi ("LONGEST_ROW", 40) (by decide))) (nomark _))
      (pe_one (pe_callB (cr_all rfl) (by rfl) (TB.blt _ (by decide)) boot_all' (pa_cons (pe_lc' [("need", 1)] (gName 1) rfl scRow.nd (pi_list (pv 0)) rfl
        (fun s H C cl fp => pg_name (i := 1) scRow.nd rfl (Or.inl rfl) (Or.inr rfl)) (fun s H C cl fp => pts_nil) (fun s H C cl fp => pe_chain op_le op_le pe_int (pv 1) (pe_gi (TB.gi ("MOST_NEEDED", 100) (by decide))))) pa_nil))))), ?_⟩
    refine ⟨_, rfl, g, _, rfl, .inl (SqL.of hg), _, _, rfl, rfl, _, rfl, ?_⟩
    have el : (decide (((ns.map V.int).length : Int) ≤ 40)) = decide (ns.length ≤ 40) := by
      rw [List.length_map]
      exact decide_eq_decide.mpr ⟨fun h => by omega, fun h => by omega⟩
    rw [el]
    refine ite2 (fun h1 => ?_) fun h1 => ?_
    · rw [h1] at k
      refine ⟨_, rfl, g, rfl, ⟨_, SqL.of hg⟩, fun D hD => ?_⟩
      refine lc_l ns V.int (fun n => some (V.bl (between n 0 100))) hD (SqL.of hg) (small1000 (by omega)) (fun n H' Nx hn s1 kp kn => ?_) (fun H' s1 hl => ?_)
      · refine ⟨rfl, _, rfl, _, _, rfl, rfl, _, rfl, ?_⟩
        have z := btw (n := n) (lo := 0) (hi := 100) (Q := fun b => ∃ acc, H' D = some (.lst acc) ∧ acc.length < sizeLine ∧ Nx (upd H' D (.lst (acc ++ [V.bl b])))) (kp H' _ (Same.refl _) rfl)
        exact ite2 (fun h1 => ⟨_, _, rfl, rfl, by rw [if_pos h1] at z; exact z⟩) fun h1 => by rw [if_neg h1] at z; exact z
      · refine ⟨D, ns.map fun n => between n 0 100, rfl, SqL.of ?_, ?_⟩
        · rw [hl, List.map_map, List.filterMap_eq_map']
          rfl
        · rw [List.all_map]
          exact k H' s1
    · rw [Bool.eq_false_iff.mpr h1] at k
      exact k H (Same.refl _)
/-! tell_taken -/
abbrev sTel : Stmt := top 48
theorem scTel : FnScope ["taken", "numbers", "lot", "doses"] ["taken"] (defScope sTel) := ⟨rfl, rfl, rfl, by decide +kernel, rfl, by decide +kernel, by decide +kernel⟩
/-- a list of numbers -/
abbrev nats (ns : List Nat) : List V := ns.map fun (n : Nat) => V.int n
def spTel (CL : Addr) : Sp := fun vs H Q _ => ∃ a pa l ts, vs = [.ref a] ∧ TakAt H pa a ts ∧ ts.length ≤ 100 ∧ LotsIn CL H pa l ts ∧ ∀ H' t, Same H H' → H t = none → H' t = some (.lst (nats (Vblaak.tookRow ts))) → Q (.ref t) H'
theorem ok_tel (h : Has K mg "tell_taken" sTel ["taken"]) (T : Txt K mg CL CD CS) : Ok P w K mg base 1 "tell_taken" ["taken"] (spTel CL) := by
  refine h.ok scTel (fun vs H Q E h => ?_) (fun f cdv A outer s H vs Q E hr h => ?_)
  · obtain ⟨a, pa, l, ts, rfl, _⟩ := h
    rfl
  · obtain ⟨a, pa, l, ts, rfl, ⟨zs, h1, h2, h3⟩, hz, hlo, k⟩ := h
    have hlen : zs.length = ts.length := by rw [← h2, List.length_map]
    refine ⟨_, pss_cons (ps_set (i := 1) scTel.nd rfl (Or.inl rfl) (pe_lst (pa_cons (pe_callB call_len_seq (by rfl) (T.blt _ (by decide)) PySem.boot_len (pa_cons (pv 0) pa_nil)) pa_nil)))
      (pss_cons (ps_for PassesOwn.never rfl (pi_list (pv 0)) (pg_tup (n := 2) rfl (pgs_cons (pg_name (i := 2) scTel.nd rfl (Or.inl rfl)) (pgs_cons (pg_name (i := 3) scTel.nd rfl (Or.inl rfl)) pgs_nil)))
        (pss_one (ps_expr (pe_bm PySem.F.plainAttrs_list PySem.F.slot_list_extend PySem.F.type_list_extend mt_extend (pv 1) (pa_cons (pe_lst (pa_cons (pe_fld (pv 2) rfl) (pa_cons (pv 3) pa_nil))) pa_nil)))))
      (pss_one (ps_ret (pv 1)))), ?_⟩
    refine ⟨_, rfl, a, _, rfl, .inl (SqL.of h1), (by show 1 ≤ sizeLine; decide), fun t ht => ?_⟩
    have s0 : Same H (upd H t (.lst [V.int ((zs.map fun z => V.ref z.1).length : Nat)])) := same_new ht
    have hat : a ≠ t := ne_of_none h1 ht
    refine ⟨_, rfl, a, rfl, ⟨_, SqL.of (s0 _ _ h1)⟩, for_list (K := K) (a := a) (xs := zs.map fun z => V.ref z.1)
      (fun j σ H' => ∃ v2 v3, σ = [some (.ref a), some (.ref t), v2, v3] ∧ Same H H' ∧ H' t = some (.lst (nats (ts.length :: (ts.take j).flatMap fun e => [e.1, e.2]))))
      ⟨none, none, rfl, s0, by rw [upd_same, List.length_map, hlen]; rfl⟩ (fun j σ H' _ ⟨_, _, _, s1, _⟩ => SqL.of (s1 _ _ h1)) ?_ ?_⟩
    · rintro j y σ H' hj ⟨v2, v3, rfl, s1, ht1⟩
      obtain ⟨z, hzj, rfl⟩ := map_get hj
      have htj : ts[j]? = some z.2 := by rw [← h2, List.getElem?_map, hzj]; rfl
      obtain ⟨dx, hp⟩ := (hlo z.2 (List.mem_of_getElem? htj)).same s1
      have hll : (nats (ts.length :: (ts.take j).flatMap fun e => [e.1, e.2])).length ≤ 201 := by
        rw [List.length_map, List.length_cons, List.length_flatMap]
        have : ((ts.take j).map fun e => [e.1, e.2].length) = (ts.take j).map fun _ => 2 := rfl
        rw [this, List.map_const', List.sum_replicate_nat, List.length_take]
        omega
      refine ⟨z.1, _, rfl, SqT.of (s1 _ _ (h3 z (List.mem_of_getElem? hzj))), rfl, _, _, rfl, _, _, rfl, rfl, ?_⟩
      refine ⟨_, rfl, .inl ⟨rfl, _, SqL.of ht1⟩, _, rfl, _, CL, dx, _, _, rfl, hp, T.lot.cl, T.lot.no _ (by decide), rfl, _, rfl, (by show 2 ≤ sizeLine; decide), fun q hq => ?_⟩
      refine ⟨t, q, _, _, rfl, rfl, (by rw [upd_ne (ne_of_none ht1 hq)]; exact ht1), upd_same, Nat.le_of_lt (small1000 (by show _ + 2 ≤ 1000; omega)), ?_⟩
      refine ⟨_, _, rfl, fun b o e => by rw [upd_ne (ne_of_none e ht), upd_ne (ne_of_none (s1 _ _ e) hq)]; exact s1 _ _ e, ?_⟩
      rw [upd_same, List.take_add_one, htj]
      simp [nats]
    · rintro σ H' ⟨v2, v3, rfl, s1, ht1⟩
      rw [List.length_map, hlen, List.take_length] at ht1
      exact ⟨_, rfl, k H' t s1 ht ht1⟩
end
end Rs
end
section
set_option maxHeartbeats 2000000
namespace Rs
open PySem PySem.Spec PyProof.Rows L2
open Vblaak (Lot Demand Stock Use lotAt between isArticle isDay inOrder demandsOf)
open Vb (chunk mplan mleft subs sub1 cvr lf lotLt demLt lastOf Sh ordOf)
/-- what holds of a stock between two calls -/
structure WF (s : Stock) : Prop where
  lotsN : s.lots.length ≤ 40
  demN : s.demands.length ≤ 40
  demP : s.demands.Pairwise fun x y => x.num < y.num
  demG : ∀ x ∈ s.demands, x.num ≤ s.given
  useW : ∀ u ∈ s.uses, (u.took.map Prod.fst).Nodup ∧ ∀ e ∈ u.took, e.1 < s.lots.length ∧ 0 < e.2
  demQ : ∀ x ∈ s.demands, 0 < x.n
  useN : ∀ u ∈ s.uses, u.took ≠ []
/-- the addresses of a stock's parts -/
structure Parts where
  la : Addr
  da : Addr
  ua : Addr
  pa : Nat → Addr
abbrev stkF (today : Nat) (la da : Addr) (given : Nat) (ua : Addr) (thrown drawn : Nat) : List (Str × V) := [("today", .int (today : Nat)), ("lots", .ref la), ("demands", .ref da), ("demands_told", .int (given : Nat)), ("uses", .ref ua), ("thrown_away", .int (thrown : Nat)), ("withdrawn", .int (drawn : Nat))]
abbrev useF (n article day : Nat) (t : Addr) : List (Str × V) := [("number", .int (n : Nat)), ("article", .int (article : Nat)), ("day", .int (day : Nat)), ("taken", .ref t)]
def UseAt (CU : Addr) (H : Hp) (pa : Nat → Addr) (p t : Addr) (n : Nat) (u : Use) : Prop := (∃ dx, H p = some (.ins CU dx (useF n u.article u.day t))) ∧ TakAt H pa t u.took
theorem UseAt.same {CU : Addr} {H H' : Hp} {pa : Nat → Addr} {p t : Addr} {n : Nat} {u : Use} (h : UseAt CU H pa p t n u) (s : Same H H') : UseAt CU H' pa p t n u := ⟨let ⟨dx, e⟩ := h.1; ⟨dx, s _ _ e⟩, h.2.same s⟩
abbrev demK (qs : List (Addr × Demand)) : List (Key × V) := qs.map fun q => (Sum.inl (q.2.num : Int), V.ref q.1)
/-- a stock at S -/
structure StockAt (CL CD CU CT : Addr) (H : Hp) (S : Addr) (E : Parts) (s : Stock) : Prop where
  obj : ∃ dx, H S = some (.ins CT dx (stkF s.today E.la E.da s.given E.ua s.thrown s.drawn))
  lots : LotsAt CL H E.la E.pa s.lots (List.range s.lots.length)
  inj : ∀ i j, i < s.lots.length → j < s.lots.length → E.pa i = E.pa j → i = j
  dems : ∃ qs : List (Addr × Demand), H E.da = some (.dK (demK qs)) ∧ qs.map Prod.snd = s.demands ∧ ∀ q ∈ qs, DemAt CD H q.1 q.2
  uses : ∃ us : List (Addr × Addr × Use), H E.ua = some (.lst (us.map fun u => V.ref u.1)) ∧ us.map (fun u => u.2.2) = s.uses ∧ ∀ i u, us[i]? = some u → u.2.1 ≠ E.la ∧ u.2.1 ≠ E.ua ∧ UseAt CU H E.pa u.1 u.2.1 i u.2.2
  ne : E.la ≠ E.ua
  wf : WF s
theorem StockAt.same {CL CD CU CT : Addr} {H H' : Hp} {S : Addr} {E : Parts} {s : Stock} (h : StockAt CL CD CU CT H S E s) (k : Same H H') : StockAt CL CD CU CT H' S E s :=
  ⟨let ⟨dx, e⟩ := h.obj; ⟨dx, k _ _ e⟩, h.lots.same k, h.inj, let ⟨qs, h1, h2, h3⟩ := h.dems; ⟨qs, k _ _ h1, h2, fun q hq => (h3 q hq).same k⟩, let ⟨us, h1, h2, h3⟩ := h.uses; ⟨us, k _ _ h1, h2, fun i u hu => ⟨(h3 i u hu).1, (h3 i u hu).2.1, (h3 i u hu).2.2.same k⟩⟩, h.ne, h.wf⟩
theorem StockAt.lotAt {CL CD CU CT : Addr} {H : Hp} {S : Addr} {E : Parts} {s : Stock} (h : StockAt CL CD CU CT H S E s) {i : Nat} (hi : i < s.lots.length) : LotAt CL H (E.pa i) i (Vblaak.lotAt s.lots i) := h.lots.2 i (List.mem_range.mpr hi)
abbrev ixOf (l : List Lot) (a : Nat) : List Nat := (List.range l.length).filter fun i => (lotAt l i).article == a
theorem ixOf_len (l : List Lot) (a : Nat) : (ixOf l a).length ≤ l.length := Nat.le_trans (List.length_filter_le _ _) (by rw [List.length_range]; exact Nat.le_refl _)
theorem ixOf_nodup (l : List Lot) (a : Nat) : (ixOf l a).Nodup := List.Pairwise.filter _ List.nodup_range
theorem mem_ixOf {l : List Lot} {a i : Nat} : i ∈ ixOf l a ↔ i < l.length ∧ (lotAt l i).article = a := by simp [ixOf]
theorem ord_perm (l : List Lot) (a : Nat) : (ordOf l a).Perm (ixOf l a) := (List.perm_ext_iff_of_nodup (Vb.ordOf_nodup l a) (ixOf_nodup l a)).mpr fun i => Vb.mem_ordOf.trans mem_ixOf.symm
section
variable {P : Program} {w : World} {K : PySem.W.Frag} {mg : Str → Option Value} {base : Heap} {CL CD CS CU CT : Addr}
/-! lots_of, demands_of -/
abbrev sLo : Stmt := inClass (top 66) 5
def spLo (CL CD CU CT : Addr) : Sp := fun vs H Q _ => ∃ S E s, ∃ a : Nat, vs = [.ref S, .int (a : Nat)] ∧ StockAt CL CD CU CT H S E s ∧ ∀ H' t, Same H H' → H t = none → LotsAt CL H' t E.pa s.lots (ixOf s.lots a) → Q (.ref t) H'
theorem scLo : FnScope ["self", "article", "lot"] ["self", "article"] (defScope sLo) := ⟨rfl, rfl, rfl, by decide +kernel, rfl, by decide +kernel, by decide +kernel⟩
theorem eqI {i j : Nat} : decide (V.int (i : Nat) = V.int (j : Nat)) = (i == j) := by
  rw [dec_int, Bool.eq_iff_iff]
  simp only [beq_iff_eq]
  omega
theorem ok_lo (h : HasM K CT "lots_of" "Stock.lots_of" sLo ["self", "article"]) (T : Txt K mg CL CD CS) (TB : TxtB K mg CU CT) : OkM P w K mg base CT 1 "lots_of" ["self", "article"] (spLo CL CD CU CT) := by
  refine h.ok scLo (fun vs H Q E h => ?_) (fun f cdv A outer s H vs Q E hr h => ?_)
  · obtain ⟨S, E, s, a, rfl, _⟩ := h
    rfl
  · obtain ⟨S, E, st, a, rfl, hS, k⟩ := h
    refine ⟨_, pss_one (ps_ret (pe_lc' [("lot", 2)] (gName 2) rfl scLo.nd (pi_list (pe_fld (pv 0) rfl)) rfl
      (fun s H C cl fp => pg_name (i := 2) scLo.nd rfl (Or.inl rfl) (Or.inr rfl)) (fun s H C cl fp => pts_one (pt_cmpR op_eq (pe_fldK K (pv 2)) (pv 1) (nomark _))) (fun s H C cl fp => pv 2))), ?_⟩
    obtain ⟨dx, hobj⟩ := hS.obj
    obtain ⟨h1, h3⟩ := hS.lots
    have hl40 := hS.wf.lotsN
    refine ⟨_, rfl, S, CT, dx, _, _, rfl, hobj, TB.stk.cl, TB.stk.no _ (by decide), rfl, E.la, rfl, ⟨_, SqL.of h1⟩, fun D hD => ?_⟩
    refine lc_l (List.range st.lots.length) (fun i => V.ref (E.pa i)) (fun i => if ((lotAt st.lots i).article == a) = true then some (V.ref (E.pa i)) else none) hD (SqL.of h1) (by rw [List.length_range]; exact small1000 (by omega)) (fun i H' Nx hi s1 kp kn => ?_) (fun H' s1 hl => ?_)
    · obtain ⟨ldx, g⟩ := (h3 i hi).same s1
      refine ⟨rfl, _, rfl, E.pa i, CL, ldx, _, _, rfl, g, T.lot.cl, T.lot.no _ (by decide), rfl, _, rfl, rfl, _, rfl, ?_⟩
      rw [eqI]
      refine ite2 (fun hc => ?_) fun hc => ?_
      · exact ⟨_, rfl, kp H' _ (Same.refl _) (if_pos hc)⟩
      · exact kn H' (Same.refl _) (if_neg hc)
    · refine k H' D s1 hD ⟨?_, fun i hi => (h3 i ((List.mem_filter.mp hi).1)).same s1⟩
      rw [hl, fm_filter]
abbrev sDf : Stmt := inClass (top 66) 6
def spDf (CL CD CU CT : Addr) : Sp := fun vs H Q _ => ∃ S E s, ∃ a : Nat, vs = [.ref S, .int (a : Nat)] ∧ StockAt CL CD CU CT H S E s ∧ ∀ H' t, Same H H' → H t = none → DemsAt CD H' t (s.demands.filter fun x => x.article == a) → Q (.ref t) H'
theorem scDf : FnScope ["self", "article", "demand"] ["self", "article"] (defScope sDf) := ⟨rfl, rfl, rfl, by decide +kernel, rfl, by decide +kernel, by decide +kernel⟩
theorem fm_filter' {α β : Type} (p : α → Bool) (g : α → β) (l : List α) : l.filterMap (fun x => if p x = true then some (g x) else none) = (l.filter p).map g := by
  induction l with
  | nil => rfl
  | cons x r ih =>
    rw [List.filterMap_cons, List.filter_cons]
    by_cases h : p x = true
    · rw [if_pos h, if_pos h, List.map_cons, ← ih]
    · rw [if_neg h, if_neg h, ih]
theorem lc_v' {α : Type} {d : Addr} {o : Obj} {zs : List α} {ky : α → Key} {v : α → V} {g : TG} {tt : TT} {te : TE} {vs : List Nat} {σ : L2.St} {D : Addr} {Q : VK} {H : Hp} (f : α → Option V) (hD : H D = none) (hx : H d = some (.frz o (.dK (zs.map fun z => (ky z, v z))))) (hz : zs.length < sizeLine)
    (hs : Turns zs v f g tt te vs σ D H) (hd : ∀ H', Same H H' → H' D = some (.lst (zs.filterMap f)) → Q (.ref D) H') : LcOk (Itd d o (zs.map fun z => (ky z, v z))) g tt te vs σ D Q (upd H D (.lst [])) := by
  refine lc_core' zs v f hD hz (fun i H' hi s1 => ⟨s1 _ _ hx, by rw [List.length_map]; exact hi⟩) (fun H' s1 => ⟨s1 _ _ hx, by rw [List.length_map]; exact Nat.le_refl _⟩) (fun i H' x H'' z hz' s1 y => ?_) hs hd
  obtain ⟨e, k, y⟩ := y
  rw [List.getElem?_map, hz'] at y
  cases y
  exact ⟨e, rfl⟩
theorem ok_df (h : HasM K CT "demands_of" "Stock.demands_of" sDf ["self", "article"]) (T : Txt K mg CL CD CS) (TB : TxtB K mg CU CT) : OkM P w K mg base CT 1 "demands_of" ["self", "article"] (spDf CL CD CU CT) := by
  refine h.ok scDf (fun vs H Q E h => ?_) (fun f cdv A outer s H vs Q E hr h => ?_)
  · obtain ⟨S, E, s, a, rfl, _⟩ := h
    rfl
  · obtain ⟨S, E, st, a, rfl, hS, k⟩ := h
    refine ⟨_, pss_one (ps_ret (pe_lock (pe_lc' [("demand", 2)] (gName 2) rfl scDf.nd (pi_values (pe_fld (pv 0) rfl)) rfl
      (fun s H C cl fp => pg_name (i := 2) scDf.nd rfl (Or.inl rfl) (Or.inr rfl)) (fun s H C cl fp => pts_one (pt_cmpR op_eq (pe_fldK K (pv 2)) (pv 1) (nomark _))) (fun s H C cl fp => pv 2)))), ?_⟩
    obtain ⟨dx, hobj⟩ := hS.obj
    obtain ⟨qs, h1, h2, h3⟩ := hS.dems
    have hql : qs.length ≤ 40 := by rw [← List.length_map (f := Prod.snd), h2]; exact hS.wf.demN
    refine ⟨E.da, _, h1, trivial, fun od => ?_⟩
    have hobj' : upd H E.da (.frz od (.dK (demK qs))) S = some _ := (upd_ne (ne_of hobj h1 (by intro z; cases z))).trans hobj
    refine ⟨_, rfl, S, CT, dx, _, _, rfl, hobj', TB.stk.cl, TB.stk.no _ (by decide), rfl, E.da, od, _, rfl, upd_same, fun D hD => ?_⟩
    have hDa : D ≠ E.da := fun e => by rw [e, upd_same] at hD; cases hD
    have hDn : H D = none := by rw [upd_ne hDa] at hD; exact hD
    have hq : ∀ q ∈ qs, DemAt CD (upd H E.da (.frz od (.dK (demK qs)))) q.1 q.2 := fun q hq => by
      obtain ⟨ddx, e⟩ := h3 q hq
      exact ⟨ddx, by rw [upd_ne (ne_of e h1 (by intro z; cases z))]; exact e⟩
    refine lc_v' (zs := qs) (ky := fun q => Sum.inl (q.2.num : Int)) (v := fun q => V.ref q.1) (fun q => if (q.2.article == a) = true then some (V.ref q.1) else none) hD upd_same (small1000 (by omega)) (fun q H' Nx hqm s1 kp kn => ?_) (fun H' s1 hl => ?_)
    · obtain ⟨ddx, g⟩ := (hq q hqm).same s1
      refine ⟨rfl, _, rfl, q.1, CD, ddx, _, _, rfl, g, T.dem.cl, T.dem.no _ (by decide), rfl, _, rfl, rfl, _, rfl, ?_⟩
      rw [eqI]
      refine ite2 (fun hc => ?_) fun hc => ?_
      · exact ⟨_, rfl, kp H' _ (Same.refl _) (if_pos hc)⟩
      · exact kn H' (Same.refl _) (if_neg hc)
    · have s2 : Same H (upd H' E.da (.dK (demK qs))) := same_unlock h1 s1
      refine ⟨s1 _ _ upd_same, k _ D s2 hDn ⟨qs.filter fun q => q.2.article == a, ?_, ?_, fun q hqm => ?_⟩⟩
      · rw [upd_ne hDa, hl, fm_filter']
      · rw [← h2, List.filter_map]; rfl
      · exact (h3 q ((List.mem_filter.mp hqm).1)).same s2
end
end Rs
end
section
set_option maxHeartbeats 2000000
namespace Rs
open PySem PySem.Spec PyProof.Rows L2
open Vblaak (Lot Demand Stock Use lotAt between isArticle isDay inOrder demandsOf lessened)
open Vb (chunk mplan mleft subs sub1 cvr lf lotLt demLt lastOf Sh ordOf lackSum)
section
variable {X : Cx} {k : Nat} {m : Str} {ps : List Str} {sp : Sp} {C : Addr} {pos apos : Pos} {e o : Expr} {es : List Expr} {t : TA} {ta : TE}
theorem pe_okM {pl : Sem Bool} (F : OkM X.prog X.w X.K X.mg X.base C k m ps sp) (c : Cls X.K C) (hr : Room k X.A) (he : PE X o ta) (ha : PA X (e :: es) t)
    (hst : starEach (e :: es) X.env = (false, eval e X.env) :: starEach es X.env := by rfl) (hpl : (backTo pos (starEach es X.env)).any (·.1) = false := by rfl)
    (ht : eval (.Call (.Attribute o m apos) (e :: es) [] pos) X.env = (do
      let ov ← eval o X.env
      standAt apos.atName
      let (f, first) ← holding [ov] (getMethod ov m pl)
      callWith pos f first (backTo pos (starEach (e :: es) X.env)) (backToKw pos (keywordEach [] X.env))) := by rfl) :
    PE X (.Call (.Attribute o m apos) (e :: es) [] pos) (tMeth C m sp [] E0 ta t) := by
  obtain ⟨f, fd, F, hm, hb⟩ := F
  exact pe_meth he c hm F hr hb .nil pass0 ha hst hpl ht
theorem pe_okM0 {pl : Sem Bool} (F : OkM X.prog X.w X.K X.mg X.base C k m ps sp) (c : Cls X.K C) (hr : Room k X.A) (he : PE X o ta)
    (ht : eval (.Call (.Attribute o m apos) [] [] pos) X.env = (do
      let ov ← eval o X.env
      standAt apos.atName
      let (f, first) ← holding [ov] (getMethod ov m pl)
      callWith pos f first (backTo pos (starEach [] X.env)) (backToKw pos (keywordEach [] X.env))) := by rfl) :
    PE X (.Call (.Attribute o m apos) [] [] pos) (tMeth C m sp [] E0 ta tNil) := by
  obtain ⟨f, fd, F, hm, hb⟩ := F
  exact pe_meth0 he c hm F hr hb .nil pass0 ht
end
theorem plan_m (s : Stock) (a : Nat) : Vblaak.plan s a = mplan (ordOf s.lots a) (cvr s.lots) (lf s.lots) (demandsOf s a) := Vb.mplan_eq a _ _ (Vb.demandsOf_article s a)
/-- what an article would lack if ts were taken and tds told too -/
def lackIf (s : Stock) (a : Nat) (ts : List (Nat × Nat)) (tds : List Demand) : Nat := lackSum (mplan (ordOf s.lots a) (cvr s.lots) (subs (lf s.lots) ts) (inOrder (s.demands.filter (fun x => x.article == a) ++ tds)))
theorem lackIf_none (s : Stock) (a : Nat) : lackIf s a [] [] = Vblaak.lacks s a := by
  unfold lackIf Vblaak.lacks
  rw [plan_m, List.append_nil]
  rfl
theorem lackIf_with (s : Stock) (a day n : Nat) : lackIf s a [] [⟨s.given + 1, a, day, n⟩] = Vblaak.lacks (Vblaak.withDemand s a day n) a := by
  unfold lackIf Vblaak.lacks
  rw [plan_m]
  unfold Vblaak.withDemand demandsOf
  rw [List.filter_append, List.filter_cons, if_pos (by simp), List.filter_nil]
  rfl
theorem lackIf_used (s : Stock) (a : Nat) (ts : List (Nat × Nat)) (n : Nat) : lackIf s a ts [] = Vblaak.lacks (Vblaak.used s a (lessened s.lots ts, ts, n)) a := by
  unfold lackIf Vblaak.lacks
  rw [plan_m, List.append_nil]
  unfold Vblaak.used demandsOf
  have st := Vb.lessened_stat ts s.lots
  show _ = lackSum (mplan (ordOf (lessened s.lots ts) a) (cvr (lessened s.lots ts)) (lf (lessened s.lots ts)) _)
  rw [Vb.ordOf_stat st, Vb.cvr_stat st, Vb.lf_lessened]
theorem nums_nodup {ds : List Demand} (h : ds.Pairwise fun x y => x.num < y.num) : (ds.map fun x => x.num).Nodup := by
  unfold List.Nodup
  rw [List.pairwise_map]
  exact h.imp fun {x y} h => by omega
section
variable {P : Program} {w : World} {K : PySem.W.Frag} {mg : Str → Option Value} {base : Heap} {CL CD CS CU CT : Addr}
/-- taken of the article's lots, all of what is left -/
structure TakOk (s : Stock) (a : Nat) (ts : List (Nat × Nat)) : Prop where
  mem : ∀ e ∈ ts, e.1 < s.lots.length ∧ (lotAt s.lots e.1).article = a ∧ 0 < e.2
  fit : Fits (lf s.lots) ts
  nd : (ts.map Prod.fst).Nodup
theorem TakOk.nil (s : Stock) (a : Nat) : TakOk s a [] := ⟨by simp, trivial, by simp⟩
theorem TakOk.len {s : Stock} {a : Nat} {ts : List (Nat × Nat)} (h : TakOk s a ts) : ts.length ≤ s.lots.length := by
  have := nodup_len (ts.map Prod.fst) (List.range s.lots.length) h.nd fun i hi => by
    obtain ⟨e, he, rfl⟩ := List.mem_map.mp hi
    exact List.mem_range.mpr (h.mem e he).1
  rwa [List.length_map, List.length_range] at this
/-! shares_of -/
abbrev sSo : Stmt := inClass (top 66) 7
def spSo (CL CD CS CU CT : Addr) : Sp := fun vs H Q _ => ∃ S E s, ∃ a : Nat, vs = [.ref S, .int (a : Nat)] ∧ StockAt CL CD CU CT H S E s ∧ ∀ H' t, Same H H' → H t = none → SharesAt CS CD H' E.pa t (Vblaak.plan s a) → Q (.ref t) H'
theorem scSo : FnScope ["self", "article", "lots"] ["self", "article"] (defScope sSo) := ⟨rfl, rfl, rfl, by decide +kernel, rfl, by decide +kernel, by decide +kernel⟩
theorem ok_so (h : HasM K CT "shares_of" "Stock.shares_of" sSo ["self", "article"]) (T : Txt K mg CL CD CS) (TB : TxtB K mg CU CT) (GL : OkM P w K mg base CT 1 "lots_of" ["self", "article"] (spLo CL CD CU CT)) (GD : OkM P w K mg base CT 1 "demands_of" ["self", "article"] (spDf CL CD CU CT))
    (GW : Ok P w K mg base 1 "what_is_left" ["lots"] (spWil CL)) (GP : Ok P w K mg base 5 "plan_shares" ["lots", "left", "demands"] (spPl CL CD CS)) : OkM P w K mg base CT 6 "shares_of" ["self", "article"] (spSo CL CD CS CU CT) := by
  refine h.ok scSo (fun vs H Q E h => ?_) (fun f cdv A outer s H vs Q E hr h => ?_)
  · obtain ⟨S, E, s, a, rfl, _⟩ := h
    rfl
  · obtain ⟨S, E, st, a, rfl, hS, k⟩ := h
    have hr1 : Room 1 _ := hr.mono (by decide)
    refine ⟨_, pss_cons (ps_set (i := 2) scSo.nd rfl (Or.inl rfl) (pe_okM GL TB.stk.cl hr1 (pv 0) (pa_cons (pv 1) pa_nil))) (pss_one (ps_ret (pe_ok GP hr (pa_cons (pv 2) (pa_cons (pe_ok GW hr1 (pa_cons (pv 2) pa_nil)) (pa_cons (pe_okM GD TB.stk.cl hr1 (pv 0) (pa_cons (pv 1) pa_nil)) pa_nil)))))), ?_⟩
    obtain ⟨dx, hobj⟩ := hS.obj
    have hl40 := hS.wf.lotsN
    have hix := ixOf_len st.lots a
    refine ⟨_, rfl, S, dx, _, rfl, hobj, rfl, _, rfl, S, E, st, a, rfl, hS, fun H1 t1 s1 ht1 hl1 => ?_⟩
    refine ⟨_, rfl, _, rfl, t1, E.pa, st.lots, _, rfl, hl1, by omega, fun H2 d2 s2 hd2 hl2 => ?_⟩
    refine ⟨_, rfl, S, dx, _, rfl, s2 _ _ (s1 _ _ hobj), rfl, _, rfl, S, E, st, a, rfl, hS.same (s1.trans s2), fun H3 t3 s3 ht3 hl3 => ?_⟩
    have hfp : (st.demands.filter fun x => x.article == a).Pairwise fun x y => x.num < y.num := List.Pairwise.filter _ hS.wf.demP
    refine ⟨t1, d2, t3, E.pa, st.lots, _, ordOf st.lots a, lf st.lots, _, demandsOf st a, rfl, hl1.same (s2.trans s3), by omega, ixOf_nodup _ _, ord_perm _ _, Vb.ordOf_sorted _ _, ?_, hl3, ?_, nums_nodup hfp, Vb.inOrder_lt _ hfp, Vb.mem_inOrder _, fun H4 t4 s4 ht4 hsh => ?_⟩
    · obtain ⟨kvs, g1, g2, g3⟩ := hl2
      exact ⟨kvs, s3 _ _ g1, g2, g3⟩
    · have := List.length_filter_le (fun x : Demand => x.article == a) st.demands
      have := hS.wf.demN
      omega
    · rw [← plan_m] at hsh
      exact k H4 t4 (((s1.trans s2).trans s3).trans s4) (((s1.trans s2).trans s3).free ht4) hsh
/-! lack_if -/
abbrev sLi : Stmt := inClass (top 66) 8
def spLi (CL CD CU CT : Addr) : Sp := fun vs H Q _ => ∃ S E s b c, ∃ a : Nat, ∃ ts tds, vs = [.ref S, .int (a : Nat), .ref b, .ref c] ∧ StockAt CL CD CU CT H S E s ∧ TakAt H E.pa b ts ∧ TakOk s a ts ∧ DemsAt CD H c tds ∧ tds.length ≤ 1 ∧ (∀ x ∈ tds, s.given < x.num) ∧
  ∀ H', Same H H' → Q (.int (lackIf s a ts tds : Nat)) H'
theorem scLi : FnScope ["self", "article", "taken", "told", "lots", "left"] ["self", "article", "taken", "told"] (defScope sLi) := ⟨rfl, rfl, rfl, by decide +kernel, rfl, by decide +kernel, by decide +kernel⟩
theorem mplan_length (ord : List Nat) (cv : Nat → Nat → Bool) (f : Nat → Nat) (ds : List Demand) : (mplan ord cv f (inOrder ds)).length = ds.length := by rw [mplan_len, Vb.inOrder_length]
theorem ok_li (h : HasM K CT "lack_if" "Stock.lack_if" sLi ["self", "article", "taken", "told"]) (T : Txt K mg CL CD CS) (TB : TxtB K mg CU CT) (GL : OkM P w K mg base CT 1 "lots_of" ["self", "article"] (spLo CL CD CU CT)) (GD : OkM P w K mg base CT 1 "demands_of" ["self", "article"] (spDf CL CD CU CT))
    (GW : Ok P w K mg base 1 "what_is_left" ["lots"] (spWil CL)) (GP : Ok P w K mg base 5 "plan_shares" ["lots", "left", "demands"] (spPl CL CD CS)) (GT : Ok P w K mg base 1 "take_off" ["left", "taken"] (spTo CL)) (GK : Ok P w K mg base 1 "doses_lacking" ["shares"] (spLk CS CD)) :
    OkM P w K mg base CT 6 "lack_if" ["self", "article", "taken", "told"] (spLi CL CD CU CT) := by
  refine h.ok scLi (fun vs H Q E h => ?_) (fun f cdv A outer s H vs Q E hr h => ?_)
  · obtain ⟨S, E, s, b, c, a, ts, tds, rfl, _⟩ := h
    rfl
  · obtain ⟨S, E, st, b, c, a, ts, tds, rfl, hS, htk, hto, hds, htl, htn, k⟩ := h
    have hr1 : Room 1 _ := hr.mono (by decide)
    refine ⟨_, pss_cons (ps_set (i := 4) scLi.nd rfl (Or.inl rfl) (pe_okM GL TB.stk.cl hr1 (pv 0) (pa_cons (pv 1) pa_nil)))
      (pss_cons (ps_set (i := 5) scLi.nd rfl (Or.inl rfl) (pe_ok GW hr1 (pa_cons (pv 4) pa_nil)))
      (pss_cons (ps_expr (pe_ok GT hr1 (pa_cons (pv 5) (pa_cons (pv 2) pa_nil))))
      (pss_one (ps_ret (pe_ok GK hr1 (pa_cons (pe_ok GP hr (pa_cons (pv 4) (pa_cons (pv 5) (pa_cons (pe_op op_cat (pe_okM GD TB.stk.cl hr1 (pv 0) (pa_cons (pv 1) pa_nil)) (pv 3)) pa_nil)))) pa_nil)))))), ?_⟩
    obtain ⟨dx, hobj⟩ := hS.obj
    have hl40 := hS.wf.lotsN
    have hd40 := hS.wf.demN
    have hix := ixOf_len st.lots a
    refine ⟨_, rfl, S, dx, _, rfl, hobj, rfl, _, rfl, S, E, st, a, rfl, hS, fun H1 t1 s1 ht1 hl1 => ?_⟩
    refine ⟨_, rfl, t1, E.pa, st.lots, _, rfl, hl1, by omega, fun H2 d2 s2 hd2 hl2 => ?_⟩
    have s12 := s1.trans s2
    refine ⟨_, rfl, _, rfl, d2, b, E.pa, st.lots, _, lf st.lots, ts, rfl, hl2, htk.same s12, fun e he => ⟨mem_ixOf.mpr ⟨(hto.mem e he).1, (hto.mem e he).2.1⟩, (hS.lotAt (hto.mem e he).1).same s12⟩, hto.fit, fun H3 s3 hl3 => ?_⟩
    obtain ⟨kv2, hk2, _⟩ := id hl2
    have s03 : Same H H3 := fun x o e => s3 x o (s12 _ _ e) (fun z => by rw [z] at e; rw [s1.free hd2] at e; cases e)
    have s13 : Same H1 H3 := fun x o e => s3 x o (s2 _ _ e) (ne_of_none e hd2)
    refine ⟨_, rfl, _, rfl, _, rfl, S, dx, _, rfl, s03 _ _ hobj, rfl, _, rfl, S, E, st, a, rfl, hS.same s03, fun H4 t4 s4 ht4 hl4 => ?_⟩
    obtain ⟨qs, q1, q2, q3⟩ := hl4
    obtain ⟨rs, r1, r2, r3⟩ := hds.same (s03.trans s4)
    have hql : qs.length ≤ 40 := by
      rw [← List.length_map (f := Prod.snd), q2]
      have := List.length_filter_le (fun x : Demand => x.article == a) st.demands
      omega
    have hrl : rs.length ≤ 1 := by rw [← List.length_map (f := Prod.snd), r2]; exact htl
    refine ⟨_, rfl, t4, c, _, _, rfl, rfl, q1, r1, Nat.le_of_lt (small1000 (by rw [List.length_map, List.length_map]; omega)), fun t5 ht5 => ?_⟩
    have s5 : Same H4 (upd H4 t5 (.lst (qs.map (fun q => V.ref q.1) ++ rs.map (fun q => V.ref q.1)))) := same_new ht5
    have hfp : (st.demands.filter (fun x => x.article == a) ++ tds).Pairwise fun x y => x.num < y.num := by
      rw [List.pairwise_append]
      refine ⟨List.Pairwise.filter _ hS.wf.demP, ?_, fun x hx y hy => ?_⟩
      · match tds, htl with
        | [], _ => simp
        | [_], _ => simp
      · have := hS.wf.demG x (List.mem_filter.mp hx).1
        have := htn y hy
        omega
    have hdl : (st.demands.filter (fun x => x.article == a) ++ tds).length ≤ 41 := by
      rw [List.length_append]
      have := List.length_filter_le (fun x : Demand => x.article == a) st.demands
      omega
    refine ⟨t1, d2, t5, E.pa, st.lots, _, ordOf st.lots a, subs (lf st.lots) ts, st.demands.filter (fun x => x.article == a) ++ tds, inOrder (st.demands.filter (fun x => x.article == a) ++ tds), rfl, hl1.same ((s13.trans s4).trans s5), by omega, ixOf_nodup _ _, ord_perm _ _, Vb.ordOf_sorted _ _, ?_, ⟨qs ++ rs, ?_, ?_, ?_⟩, by omega, nums_nodup hfp, Vb.inOrder_lt _ hfp, Vb.mem_inOrder _, fun H6 t6 s6 ht6 hsh => ?_⟩
    · obtain ⟨kvs, g1, g2, g3⟩ := hl3
      exact ⟨kvs, s5 _ _ (s4 _ _ g1), g2, g3⟩
    · rw [upd_same, List.map_append]
    · rw [List.map_append, q2, r2]
    · intro q hq
      rcases List.mem_append.mp hq with m | m
      · exact (q3 q m).same s5
      · exact (r3 q m).same s5
    · exact ⟨t6, E.pa, _, rfl, hsh, by rw [mplan_length]; omega, fun H7 s7 => k H7 ((((s03.trans s4).trans s5).trans s6).trans s7)⟩
/-! lack_of -/
abbrev sLof : Stmt := inClass (top 66) 9
def spLof (CL CD CU CT : Addr) : Sp := fun vs H Q _ => ∃ S E s, ∃ a : Nat, vs = [.ref S, .int (a : Nat)] ∧ StockAt CL CD CU CT H S E s ∧ ∀ H', Same H H' → Q (.int (Vblaak.lacks s a : Nat)) H'
theorem scLof : FnScope ["self", "article"] ["self", "article"] (defScope sLof) := ⟨rfl, rfl, rfl, by decide +kernel, rfl, by decide +kernel, by decide +kernel⟩
theorem takNil {H : Hp} {pa : Nat → Addr} {t : Addr} (h : H t = some (.lst [])) : TakAt H pa t [] := ⟨[], h, rfl, by simp⟩
theorem demNil {H : Hp} {t : Addr} (h : H t = some (.lst [])) : DemsAt CD H t [] := ⟨[], h, rfl, by simp⟩
theorem ok_lof (h : HasM K CT "lack_of" "Stock.lack_of" sLof ["self", "article"]) (T : Txt K mg CL CD CS) (TB : TxtB K mg CU CT) (GI : OkM P w K mg base CT 6 "lack_if" ["self", "article", "taken", "told"] (spLi CL CD CU CT)) :
    OkM P w K mg base CT 7 "lack_of" ["self", "article"] (spLof CL CD CU CT) := by
  refine h.ok scLof (fun vs H Q E h => ?_) (fun f cdv A outer s H vs Q E hr h => ?_)
  · obtain ⟨S, E, s, a, rfl, _⟩ := h
    rfl
  · obtain ⟨S, E, st, a, rfl, hS, k⟩ := h
    refine ⟨_, pss_one (ps_ret (pe_okM GI TB.stk.cl hr (pv 0) (pa_cons (pv 1) (pa_cons (pe_lst pa_nil) (pa_cons (pe_lst pa_nil) pa_nil))))), ?_⟩
    obtain ⟨dx, hobj⟩ := hS.obj
    refine ⟨_, rfl, S, dx, _, rfl, hobj, rfl, _, rfl, Nat.zero_le _, fun b hb => ⟨Nat.zero_le _, fun c hc => ?_⟩⟩
    have s1 : Same H (upd H b (.lst [])) := same_new hb
    have s2 : Same (upd H b (.lst [])) (upd (upd H b (.lst [])) c (.lst [])) := same_new hc
    exact ⟨S, E, st, b, c, a, [], [], rfl, hS.same (s1.trans s2), takNil (s2 _ _ upd_same), TakOk.nil _ _, demNil upd_same, by simp, by simp, fun H' s3 => by rw [lackIf_none]; exact k H' ((s1.trans s2).trans s3)⟩
/-! lack_more_with, lack_more_without -/
abbrev sLw : Stmt := inClass (top 66) 10
def spLw (CL CD CU CT : Addr) : Sp := fun vs H Q _ => ∃ S E s p d, vs = [.ref S, .ref p] ∧ StockAt CL CD CU CT H S E s ∧ DemAt CD H p d ∧ s.given < d.num ∧ ∀ H', Same H H' → Q (.int ((lackIf s d.article [] [d] : Nat) - (Vblaak.lacks s d.article : Nat))) H'
theorem scLw : FnScope ["self", "demand"] ["self", "demand"] (defScope sLw) := ⟨rfl, rfl, rfl, by decide +kernel, rfl, by decide +kernel, by decide +kernel⟩
theorem ok_lw (h : HasM K CT "lack_more_with" "Stock.lack_more_with" sLw ["self", "demand"]) (T : Txt K mg CL CD CS) (TB : TxtB K mg CU CT) (GI : OkM P w K mg base CT 6 "lack_if" ["self", "article", "taken", "told"] (spLi CL CD CU CT))
    (GO : OkM P w K mg base CT 7 "lack_of" ["self", "article"] (spLof CL CD CU CT)) : OkM P w K mg base CT 8 "lack_more_with" ["self", "demand"] (spLw CL CD CU CT) := by
  refine h.ok scLw (fun vs H Q E h => ?_) (fun f cdv A outer s H vs Q E hr h => ?_)
  · obtain ⟨S, E, s, p, d, rfl, _⟩ := h
    rfl
  · obtain ⟨S, E, st, p, d, rfl, hS, hd, hn, k⟩ := h
    have hr6 : Room 6 _ := hr.mono (by decide)
    refine ⟨_, pss_one (ps_ret (pe_op op_sub (pe_okM GI TB.stk.cl hr6 (pv 0) (pa_cons (pe_fld (pv 1) rfl) (pa_cons (pe_lst pa_nil) (pa_cons (pe_lst (pa_cons (pv 1) pa_nil)) pa_nil)))) (pe_okM GO TB.stk.cl hr (pv 0) (pa_cons (pe_fld (pv 1) rfl) pa_nil)))), ?_⟩
    obtain ⟨dx, hobj⟩ := hS.obj
    obtain ⟨ddx, hdm⟩ := id hd
    refine ⟨_, rfl, S, dx, _, rfl, hobj, rfl, _, rfl, p, CD, ddx, _, _, rfl, hdm, T.dem.cl, T.dem.no _ (by decide), rfl, Nat.zero_le _, fun b hb => ⟨_, rfl, (by show 1 ≤ sizeLine; decide), fun c hc => ?_⟩⟩
    have s1 : Same H (upd H b (.lst [])) := same_new hb
    have s2 : Same (upd H b (.lst [])) (upd (upd H b (.lst [])) c (.lst [.ref p])) := same_new hc
    refine ⟨S, E, st, b, c, d.article, [], [d], rfl, hS.same (s1.trans s2), takNil (s2 _ _ upd_same), TakOk.nil _ _, ⟨[(p, d)], upd_same, rfl, fun q hq => by rw [List.mem_singleton.mp hq]; exact hd.same (s1.trans s2)⟩, by simp, fun x hx => by rw [List.mem_singleton.mp hx]; exact hn, fun H3 s3 => ?_⟩
    have s03 := (s1.trans s2).trans s3
    exact ⟨_, rfl, S, dx, _, rfl, s03 _ _ hobj, rfl, _, rfl, p, CD, ddx, _, _, rfl, s03 _ _ hdm, T.dem.cl, T.dem.no _ (by decide), rfl, S, E, st, d.article, rfl, hS.same s03, fun H4 s4 => ⟨_, _, rfl, rfl, k H4 (s03.trans s4)⟩⟩
abbrev sLwo : Stmt := inClass (top 66) 11
def spLwo (CL CD CU CT : Addr) : Sp := fun vs H Q _ => ∃ S E s b, ∃ a : Nat, ∃ ts, vs = [.ref S, .int (a : Nat), .ref b] ∧ StockAt CL CD CU CT H S E s ∧ TakAt H E.pa b ts ∧ TakOk s a ts ∧ ∀ H', Same H H' → Q (.int ((lackIf s a ts [] : Nat) - (Vblaak.lacks s a : Nat))) H'
theorem scLwo : FnScope ["self", "article", "taken"] ["self", "article", "taken"] (defScope sLwo) := ⟨rfl, rfl, rfl, by decide +kernel, rfl, by decide +kernel, by decide +kernel⟩
theorem ok_lwo (h : HasM K CT "lack_more_without" "Stock.lack_more_without" sLwo ["self", "article", "taken"]) (T : Txt K mg CL CD CS) (TB : TxtB K mg CU CT) (GI : OkM P w K mg base CT 6 "lack_if" ["self", "article", "taken", "told"] (spLi CL CD CU CT))
    (GO : OkM P w K mg base CT 7 "lack_of" ["self", "article"] (spLof CL CD CU CT)) : OkM P w K mg base CT 8 "lack_more_without" ["self", "article", "taken"] (spLwo CL CD CU CT) := by
  refine h.ok scLwo (fun vs H Q E h => ?_) (fun f cdv A outer s H vs Q E hr h => ?_)
  · obtain ⟨S, E, s, b, a, ts, rfl, _⟩ := h
    rfl
  · obtain ⟨S, E, st, b, a, ts, rfl, hS, ht, hto, k⟩ := h
    have hr6 : Room 6 _ := hr.mono (by decide)
    refine ⟨_, pss_one (ps_ret (pe_op op_sub (pe_okM GI TB.stk.cl hr6 (pv 0) (pa_cons (pv 1) (pa_cons (pv 2) (pa_cons (pe_lst pa_nil) pa_nil)))) (pe_okM GO TB.stk.cl hr (pv 0) (pa_cons (pv 1) pa_nil)))), ?_⟩
    obtain ⟨dx, hobj⟩ := hS.obj
    refine ⟨_, rfl, S, dx, _, rfl, hobj, rfl, _, rfl, _, rfl, Nat.zero_le _, fun c hc => ?_⟩
    have s1 : Same H (upd H c (.lst [])) := same_new hc
    refine ⟨S, E, st, b, c, a, ts, [], rfl, hS.same s1, ht.same s1, hto, demNil upd_same, by simp, by simp, fun H3 s3 => ?_⟩
    have s03 := s1.trans s3
    exact ⟨_, rfl, S, dx, _, rfl, s03 _ _ hobj, rfl, _, rfl, S, E, st, a, rfl, hS.same s03, fun H4 s4 => ⟨_, _, rfl, rfl, k H4 (s03.trans s4)⟩⟩
/-! takeable_now -/
abbrev sTn : Stmt := inClass (top 66) 12
abbrev tkn (s : Stock) (a n : Nat) : List (Nat × Nat) × Nat := chunk (fun i => cvr s.lots i s.today) (lf s.lots) (ordOf s.lots a) n
theorem tkn_ok (s : Stock) (a n : Nat) : TakOk s a (tkn s a n).1 := ⟨fun e he => by
    obtain ⟨h1, _, h3, _⟩ := Vb.chunk_mem he
    obtain ⟨h1, h2⟩ := Vb.mem_ordOf.mp h1
    exact ⟨h1, h2, h3⟩, chunk_fits _ _ _ _ (Vb.ordOf_nodup _ _), chunk_nodup _ _ _ _ (Vb.ordOf_nodup _ _)⟩
def spTn (CL CD CU CT : Addr) : Sp := fun vs H Q _ => ∃ S E s, ∃ a n : Nat, vs = [.ref S, .int (a : Nat), .int (n : Nat)] ∧ StockAt CL CD CU CT H S E s ∧ ∀ H' t, Same H H' → H t = none → TakAt H' E.pa t (tkn s a n).1 → Q (.ref t) H'
theorem scTn : FnScope ["self", "article", "doses", "lots"] ["self", "article", "doses"] (defScope sTn) := ⟨rfl, rfl, rfl, by decide +kernel, rfl, by decide +kernel, by decide +kernel⟩
theorem ok_tn (h : HasM K CT "takeable_now" "Stock.takeable_now" sTn ["self", "article", "doses"]) (T : Txt K mg CL CD CS) (TB : TxtB K mg CU CT) (GL : OkM P w K mg base CT 1 "lots_of" ["self", "article"] (spLo CL CD CU CT))
    (GW : Ok P w K mg base 1 "what_is_left" ["lots"] (spWil CL)) (GF : Ok P w K mg base 4 "first_expired_first" ["lots", "left", "day", "doses"] (spFef CL)) : OkM P w K mg base CT 5 "takeable_now" ["self", "article", "doses"] (spTn CL CD CU CT) := by
  refine h.ok scTn (fun vs H Q E h => ?_) (fun f cdv A outer s H vs Q E hr h => ?_)
  · obtain ⟨S, E, s, a, n, rfl, _⟩ := h
    rfl
  · obtain ⟨S, E, st, a, n, rfl, hS, k⟩ := h
    have hr1 : Room 1 _ := hr.mono (by decide)
    refine ⟨_, pss_cons (ps_set (i := 3) scTn.nd rfl (Or.inl rfl) (pe_okM GL TB.stk.cl hr1 (pv 0) (pa_cons (pv 1) pa_nil))) (pss_one (ps_ret (pe_ok GF hr (pa_cons (pv 3) (pa_cons (pe_ok GW hr1 (pa_cons (pv 3) pa_nil)) (pa_cons (pe_fld (pv 0) rfl) (pa_cons (pv 2) pa_nil))))))), ?_⟩
    obtain ⟨dx, hobj⟩ := hS.obj
    have hl40 := hS.wf.lotsN
    have hix := ixOf_len st.lots a
    refine ⟨_, rfl, S, dx, _, rfl, hobj, rfl, _, rfl, S, E, st, a, rfl, hS, fun H1 t1 s1 ht1 hl1 => ?_⟩
    refine ⟨_, rfl, _, rfl, t1, E.pa, st.lots, _, rfl, hl1, by omega, fun H2 d2 s2 hd2 hl2 => ?_⟩
    refine ⟨_, rfl, S, CT, dx, _, _, rfl, s2 _ _ (s1 _ _ hobj), TB.stk.cl, TB.stk.no _ (by decide), rfl, _, rfl, t1, d2, E.pa, st.lots, _, ordOf st.lots a, lf st.lots, st.today, n, rfl, hl1.same s2, by omega, ixOf_nodup _ _, ord_perm _ _, Vb.ordOf_sorted _ _, hl2, fun H3 t3 s3 ht3 htk => ?_⟩
    exact k H3 t3 ((s1.trans s2).trans s3) ((s1.trans s2).free ht3) htk
end
end Rs
end
section
set_option maxHeartbeats 2000000
namespace Rs
open PySem PySem.Spec PyProof.Rows L2
open Vblaak (Lot Demand Stock Use lotAt between isArticle isDay inOrder demandsOf lessened)
open Vb (chunk mplan mleft subs sub1 cvr lf lotLt demLt lastOf Sh ordOf lackSum)
/-! ### frames -/
/-- what a call may change -/
def foot (S : Addr) (E : Parts) (n : Nat) (b : Addr) : Prop := b = S ∨ b = E.la ∨ b = E.da ∨ b = E.ua ∨ ∃ i, i < n ∧ b = E.pa i
structure After (S : Addr) (E : Parts) (n : Nat) (H : Hp) (E' : Parts) (n' : Nat) (H' : Hp) : Prop where
  frm : ∀ b o, H b = some o → ¬ foot S E n b → H' b = some o
  grow : ∀ b, foot S E' n' b → foot S E n b ∨ H b = none
theorem After.same {S : Addr} {E : Parts} {n : Nat} {H H' : Hp} (s : Same H H') : After S E n H E n H' := ⟨fun b o e _ => s b o e, fun b h => .inl h⟩
theorem After.trans {S : Addr} {E1 E2 E3 : Parts} {n1 n2 n3 : Nat} {H1 H2 H3 : Hp} (a : After S E1 n1 H1 E2 n2 H2) (b : After S E2 n2 H2 E3 n3 H3) : After S E1 n1 H1 E3 n3 H3 := by
  refine ⟨fun x o e hf => b.frm x o (a.frm x o e hf) fun q => ?_, fun x q => ?_⟩
  · rcases a.grow x q with z | z
    · exact hf z
    · rw [e] at z; cases z
  · rcases b.grow x q with z | z
    · exact a.grow x z
    · by_cases hf : foot S E1 n1 x
      · exact .inl hf
      · cases e : H1 x with
        | none => exact .inr rfl
        | some o => rw [a.frm x o e hf] at z; cases z
/-- what no change of a stock's parts touches -/
def Keep (la ua : Addr) (b : Addr) : HO → Prop
  | .tup _ => True
  | .lst _ => b ≠ la ∧ b ≠ ua
  | .ins _ _ fs => fs.length = 4
  | _ => False
def Kp (la ua : Addr) (H H' : Hp) : Prop := ∀ b o, H b = some o → Keep la ua b o → H' b = some o
theorem Kp.same {la ua : Addr} {H H' : Hp} (s : Same H H') : Kp la ua H H' := fun b o e _ => s b o e
theorem Kp.trans {la ua : Addr} {H H1 H2 : Hp} (a : Kp la ua H H1) (b : Kp la ua H1 H2) : Kp la ua H H2 := fun x o e k => b x o (a x o e k) k
theorem Kp.upd {la ua : Addr} {H : Hp} {a : Addr} {o u : HO} (h : H a = some o) (hk : ¬ Keep la ua a o) : Kp la ua H (upd H a u) := fun b o' e k => by
  rw [upd_ne (fun z => by subst z; rw [h] at e; cases e; exact hk k)]
  exact e
theorem DemAt.kp {CD la ua : Addr} {H H' : Hp} {p : Addr} {d : Demand} (h : DemAt CD H p d) (k : Kp la ua H H') : DemAt CD H' p d := let ⟨dx, e⟩ := h; ⟨dx, k _ _ e rfl⟩
theorem TakAt.kp {la ua : Addr} {H H' : Hp} {pa : Nat → Addr} {t : Addr} {ts : List (Nat × Nat)} (h : TakAt H pa t ts) (k : Kp la ua H H') (h1 : t ≠ la) (h2 : t ≠ ua) : TakAt H' pa t ts := let ⟨zs, g1, g2, g3⟩ := h; ⟨zs, k _ _ g1 ⟨h1, h2⟩, g2, fun z hz => k _ _ (g3 z hz) trivial⟩
theorem UseAt.kp {CU la ua : Addr} {H H' : Hp} {pa : Nat → Addr} {p t : Addr} {n : Nat} {u : Use} (h : UseAt CU H pa p t n u) (k : Kp la ua H H') (h1 : t ≠ la) (h2 : t ≠ ua) : UseAt CU H' pa p t n u := ⟨let ⟨dx, e⟩ := h.1; ⟨dx, k _ _ e rfl⟩, h.2.kp k h1 h2⟩
theorem TakAt.pa {H : Hp} {pa pa' : Nat → Addr} {t : Addr} {ts : List (Nat × Nat)} (h : TakAt H pa t ts) (k : ∀ e ∈ ts, pa e.1 = pa' e.1) : TakAt H pa' t ts := by
  obtain ⟨zs, g1, g2, g3⟩ := h
  refine ⟨zs, g1, g2, fun z hz => ?_⟩
  rw [g3 z hz, k z.2 (by rw [← g2]; exact List.mem_map.mpr ⟨z, hz, rfl⟩)]
/-- the uses at ua -/
def UsesAt (CU : Addr) (H : Hp) (pa : Nat → Addr) (la ua : Addr) (us : List Use) : Prop := ∃ zs : List (Addr × Addr × Use), H ua = some (.lst (zs.map fun u => V.ref u.1)) ∧ zs.map (fun u => u.2.2) = us ∧ ∀ i u, zs[i]? = some u → u.2.1 ≠ la ∧ u.2.1 ≠ ua ∧ UseAt CU H pa u.1 u.2.1 i u.2.2
theorem UsesAt.kp {CU la ua : Addr} {H H' : Hp} {pa : Nat → Addr} {us : List Use} (h : UsesAt CU H pa la ua us) (k : Kp la ua H H') (hu : ∀ o, H ua = some o → H' ua = some o) : UsesAt CU H' pa la ua us := let ⟨zs, g1, g2, g3⟩ := h; ⟨zs, hu _ g1, g2, fun i u hi => ⟨(g3 i u hi).1, (g3 i u hi).2.1, (g3 i u hi).2.2.kp k (g3 i u hi).1 (g3 i u hi).2.1⟩⟩
def DemsD (CD : Addr) (H : Hp) (da : Addr) (ds : List Demand) : Prop := ∃ qs : List (Addr × Demand), H da = some (.dK (demK qs)) ∧ qs.map Prod.snd = ds ∧ ∀ q ∈ qs, DemAt CD H q.1 q.2
theorem DemsD.kp {CD la ua : Addr} {H H' : Hp} {da : Addr} {ds : List Demand} (h : DemsD CD H da ds) (k : Kp la ua H H') (hu : ∀ o, H da = some o → H' da = some o) : DemsD CD H' da ds := let ⟨qs, g1, g2, g3⟩ := h; ⟨qs, hu _ g1, g2, fun q hq => (g3 q hq).kp k⟩
theorem ix_tupK {X : Cx} (K : PySem.W.Frag) (hK : X.K = K := by rfl) : IxR X (rIxT K) := by
  subst hK
  exact ix_tup
section
variable {P : Program} {w : World} {K : PySem.W.Frag} {mg : Str → Option Value} {base : Heap} {CL CD CS CU CT : Addr}
/-! Use -/
abbrev sUsI : Stmt := inClass (top 65) 0
def spUsI (CU : Addr) : Sp := fun vs H Q _ => ∃ p dx t, ∃ n a c : Nat, vs = [.ref p, .int (n : Nat), .int (a : Nat), .int (c : Nat), .ref t] ∧ H p = some (.ins CU dx []) ∧ ∀ H', SBut p H H' → H' p = some (.ins CU dx (useF n a c t)) → Q .non H'
theorem scUsI : FnScope ["self", "number", "article", "day", "taken"] ["self", "number", "article", "day", "taken"] (defScope sUsI) := ⟨rfl, rfl, rfl, by decide +kernel, rfl, by decide +kernel, by decide +kernel⟩
theorem ok_usI (h : HasC K mg CU "Use" "Use.__init__" sUsI ["self", "number", "article", "day", "taken"]) (TB : TxtB K mg CU CT) : OkC P w K mg base CU 1 "Use" ["self", "number", "article", "day", "taken"] (spUsI CU) := by
  refine h.ok scUsI (fun vs H Q E h => ?_) (fun f0 cdv A outer s H vs Q E hr h => ?_)
  · obtain ⟨p, dx, t, n, a, c, rfl, _⟩ := h
    rfl
  · obtain ⟨p, dx, t, n, a, c, rfl, hp, k⟩ := h
    refine ⟨_, pss_cons (ps_fld (pv 0) (pv 1) rfl) (pss_cons (ps_fld (pv 0) (pv 2) rfl) (pss_cons (ps_fld (pv 0) (pv 3) rfl) (pss_one (ps_fld (pv 0) (pv 4) rfl)))), ?_⟩
    refine ⟨_, rfl, _, rfl, p, CU, dx, _, rfl, hp, TB.use.cl, TB.use.no _ (by decide), (by decide), ?_⟩
    refine ⟨_, rfl, _, rfl, p, CU, dx, _, rfl, upd_same, TB.use.cl, TB.use.no _ (by decide), (by show 1 < 1000; decide), ?_⟩
    refine ⟨_, rfl, _, rfl, p, CU, dx, _, rfl, upd_same, TB.use.cl, TB.use.no _ (by decide), (by show 2 < 1000; decide), ?_⟩
    refine ⟨_, rfl, _, rfl, p, CU, dx, _, rfl, upd_same, TB.use.cl, TB.use.no _ (by decide), (by show 3 < 1000; decide), ?_⟩
    exact k _ (fun b o e hb => by simp only [upd_ne hb]; exact e) upd_same
abbrev sUf : Stmt := inClass (top 65) 1
def spUf (CL CU : Addr) : Sp := fun vs H Q _ => ∃ p t pa l q, ∃ n i : Nat, ∃ u y, vs = [.ref p, .ref q] ∧ UseAt CU H pa p t n u ∧ u.took.length ≤ 100 ∧ LotsIn CL H pa l u.took ∧ LotAt CL H q i y ∧ ∀ H', Same H H' → Q (.int (tsum (u.took.filter fun e => e.1 == i) : Nat)) H'
theorem scUf : FnScope ["self", "lot", "pair"] ["self", "lot"] (defScope sUf) := ⟨rfl, rfl, rfl, by decide +kernel, rfl, by decide +kernel, by decide +kernel⟩
theorem ok_uf (h : HasM K CU "doses_from" "Use.doses_from" sUf ["self", "lot"]) (T : Txt K mg CL CD CS) (TB : TxtB K mg CU CT) (GD : Ok P w K mg base 1 "doses_of" ["taken"] spDo) : OkM P w K mg base CU 2 "doses_from" ["self", "lot"] (spUf CL CU) := by
  refine h.ok scUf (fun vs H Q E h => ?_) (fun f0 cdv A outer s H vs Q E hr h => ?_)
  · obtain ⟨p, t, pa, l, q, n, i, u, y, rfl, _⟩ := h
    rfl
  · obtain ⟨p, t, pa, l, q, n, i, u, y, rfl, ⟨⟨dx, hp⟩, ⟨zs, h1, h2, h3⟩⟩, hz, hlo, ⟨qdx, hq⟩, k⟩ := h
    have hlen : zs.length = u.took.length := by rw [← h2, List.length_map]
    refine ⟨_, pss_one (ps_ret (pe_ok GD hr (pa_cons (pe_lc' [("pair", 2)] (gName 2) rfl scUf.nd (pi_list (pe_fld (pv 0) rfl)) rfl
      (fun s H C cl fp => pg_name (i := 2) scUf.nd rfl (Or.inl rfl) (Or.inr rfl)) (fun s H C cl fp => pts_one (pt_cmpR op_eq (pe_fldK K (pe_ix (ix_tupK K) (pv 2) pe_int (fun _ _ => rfl))) (pe_fldK K (pv 1)) (nomark _))) (fun s H C cl fp => pv 2)) pa_nil))), ?_⟩
    refine ⟨_, rfl, p, CU, dx, _, _, rfl, hp, TB.use.cl, TB.use.no _ (by decide), rfl, t, rfl, ⟨_, SqL.of h1⟩, fun D hD => ?_⟩
    refine lc_l zs (fun z => V.ref z.1) (fun z => if (z.2.1 == i) = true then some (V.ref z.1) else none) hD (SqL.of h1) (small1000 (by omega)) (fun z H' Nx hzm s1 kp kn => ?_) (fun H' s1 hl => ?_)
    · have hm : z.2 ∈ u.took := by rw [← h2]; exact List.mem_map.mpr ⟨z, hzm, rfl⟩
      obtain ⟨ldx, g⟩ := (hlo _ hm).same s1
      refine ⟨rfl, _, rfl, z.1, _, _, _, rfl, rfl, SqT.of (s1 _ _ (h3 z hzm)), at_of (j := 0) (v := .ref (pa z.2.1)) rfl rfl, pa z.2.1, CL, ldx, _, _, rfl, g, T.lot.cl, T.lot.no _ (by decide), rfl, _, rfl, q, CL, qdx, _, _, rfl, s1 _ _ hq, T.lot.cl, T.lot.no _ (by decide), rfl, rfl, _, rfl, ?_⟩
      rw [eqI]
      refine ite2 (fun hc => ?_) fun hc => ?_
      · exact ⟨_, rfl, kp H' _ (Same.refl _) (if_pos hc)⟩
      · exact kn H' (Same.refl _) (if_neg hc)
    · refine ⟨D, pa, u.took.filter fun e => e.1 == i, rfl, ⟨zs.filter fun z => z.2.1 == i, ?_, ?_, fun z hzm => s1 _ _ (h3 z (List.mem_filter.mp hzm).1)⟩, ?_, fun H2 s2 => k H2 (s1.trans s2)⟩
      · rw [hl, fm_filter']
      · rw [← h2, List.filter_map]; rfl
      · have := List.length_filter_le (fun e : Nat × Nat => e.1 == i) u.took
        omega
/-! Stock.begin -/
abbrev sBg : Stmt := inClass (top 66) 1
def spBg (CL CD CU CT : Addr) : Sp := fun vs H Q _ => ∃ S dx fs, vs = [.ref S] ∧ H S = some (.ins CT dx fs) ∧ (fs = [] ∨ ∃ today la da given ua thrown drawn, fs = stkF today la da given ua thrown drawn) ∧
  ∀ H' E, StockAt CL CD CU CT H' S E {} → (∀ b o, H b = some o → b ≠ S → H' b = some o) → H E.la = none → H E.da = none → H E.ua = none → Q .non H'
theorem scBg : FnScope ["self"] ["self"] (defScope sBg) := ⟨rfl, rfl, rfl, by decide +kernel, rfl, by decide +kernel, by decide +kernel⟩
theorem wf0 : WF {} := ⟨by simp, by simp, by simp, by simp, by simp, by simp, by simp⟩
theorem ok_bg (h : HasM K CT "begin" "Stock.begin" sBg ["self"]) (TB : TxtB K mg CU CT) : OkM P w K mg base CT 1 "begin" ["self"] (spBg CL CD CU CT) := by
  refine h.ok scBg (fun vs H Q E h => ?_) (fun f0 cdv A outer s H vs Q E hr h => ?_)
  · obtain ⟨S, dx, fs, rfl, _⟩ := h
    rfl
  · obtain ⟨S, dx, fs, rfl, hS, hfs, k⟩ := h
    refine ⟨_, pss_cons (ps_fld (pv 0) pe_int rfl) (pss_cons (ps_fld (pv 0) (pe_lst pa_nil) rfl) (pss_cons (ps_fld (pv 0) pe_dnewK rfl) (pss_cons (ps_fld (pv 0) pe_int rfl) (pss_cons (ps_fld (pv 0) (pe_lst pa_nil) rfl) (pss_cons (ps_fld (pv 0) pe_int rfl) (pss_one (ps_fld (pv 0) pe_int rfl))))))), ?_⟩
    have fin : ∀ (fs' : List (Str × V)), fs'.length < 8 → fs'.length < 1000 := fun _ h => by omega
    have lp : ∀ (fs' : List (Str × V)) (f : Str) (v : V), (putF f v fs').length ≤ fs'.length + 1 := fun fs' f v => by
      induction fs' with
      | nil => exact Nat.le_refl _
      | cons p r ih =>
        unfold putF
        split
        · simp
        · simp only [List.length_cons]; omega
    have l0 : fs.length ≤ 7 := by
      rcases hfs with e | ⟨_, _, _, _, _, _, _, e⟩
      · rw [e]; simp
      · rw [e]; simp
    refine ⟨_, rfl, S, CT, dx, fs, rfl, hS, TB.stk.cl, TB.stk.no _ (by decide), by omega, ?_⟩
    refine ⟨Nat.zero_le _, fun la hla => ?_⟩
    have hla' : la ≠ S := fun e => by rw [e, upd_same] at hla; cases hla
    refine ⟨_, rfl, S, CT, dx, _, rfl, (upd_ne hla'.symm).trans upd_same, TB.stk.cl, TB.stk.no _ (by decide), (by have := lp fs "today" (.int 0); omega), ?_⟩
    intro da hda
    have hda' : da ≠ S := fun e => by rw [e, upd_same] at hda; cases hda
    refine ⟨_, rfl, S, CT, dx, _, rfl, (upd_ne hda'.symm).trans upd_same, TB.stk.cl, TB.stk.no _ (by decide), (by have := lp fs "today" (.int 0); have := lp (putF "today" (.int 0) fs) "lots" (.ref la); omega), ?_⟩
    refine ⟨_, rfl, S, CT, dx, _, rfl, upd_same, TB.stk.cl, TB.stk.no _ (by decide), (by have := lp fs "today" (.int 0); have := lp (putF "today" (.int 0) fs) "lots" (.ref la); have := lp (putF "lots" (.ref la) (putF "today" (.int 0) fs)) "demands" (.ref da); omega), ?_⟩
    refine ⟨Nat.zero_le _, fun ua hua => ?_⟩
    have hua' : ua ≠ S := fun e => by rw [e, upd_same] at hua; cases hua
    have lp2 : ∀ (fs' : List (Str × V)) (m : Nat), fs'.length ≤ m → ∀ f v, (putF f v fs').length ≤ m + 1 := fun fs' m h f v => Nat.le_trans (lp fs' f v) (by omega)
    refine ⟨_, rfl, S, CT, dx, _, rfl, (upd_ne hua'.symm).trans upd_same, TB.stk.cl, TB.stk.no _ (by decide), Nat.lt_of_le_of_lt (lp2 _ 10 (lp2 _ 9 (lp2 _ 8 (lp2 _ 7 l0 _ _) _ _) _ _) _ _) (by decide), ?_⟩
    refine ⟨_, rfl, S, CT, dx, _, rfl, upd_same, TB.stk.cl, TB.stk.no _ (by decide), Nat.lt_of_le_of_lt (lp2 _ 11 (lp2 _ 10 (lp2 _ 9 (lp2 _ 8 (lp2 _ 7 l0 _ _) _ _) _ _) _ _) _ _) (by decide), ?_⟩
    refine ⟨_, rfl, S, CT, dx, _, rfl, upd_same, TB.stk.cl, TB.stk.no _ (by decide), Nat.lt_of_le_of_lt (lp2 _ 12 (lp2 _ 11 (lp2 _ 10 (lp2 _ 9 (lp2 _ 8 (lp2 _ 7 l0 _ _) _ _) _ _) _ _) _ _) _ _) (by decide), ?_⟩
    have ef : putF "withdrawn" (.int 0) (putF "thrown_away" (.int 0) (putF "uses" (.ref ua) (putF "demands_told" (.int 0) (putF "demands" (.ref da) (putF "lots" (.ref la) (putF "today" (.int 0) fs)))))) = stkF 0 la da 0 ua 0 0 := by
      rcases hfs with e | ⟨_, _, _, _, _, _, _, e⟩
      · rw [e]; rfl
      · rw [e]; rfl
    rw [ef]
    have hlaH : H la = none := by rw [upd_ne hla'] at hla; exact hla
    have hdl : da ≠ la := fun e => by rw [e, upd_ne hla', upd_same] at hda; cases hda
    have hdaH : H da = none := by rw [upd_ne hda', upd_ne hdl, upd_ne hda'] at hda; exact hda
    have hud : ua ≠ da := fun e => by rw [e, upd_ne hda', upd_ne hda', upd_same] at hua; cases hua
    have hul : ua ≠ la := fun e => by rw [e, upd_ne hla', upd_ne hla', upd_ne hdl.symm, upd_ne hla', upd_same] at hua; cases hua
    have huaH : H ua = none := by rw [upd_ne hua', upd_ne hua', upd_ne hud, upd_ne hua', upd_ne hul, upd_ne hua'] at hua; exact hua
    refine k _ ⟨la, da, ua, fun _ => 0⟩ ⟨⟨dx, upd_same⟩, ⟨?_, by simp⟩, by simp, ⟨[], ?_, rfl, by simp⟩, ⟨[], ?_, rfl, by simp⟩, hul.symm, wf0⟩ (fun b o e hb => ?_) hlaH hdaH huaH
    · show upd _ _ _ la = _
      simp only [upd_ne hla', upd_ne hul.symm, upd_ne hdl.symm]
      exact upd_same
    · show upd _ _ _ da = _
      simp only [upd_ne hda', upd_ne hud.symm]
      exact upd_same
    · show upd _ _ _ ua = _
      simp only [upd_ne hua']
      exact upd_same
    · simp only [upd_ne hb, upd_ne (ne_of_none e hlaH), upd_ne (ne_of_none e hdaH), upd_ne (ne_of_none e huaH)]
      exact e
abbrev sSI : Stmt := inClass (top 66) 0
def spSI (CL CD CU CT : Addr) : Sp := fun vs H Q _ => ∃ S dx, vs = [.ref S] ∧ H S = some (.ins CT dx []) ∧
  ∀ H' E, StockAt CL CD CU CT H' S E {} → (∀ b o, H b = some o → b ≠ S → H' b = some o) → H E.la = none → H E.da = none → H E.ua = none → Q .non H'
theorem scSI : FnScope ["self"] ["self"] (defScope sSI) := ⟨rfl, rfl, rfl, by decide +kernel, rfl, by decide +kernel, by decide +kernel⟩
theorem ok_sI (h : HasC K mg CT "Stock" "Stock.__init__" sSI ["self"]) (TB : TxtB K mg CU CT) (GB : OkM P w K mg base CT 1 "begin" ["self"] (spBg CL CD CU CT)) : OkC P w K mg base CT 2 "Stock" ["self"] (spSI CL CD CU CT) := by
  refine h.ok scSI (fun vs H Q E h => ?_) (fun f0 cdv A outer s H vs Q E hr h => ?_)
  · obtain ⟨S, dx, rfl, _⟩ := h
    rfl
  · obtain ⟨S, dx, rfl, hS, k⟩ := h
    refine ⟨_, pss_one (ps_expr (pe_okM0 GB TB.stk.cl hr (pv 0))), ?_⟩
    exact ⟨_, rfl, S, dx, _, rfl, hS, rfl, S, dx, [], rfl, hS, .inl rfl, k⟩
end
end Rs
end
section
set_option maxHeartbeats 2000000
namespace Rs
open PySem PySem.Spec PyProof.Rows L2
open Vblaak (Lot Demand Stock Use lotAt between isArticle isDay inOrder demandsOf lessened)
open Vb (chunk mplan mleft subs sub1 cvr lf lotLt demLt lastOf Sh ordOf lackSum)
theorem lotAt_snoc {l : List Lot} {x : Lot} {i : Nat} (h : i < l.length) : lotAt (l ++ [x]) i = lotAt l i := by
  unfold lotAt
  rw [List.getD_eq_getElem?_getD, List.getD_eq_getElem?_getD, List.getElem?_append_left h]
theorem lotAt_end {l : List Lot} {x : Lot} : lotAt (l ++ [x]) l.length = x := by
  unfold lotAt
  simp [List.getD_eq_getElem?_getD]
theorem find_demK (qs : List (Addr × Demand)) (k : Int) : valV (demK qs) (Sum.inl k) = (qs.find? fun q => (q.2.num : Int) == k).map fun q => V.ref q.1 := by
  induction qs with
  | nil => rfl
  | cons q r ih =>
    show valV ((Sum.inl (q.2.num : Int), V.ref q.1) :: demK r) (Sum.inl k) = _
    rw [List.find?_cons]
    by_cases e : (q.2.num : Int) = k
    · rw [valV_pos (by simp [e])]
      simp [e]
    · rw [valV_neg (fun z => e (Sum.inl.inj z)), ih]
      have : ((q.2.num : Int) == k) = false := by simpa using e
      rw [this]
theorem put_demK {qs : List (Addr × Demand)} {p : Addr} {d : Demand} (h : ∀ q ∈ qs, q.2.num ≠ d.num) : putK (demK qs) (Sum.inl (d.num : Int)) (V.ref p) = demK (qs ++ [(p, d)]) := by
  unfold putK
  have e : ((demK qs).any fun kv => decide (kv.1 = Sum.inl (d.num : Int))) = false := by
    rw [List.any_eq_false]
    intro kv hkv
    obtain ⟨q, hq, rfl⟩ := List.mem_map.mp hkv
    have := h q hq
    simp only [decide_eq_true_eq]
    intro z
    have := Sum.inl.inj z
    omega
  rw [e, if_neg (by simp)]
  unfold demK
  rw [List.map_append]
  rfl
theorem drop_demK (qs : List (Addr × Demand)) (n : Nat) : dropK (demK qs) (Sum.inl (n : Int)) = demK (qs.filter fun q => q.2.num != n) := by
  unfold dropK demK
  rw [List.filter_map]
  congr 1
  refine List.filter_congr fun q _ => ?_
  show decide ((Sum.inl (q.2.num : Int) : Key) ≠ Sum.inl (n : Int)) = (q.2.num != n)
  rw [Bool.eq_iff_iff]
  simp only [decide_eq_true_eq, bne_iff_ne, ne_eq]
  constructor
  · intro h z; exact h (by rw [z])
  · intro h z; have := Sum.inl.inj z; omega
section
variable {P : Program} {w : World} {K : PySem.W.Frag} {mg : Str → Option Value} {base : Heap} {CL CD CS CU CT : Addr}
theorem StockAt.usesAt {H : Hp} {S : Addr} {E : Parts} {s : Stock} (h : StockAt CL CD CU CT H S E s) : UsesAt CU H E.pa E.la E.ua s.uses := h.uses
theorem StockAt.demsD {H : Hp} {S : Addr} {E : Parts} {s : Stock} (h : StockAt CL CD CU CT H S E s) : DemsD CD H E.da s.demands := h.dems
/-- what stands where the stock's parts stand -/
structure Apart (H : Hp) (S : Addr) (E : Parts) (n : Nat) : Prop where
  sl : S ≠ E.la
  sd : S ≠ E.da
  su : S ≠ E.ua
  ld : E.la ≠ E.da
  lu : E.la ≠ E.ua
  du : E.da ≠ E.ua
  ps : ∀ i, i < n → E.pa i ≠ S
  pl : ∀ i, i < n → E.pa i ≠ E.la
  pd : ∀ i, i < n → E.pa i ≠ E.da
  pu : ∀ i, i < n → E.pa i ≠ E.ua
theorem StockAt.apart {H : Hp} {S : Addr} {E : Parts} {s : Stock} (h : StockAt CL CD CU CT H S E s) : Apart H S E s.lots.length := by
  obtain ⟨dx, ho⟩ := h.obj
  obtain ⟨qs, hd, _⟩ := h.dems
  obtain ⟨us, hu, _⟩ := h.uses
  have hl := h.lots.1
  refine ⟨ne_of ho hl (by intro z; cases z), ne_of ho hd (by intro z; cases z), ne_of ho hu (by intro z; cases z), ne_of hl hd (by intro z; cases z), h.ne, ne_of hd hu (by intro z; cases z), fun i hi => ?_, fun i hi => ?_, fun i hi => ?_, fun i hi => ?_⟩ <;> obtain ⟨ldx, e⟩ := h.lotAt hi
  · refine ne_of e ho fun z => ?_
    injection z with _ _ z
    have := congrArg List.length z
    simp at this
  · exact ne_of e hl (by intro z; cases z)
  · exact ne_of e hd (by intro z; cases z)
  · exact ne_of e hu (by intro z; cases z)
/-! add_lot -/
abbrev sAl : Stmt := inClass (top 66) 2
def spAl (CL CD CU CT : Addr) : Sp := fun vs H Q _ => ∃ S E s, ∃ a c l d : Nat, vs = [.ref S, .int (a : Nat), .int (c : Nat), .int (l : Nat), .int (d : Nat)] ∧ StockAt CL CD CU CT H S E s ∧ s.lots.length < 40 ∧
  ∀ H' E', After S E s.lots.length H E' (s.lots.length + 1) H' → StockAt CL CD CU CT H' S E' { s with lots := s.lots ++ [⟨a, c, l, d, d⟩] } → Q (.int (s.lots.length : Nat)) H'
theorem scAl : FnScope ["self", "article", "comes", "last", "doses", "number"] ["self", "article", "comes", "last", "doses"] (defScope sAl) := ⟨rfl, rfl, rfl, by decide +kernel, rfl, by decide +kernel, by decide +kernel⟩
theorem ok_al (h : HasM K CT "add_lot" "Stock.add_lot" sAl ["self", "article", "comes", "last", "doses"]) (T : Txt K mg CL CD CS) (TB : TxtB K mg CU CT) (GL : OkC P w K mg base CL 1 "Lot" ["self", "number", "article", "comes", "last", "doses"] (spLoI CL)) :
    OkM P w K mg base CT 3 "add_lot" ["self", "article", "comes", "last", "doses"] (spAl CL CD CU CT) := by
  refine h.ok scAl (fun vs H Q E h => ?_) (fun f cdv A outer s H vs Q E hr h => ?_)
  · obtain ⟨S, E, s, a, c, l, d, rfl, _⟩ := h
    rfl
  · obtain ⟨S, E, st, a, c, l, d, rfl, hS, hn, k⟩ := h
    refine ⟨_, pss_cons (ps_set (i := 5) scAl.nd rfl (Or.inl rfl) (pe_callB call_len_seq (by rfl) (T.blt _ (by decide)) PySem.boot_len (pa_cons (pe_fld (pv 0) rfl) pa_nil)))
      (pss_cons (ps_expr (pe_bm PySem.F.plainAttrs_list PySem.F.slot_list_append PySem.F.type_list_append mt_append (pe_fld (pv 0) rfl) (pa_cons (pe_okC GL hr (pa_cons (pv 5) (pa_cons (pv 1) (pa_cons (pv 2) (pa_cons (pv 3) (pa_cons (pv 4) pa_nil)))))) pa_nil)))
      (pss_one (ps_ret (pv 5)))), ?_⟩
    obtain ⟨dx, hobj⟩ := hS.obj
    obtain ⟨hla, hlo⟩ := hS.lots
    have ap := hS.apart
    have elen : ((List.range st.lots.length).map fun i => V.ref (E.pa i)).length = st.lots.length := by simp
    refine ⟨_, rfl, S, CT, dx, _, _, rfl, hobj, TB.stk.cl, TB.stk.no _ (by decide), rfl, E.la, _, rfl, .inl (SqL.of hla), ?_⟩
    rw [elen]
    refine ⟨_, rfl, S, CT, dx, _, _, rfl, hobj, TB.stk.cl, TB.stk.no _ (by decide), rfl, .inl ⟨rfl, _, SqL.of hla⟩, _, rfl, _, rfl, _, rfl, _, rfl, _, rfl, fun x xdx nx ndx hne => ?_⟩
    have s6 : Same H (upd (upd H xdx (.own x)) x (.ins CL xdx [])) := (same_new ndx).trans (same_new (by rw [upd_ne hne.symm]; exact nx))
    refine ⟨x, xdx, _, _, _, _, _, rfl, upd_same, fun H2 s2 h2 => ⟨rfl, ?_⟩⟩
    have s02 : Same H H2 := fun b o e => s2 b o (s6 _ _ e) (ne_of_none e nx)
    refine ⟨E.la, _, _, rfl, rfl, s02 _ _ hla, small1000 (by rw [elen]; omega), ?_⟩
    refine ⟨_, rfl, ?_⟩
    have hxl : x ≠ E.la := fun e => by rw [e, hla] at nx; cases nx
    have kp : Kp E.la E.ua H (upd H2 E.la (.lst ((List.range st.lots.length).map (fun i => V.ref (E.pa i)) ++ [.ref x]))) := (Kp.same s02).trans (Kp.upd (s02 _ _ hla) fun z => z.1 rfl)
    have sb : ∀ b o, H b = some o → b ≠ E.la → upd H2 E.la (.lst ((List.range st.lots.length).map (fun i => V.ref (E.pa i)) ++ [.ref x])) b = some o := fun b o e hb => by rw [upd_ne hb]; exact s02 _ _ e
    have paE : ∀ i, i < st.lots.length → (if i = st.lots.length then x else E.pa i) = E.pa i := fun i hi => if_neg (by omega)
    refine k _ ⟨E.la, E.da, E.ua, fun i => if i = st.lots.length then x else E.pa i⟩ ⟨fun b o e hf => sb b o e fun z => hf (.inr (.inl z)), fun b hb => ?_⟩ ⟨⟨dx, sb _ _ hobj ap.sl⟩, ⟨?_, fun i hi => ?_⟩, fun i j hi hj e => ?_, hS.demsD.kp kp fun o e => sb _ _ e ap.ld.symm, ?_, hS.ne, ?_⟩
    · rcases hb with z | z | z | z | ⟨i, hi, z⟩
      · exact .inl (.inl z)
      · exact .inl (.inr (.inl z))
      · exact .inl (.inr (.inr (.inl z)))
      · exact .inl (.inr (.inr (.inr (.inl z))))
      · by_cases e : i = st.lots.length
        · right; rw [z]; show H (if i = st.lots.length then x else E.pa i) = none; rw [if_pos e]; exact nx
        · exact .inl (.inr (.inr (.inr (.inr ⟨i, by omega, z.trans (if_neg e)⟩))))
    · show upd _ _ _ E.la = _
      rw [upd_same, List.length_append, List.length_singleton, List.range_succ, List.map_append]
      congr 3
      · exact List.map_congr_left fun i hi => by show _ = V.ref (if i = st.lots.length then x else E.pa i); rw [paE i (List.mem_range.mp hi)]
      · show _ = [V.ref (if st.lots.length = st.lots.length then x else E.pa _)]
        rw [if_pos rfl]
    · rw [List.length_append, List.length_singleton] at hi
      have hi' := List.mem_range.mp hi
      show LotAt CL _ (if i = st.lots.length then x else E.pa i) i _
      by_cases e : i = st.lots.length
      · rw [if_pos e, e, lotAt_end]
        exact ⟨xdx, by rw [upd_ne hxl]; exact h2⟩
      · have hi2 : i < st.lots.length := by omega
        rw [if_neg e, lotAt_snoc hi2]
        obtain ⟨ldx, g⟩ := hS.lotAt hi2
        exact ⟨ldx, sb _ _ g (ap.pl i hi2)⟩
    · rw [List.length_append, List.length_singleton] at hi hj
      have e' : (if i = st.lots.length then x else E.pa i) = (if j = st.lots.length then x else E.pa j) := e
      have nw : ∀ i, i < st.lots.length → E.pa i ≠ x := fun i hi => by
        obtain ⟨ldx, g⟩ := hS.lotAt hi
        exact ne_of_none g nx
      by_cases ei : i = st.lots.length
      · by_cases ej : j = st.lots.length
        · omega
        · rw [if_pos ei, if_neg ej] at e'
          exact (nw j (by omega) e'.symm).elim
      · by_cases ej : j = st.lots.length
        · rw [if_neg ei, if_pos ej] at e'
          exact (nw i (by omega) e').elim
        · rw [if_neg ei, if_neg ej] at e'
          exact hS.inj i j (by omega) (by omega) e'
    · obtain ⟨us, u1, u2, u3⟩ := hS.usesAt.kp kp fun o e => sb _ _ e hS.ne.symm
      refine ⟨us, u1, u2, fun i u hu => ⟨(u3 i u hu).1, (u3 i u hu).2.1, (u3 i u hu).2.2.1, (u3 i u hu).2.2.2.pa fun e he => ?_⟩⟩
      have hm : u.2.2 ∈ st.uses := by rw [← u2]; exact List.mem_map.mpr ⟨u, List.mem_of_getElem? hu, rfl⟩
      exact (paE e.1 ((hS.wf.useW _ hm).2 e he).1).symm
    · obtain ⟨w1, w2, w3, w4, w5, w6, w7⟩ := hS.wf
      exact ⟨by rw [List.length_append]; exact hn, w2, w3, w4, fun u hu => ⟨(w5 u hu).1, fun e he => ⟨by rw [List.length_append]; have := ((w5 u hu).2 e he).1; omega, ((w5 u hu).2 e he).2⟩⟩, w6, w7⟩
/-! next_demand, add_demand -/
abbrev sNd : Stmt := inClass (top 66) 3
def spNd (CL CD CU CT : Addr) : Sp := fun vs H Q _ => ∃ S E s, ∃ a d n : Nat, vs = [.ref S, .int (a : Nat), .int (d : Nat), .int (n : Nat)] ∧ StockAt CL CD CU CT H S E s ∧ ∀ H' p, Same H H' → H p = none → DemAt CD H' p ⟨s.given + 1, a, d, n⟩ → Q (.ref p) H'
theorem scNd : FnScope ["self", "article", "day", "doses"] ["self", "article", "day", "doses"] (defScope sNd) := ⟨rfl, rfl, rfl, by decide +kernel, rfl, by decide +kernel, by decide +kernel⟩
theorem ok_nd (h : HasM K CT "next_demand" "Stock.next_demand" sNd ["self", "article", "day", "doses"]) (TB : TxtB K mg CU CT) (GD : OkC P w K mg base CD 1 "Demand" ["self", "number", "article", "day", "doses"] (spDeI CD)) :
    OkM P w K mg base CT 3 "next_demand" ["self", "article", "day", "doses"] (spNd CL CD CU CT) := by
  refine h.ok scNd (fun vs H Q E h => ?_) (fun f cdv A outer s H vs Q E hr h => ?_)
  · obtain ⟨S, E, s, a, d, n, rfl, _⟩ := h
    rfl
  · obtain ⟨S, E, st, a, d, n, rfl, hS, k⟩ := h
    refine ⟨_, pss_one (ps_ret (pe_okC GD hr (pa_cons (pe_op op_add (pe_fld (pv 0) rfl) pe_int) (pa_cons (pv 1) (pa_cons (pv 2) (pa_cons (pv 3) pa_nil)))))), ?_⟩
    obtain ⟨dx, hobj⟩ := hS.obj
    refine ⟨_, rfl, S, CT, dx, _, _, rfl, hobj, TB.stk.cl, TB.stk.no _ (by decide), rfl, _, _, rfl, rfl, _, rfl, _, rfl, _, rfl, fun x xdx nx ndx hne => ?_⟩
    have s6 : Same H (upd (upd H xdx (.own x)) x (.ins CD xdx [])) := (same_new ndx).trans (same_new (by rw [upd_ne hne.symm]; exact nx))
    refine ⟨x, xdx, _, _, _, _, rfl, upd_same, fun H2 s2 h2 => ⟨rfl, ?_⟩⟩
    exact k H2 x (fun b o e => s2 b o (s6 _ _ e) (ne_of_none e nx)) nx ⟨xdx, h2⟩
abbrev sAd : Stmt := inClass (top 66) 4
def spAd (CL CD CU CT : Addr) : Sp := fun vs H Q _ => ∃ S E s p d, vs = [.ref S, .ref p] ∧ StockAt CL CD CU CT H S E s ∧ DemAt CD H p d ∧ d.num = s.given + 1 ∧ 0 < d.n ∧ s.demands.length < 40 ∧
  ∀ H', After S E s.lots.length H E s.lots.length H' → StockAt CL CD CU CT H' S E { s with demands := s.demands ++ [d], given := s.given + 1 } → DemAt CD H' p d → Q .non H'
theorem scAd : FnScope ["self", "demand"] ["self", "demand"] (defScope sAd) := ⟨rfl, rfl, rfl, by decide +kernel, rfl, by decide +kernel, by decide +kernel⟩
theorem ok_ad (h : HasM K CT "add_demand" "Stock.add_demand" sAd ["self", "demand"]) (T : Txt K mg CL CD CS) (TB : TxtB K mg CU CT) : OkM P w K mg base CT 1 "add_demand" ["self", "demand"] (spAd CL CD CU CT) := by
  refine h.ok scAd (fun vs H Q E h => ?_) (fun f cdv A outer s H vs Q E hr h => ?_)
  · obtain ⟨S, E, s, p, d, rfl, _⟩ := h
    rfl
  · obtain ⟨S, E, st, p, d, rfl, hS, hd, hnum, hdn, hn, k⟩ := h
    have hu := hu_of hr
    refine ⟨_, pss_cons (ps_fld (pv 0) (pe_fld (pv 1) rfl) rfl) (pss_one (ps_dput hu (pe_fld (pv 0) rfl) (pe_fld (pv 1) rfl) (pv 1) rfl)), ?_⟩
    obtain ⟨dx, hobj⟩ := hS.obj
    obtain ⟨ddx, hdm⟩ := id hd
    obtain ⟨qs, q1, q2, q3⟩ := hS.dems
    have ap := hS.apart
    have hpS : p ≠ S := ne_of hdm hobj (by intro z; injection z with _ _ z; have := congrArg List.length z; simp at this)
    have hpd : p ≠ E.da := ne_of hdm q1 (by intro z; cases z)
    have hql : qs.length < 40 := by rw [← List.length_map (f := Prod.snd), q2]; exact hn
    refine ⟨_, rfl, p, CD, ddx, _, _, rfl, hdm, T.dem.cl, T.dem.no _ (by decide), rfl, _, rfl, S, CT, dx, _, rfl, hobj, TB.stk.cl, TB.stk.no _ (by decide), (by show 7 < 1000; decide), ?_⟩
    refine ⟨_, rfl, _, rfl, S, CT, dx, _, _, rfl, upd_same, TB.stk.cl, TB.stk.no _ (by decide), rfl, _, rfl, p, CD, ddx, _, _, rfl, (upd_ne hpS).trans hdm, T.dem.cl, T.dem.no _ (by decide), rfl, E.da, _, rfl, DPut.k (k := Sum.inl (d.num : Int)) ((upd_ne ap.sd.symm).trans q1) (small1000 (by rw [List.length_map]; omega)), ?_⟩
    have hnew : ∀ q ∈ qs, q.2.num ≠ d.num := fun q hq => by
      have := hS.wf.demG q.2 (by rw [← q2]; exact List.mem_map.mpr ⟨q, hq, rfl⟩)
      omega
    rw [put_demK hnew]
    have eS : putF "demands_told" (V.int (d.num : Nat)) (stkF st.today E.la E.da st.given E.ua st.thrown st.drawn) = stkF st.today E.la E.da d.num E.ua st.thrown st.drawn := rfl
    rw [eS, hnum]
    have kp1 : Kp E.la E.ua H (upd H S (.ins CT dx (stkF st.today E.la E.da (st.given + 1) E.ua st.thrown st.drawn))) := Kp.upd hobj (by intro z; simp [Keep] at z)
    have kp2 : Kp E.la E.ua _ (upd (upd H S (.ins CT dx (stkF st.today E.la E.da (st.given + 1) E.ua st.thrown st.drawn))) E.da (.dK (demK (qs ++ [(p, d)])))) := Kp.upd ((upd_ne ap.sd.symm).trans q1) (by intro z; exact z)
    have kp := kp1.trans kp2
    have sb : ∀ b o, H b = some o → b ≠ S → b ≠ E.da → upd (upd H S (.ins CT dx (stkF st.today E.la E.da (st.given + 1) E.ua st.thrown st.drawn))) E.da (.dK (demK (qs ++ [(p, d)]))) b = some o := fun b o e h1 h2 => by rw [upd_ne h2, upd_ne h1]; exact e
    refine k _ ⟨fun b o e hf => sb b o e (fun z => hf (.inl z)) fun z => hf (.inr (.inr (.inl z))), fun b hb => .inl hb⟩ ⟨⟨dx, by rw [upd_ne ap.sd]; exact upd_same⟩, ⟨sb _ _ hS.lots.1 ap.sl.symm ap.ld, fun i hi => ?_⟩, hS.inj, ⟨qs ++ [(p, d)], upd_same, by rw [List.map_append, q2]; rfl, fun q hq => ?_⟩, hS.usesAt.kp kp fun o e => sb _ _ e ap.su.symm ap.du.symm, hS.ne, ?_⟩ (hd.kp kp)
    · obtain ⟨ldx, g⟩ := hS.lots.2 i hi
      have hi' := List.mem_range.mp hi
      exact ⟨ldx, sb _ _ g (ap.ps i hi') (ap.pd i hi')⟩
    · rcases List.mem_append.mp hq with m | m
      · exact (q3 q m).kp kp
      · rw [List.mem_singleton.mp m]; exact hd.kp kp
    · obtain ⟨w1, w2, w3, w4, w5, w6, w7⟩ := hS.wf
      refine ⟨w1, by rw [List.length_append]; exact hn, ?_, fun x hx => ?_, w5, fun x hx => (List.mem_append.mp hx).elim (w6 x) fun m => by rw [List.mem_singleton.mp m]; exact hdn, w7⟩
      · rw [List.pairwise_append]
        exact ⟨w3, by simp, fun x hx y hy => by rw [List.mem_singleton.mp hy]; have := w4 x hx; omega⟩
      · rcases List.mem_append.mp hx with m | m
        · have := w4 x m; show x.num ≤ st.given + 1; omega
        · rw [List.mem_singleton.mp m, hnum]; exact Nat.le_refl _
end
end Rs
end
section
set_option maxHeartbeats 2000000
namespace Rs
open PySem PySem.Spec PyProof.Rows L2
open Vblaak (Lot Demand Stock Use lotAt between isArticle isDay inOrder demandsOf lessened)
open Vb (chunk mplan mleft subs sub1 cvr lf lotLt demLt lastOf Sh ordOf lackSum)
section
variable {P : Program} {w : World} {K : PySem.W.Frag} {mg : Str → Option Value} {base : Heap} {CL CD CS CU CT : Addr}
/-- the lots and the stock's own fields have changed -/
theorem StockAt.turn {H H' : Hp} {S : Addr} {E : Parts} {s : Stock} {l' : List Lot} {td th dr : Nat} (hS : StockAt CL CD CU CT H S E s) (hlen : l'.length = s.lots.length) (fr : ∀ b o, H b = some o → b ≠ S → (∀ i, i < s.lots.length → b ≠ E.pa i) → H' b = some o)
    (ho : ∃ dx, H' S = some (.ins CT dx (stkF td E.la E.da s.given E.ua th dr))) (hlo : ∀ i, i < s.lots.length → LotAt CL H' (E.pa i) i (Vblaak.lotAt l' i)) :
    After S E s.lots.length H E s.lots.length H' ∧ StockAt CL CD CU CT H' S E { s with today := td, lots := l', thrown := th, drawn := dr } := by
  have ap := hS.apart
  obtain ⟨dx, hobj⟩ := hS.obj
  have kp : Kp E.la E.ua H H' := fun b o e k => fr b o e (fun z => by subst z; rw [hobj] at e; cases e; simp [Keep] at k) fun i hi z => by
    subst z
    obtain ⟨ldx, g⟩ := hS.lotAt hi
    rw [g] at e; cases e; simp [Keep] at k
  refine ⟨⟨fun b o e hf => fr b o e (fun z => hf (.inl z)) fun i hi z => hf (.inr (.inr (.inr (.inr ⟨i, hi, z⟩)))), fun b h => .inl h⟩, ⟨ho, ⟨?_, fun i hi => ?_⟩, ?_, ?_, ?_, hS.ne, ?_⟩⟩
  · rw [hlen]; exact fr _ _ hS.lots.1 ap.sl.symm fun i hi z => ap.pl i hi z.symm
  · rw [hlen] at hi; exact hlo i (List.mem_range.mp hi)
  · show ∀ i j, i < l'.length → j < l'.length → E.pa i = E.pa j → i = j
    rw [hlen]; exact hS.inj
  · exact hS.demsD.kp kp fun o e => fr _ _ e ap.sd.symm fun i hi z => ap.pd i hi z.symm
  · exact hS.usesAt.kp kp fun o e => fr _ _ e ap.su.symm fun i hi z => ap.pu i hi z.symm
  · obtain ⟨w1, w2, w3, w4, w5, w6, w7⟩ := hS.wf
    refine ⟨by show l'.length ≤ 40; rw [hlen]; exact w1, w2, w3, w4, ?_, w6, w7⟩
    show ∀ u ∈ s.uses, (u.took.map Prod.fst).Nodup ∧ ∀ e ∈ u.took, e.1 < l'.length ∧ 0 < e.2
    rw [hlen]; exact w5
theorem lots_range (l : List Lot) : (List.range l.length).map (lotAt l) = l := by
  apply List.ext_getElem
  · simp
  · intro i h1 h2
    rw [List.getElem_map, List.getElem_range]
    unfold lotAt
    rw [List.getD_eq_getElem?_getD, List.getElem?_eq_getElem h2]
    rfl
theorem lotAt_map {l : List Lot} {f : Lot → Lot} {i : Nat} (h : i < l.length) : lotAt (l.map f) i = f (lotAt l i) := by
  unfold lotAt
  rw [List.getD_eq_getElem?_getD, List.getD_eq_getElem?_getD, List.getElem?_map, List.getElem?_eq_getElem h]
  rfl
/-! withdraw_lot -/
abbrev sWl : Stmt := inClass (top 66) 16
def spWl (CL CD CU CT : Addr) : Sp := fun vs H Q _ => ∃ S E s, ∃ i : Nat, vs = [.ref S, .ref (E.pa i)] ∧ StockAt CL CD CU CT H S E s ∧ i < s.lots.length ∧
  ∀ H', After S E s.lots.length H E s.lots.length H' → StockAt CL CD CU CT H' S E { s with lots := s.lots.modify i (fun y => { y with left := 0 }), drawn := s.drawn + (lotAt s.lots i).left } → Q (.int ((lotAt s.lots i).left : Nat)) H'
theorem scWl : FnScope ["self", "lot", "doses"] ["self", "lot"] (defScope sWl) := ⟨rfl, rfl, rfl, by decide +kernel, rfl, by decide +kernel, by decide +kernel⟩
theorem ok_wl (h : HasM K CT "withdraw_lot" "Stock.withdraw_lot" sWl ["self", "lot"]) (T : Txt K mg CL CD CS) (TB : TxtB K mg CU CT) : OkM P w K mg base CT 1 "withdraw_lot" ["self", "lot"] (spWl CL CD CU CT) := by
  refine h.ok scWl (fun vs H Q E h => ?_) (fun f cdv A outer s H vs Q E hr h => ?_)
  · obtain ⟨S, E, s, i, rfl, _⟩ := h
    rfl
  · obtain ⟨S, E, st, i, rfl, hS, hi, k⟩ := h
    refine ⟨_, pss_cons (ps_set (i := 2) scWl.nd rfl (Or.inl rfl) (pe_fld (pv 1) rfl)) (pss_cons (ps_fld (pv 1) pe_int rfl) (pss_cons (ps_fldaug (pv 0) (pv 2) in_add) (pss_one (ps_ret (pv 2))))), ?_⟩
    obtain ⟨dx, hobj⟩ := hS.obj
    obtain ⟨ldx, hl⟩ := hS.lotAt hi
    have ap := hS.apart
    refine ⟨_, rfl, E.pa i, CL, ldx, _, _, rfl, hl, T.lot.cl, T.lot.no _ (by decide), rfl, ?_⟩
    refine ⟨_, rfl, E.pa i, CL, ldx, _, rfl, hl, T.lot.cl, T.lot.no _ (by decide), (by show 6 < 1000; decide), ?_⟩
    refine ⟨_, rfl, S, CT, dx, _, _, rfl, (upd_ne (ap.ps i hi).symm).trans hobj, TB.stk.cl, TB.stk.no _ (by decide), rfl, _, rfl, _, _, rfl, rfl, dx, _, (upd_ne (ap.ps i hi).symm).trans hobj, (by show 7 < 1000; decide), ?_⟩
    refine ⟨_, rfl, ?_⟩
    have hlm : (st.lots.modify i fun y => { y with left := 0 }).length = st.lots.length := by simp
    have hlo : ∀ j, j < st.lots.length → LotAt CL (upd (upd H (E.pa i) (.ins CL ldx (putF "left" (.int 0) (lotF i (lotAt st.lots i))))) S (.ins CT dx (putF "withdrawn" (.int ((st.drawn : Int) + ((lotAt st.lots i).left : Int))) (stkF st.today E.la E.da st.given E.ua st.thrown st.drawn)))) (E.pa j) j (lotAt (st.lots.modify i fun y => { y with left := 0 }) j) := fun j hj => by
      by_cases e : j = i
      · subst e
        refine ⟨ldx, ?_⟩
        rw [upd_ne (ap.ps j hj), upd_same, Vb.lotAt_modify, if_pos ⟨rfl, hi⟩]
        rfl
      · obtain ⟨jdx, g⟩ := hS.lotAt hj
        refine ⟨jdx, ?_⟩
        rw [upd_ne (ap.ps j hj), upd_ne (fun z => e (hS.inj j i hj hi z)), Vb.lotAt_modify, if_neg (fun z => e z.1)]
        exact g
    obtain ⟨a1, a2⟩ := hS.turn (td := st.today) (th := st.thrown) (dr := st.drawn + (lotAt st.lots i).left) hlm (fun b o e h1 h2 => by rw [upd_ne h1, upd_ne (h2 i hi)]; exact e) ⟨dx, by rw [upd_same]; rfl⟩ hlo
    exact k _ a1 a2
/-! add_use -/
abbrev sAu : Stmt := inClass (top 66) 13
def spAu (CL CD CU CT : Addr) : Sp := fun vs H Q _ => ∃ S E s t, ∃ a : Nat, ∃ ts n, vs = [.ref S, .int (a : Nat), .ref t] ∧ StockAt CL CD CU CT H S E s ∧ TakAt H E.pa t ts ∧ TakOk s a ts ∧ t ≠ E.la ∧ t ≠ E.ua ∧ ts ≠ [] ∧ s.uses.length < 900 ∧
  ∀ H', After S E s.lots.length H E s.lots.length H' → StockAt CL CD CU CT H' S E (Vblaak.used s a (lessened s.lots ts, ts, n)) → TakAt H' E.pa t ts → Q .non H'
theorem scAu : FnScope ["self", "article", "taken", "lot", "doses"] ["self", "article", "taken"] (defScope sAu) := ⟨rfl, rfl, rfl, by decide +kernel, rfl, by decide +kernel, by decide +kernel⟩
theorem lessened_snoc (l : List Lot) {ts : List (Nat × Nat)} {j : Nat} {e : Nat × Nat} (h : ts[j]? = some e) : lessened l (ts.take (j + 1)) = (lessened l (ts.take j)).modify e.1 fun x => { x with left := x.left - e.2 } := by
  rw [List.take_add_one, h]
  unfold lessened
  rw [List.foldl_append]
  rfl
theorem lessened_len (l : List Lot) (ts : List (Nat × Nat)) : (lessened l ts).length = l.length := (Vb.lessened_stat ts l).len
theorem ok_au (h : HasM K CT "add_use" "Stock.add_use" sAu ["self", "article", "taken"]) (T : Txt K mg CL CD CS) (TB : TxtB K mg CU CT) (GU : OkC P w K mg base CU 1 "Use" ["self", "number", "article", "day", "taken"] (spUsI CU)) :
    OkM P w K mg base CT 3 "add_use" ["self", "article", "taken"] (spAu CL CD CU CT) := by
  refine h.ok scAu (fun vs H Q E h => ?_) (fun f cdv A outer s H vs Q E hr h => ?_)
  · obtain ⟨S, E, s, t, a, ts, n, rfl, _⟩ := h
    rfl
  · obtain ⟨S, E, st, t, a, ts, n, rfl, hS, ⟨zs, h1, h2, h3⟩, hto, htl, htu, hne0, hun, k⟩ := h
    refine ⟨_, pss_cons (ps_for PassesOwn.never rfl (pi_list (pv 2)) (pg_tup (n := 2) rfl (pgs_cons (pg_name (i := 3) scAu.nd rfl (Or.inl rfl)) (pgs_cons (pg_name (i := 4) scAu.nd rfl (Or.inl rfl)) pgs_nil))) (pss_one (ps_fldaug (pv 3) (pv 4) in_sub)))
      (pss_one (ps_expr (pe_bm PySem.F.plainAttrs_list PySem.F.slot_list_append PySem.F.type_list_append mt_append (pe_fld (pv 0) rfl) (pa_cons (pe_okC GU hr (pa_cons (pe_callB call_len_seq (by rfl) (T.blt _ (by decide)) PySem.boot_len (pa_cons (pe_fld (pv 0) rfl) pa_nil)) (pa_cons (pv 1) (pa_cons (pe_fld (pv 0) rfl) (pa_cons (pv 2) pa_nil))))) pa_nil)))), ?_⟩
    obtain ⟨dx, hobj⟩ := hS.obj
    have ap := hS.apart
    have hlen : zs.length = ts.length := by rw [← h2, List.length_map]
    have nolot : ∀ {b : Addr} {o : HO}, H b = some o → (∀ C dx fs, o ≠ .ins C dx fs) → ∀ i, i < st.lots.length → b ≠ E.pa i := fun {b o} e ho i hi z => by
      obtain ⟨ldx, g⟩ := hS.lotAt hi
      rw [z, g] at e; cases e
      exact ho _ _ _ rfl
    refine ⟨_, rfl, t, rfl, ⟨_, SqL.of h1⟩, for_list (K := K) (a := t) (xs := zs.map fun z => V.ref z.1)
      (fun j σ H' => ∃ v3 v4, σ = [some (.ref S), some (.int (a : Nat)), some (.ref t), v3, v4] ∧ (∀ b o, H b = some o → (∀ i, i < st.lots.length → b ≠ E.pa i) → H' b = some o) ∧ ∀ i, i < st.lots.length → LotAt CL H' (E.pa i) i (lotAt (lessened st.lots (ts.take j)) i))
      ⟨none, none, rfl, fun b o e _ => e, fun i hi => hS.lotAt hi⟩ (fun j σ H' _ ⟨_, _, _, s1, _⟩ => SqL.of (s1 _ _ h1 (nolot h1 (by intro _ _ _ z; cases z)))) ?_ ?_⟩
    · rintro j y σ H' hj ⟨v3, v4, rfl, s1, hlo⟩
      obtain ⟨z, hzj, rfl⟩ := map_get hj
      have hzm : z ∈ zs := List.mem_of_getElem? hzj
      have htj : ts[j]? = some z.2 := by rw [← h2, List.getElem?_map, hzj]; rfl
      have hi : z.2.1 < st.lots.length := (hto.mem _ (List.mem_of_getElem? htj)).1
      obtain ⟨ldx, g⟩ := hlo _ hi
      have hfj : z.2.2 ≤ (lotAt (lessened st.lots (ts.take j)) z.2.1).left := by
        have hf := hto.fit
        rw [split_at htj, fits_append] at hf
        have h4 := hf.2.1
        rw [← Vb.lf_lessened] at h4
        exact h4
      refine ⟨z.1, _, rfl, SqT.of (s1 _ _ (h3 z hzm) (nolot (h3 z hzm) (by intro _ _ _ z; cases z))), rfl, _, _, rfl, _, _, rfl, rfl, ?_⟩
      refine ⟨_, rfl, E.pa z.2.1, CL, ldx, _, _, rfl, g, T.lot.cl, T.lot.no _ (by decide), rfl, _, rfl, _, _, rfl, rfl, ldx, _, g, (by show 6 < 1000; decide), ?_⟩
      refine ⟨_, _, rfl, fun b o e hb => by rw [upd_ne (hb _ hi)]; exact s1 b o e hb, fun i hi' => ?_⟩
      rw [lessened_snoc _ htj, Vb.lotAt_modify]
      by_cases e : i = z.2.1
      · subst e
        rw [if_pos ⟨rfl, by rw [lessened_len]; exact hi⟩]
        refine ⟨ldx, ?_⟩
        rw [upd_same]
        have : ((lotAt (lessened st.lots (ts.take j)) z.2.1).left : Int) - (z.2.2 : Int) = (((lotAt (lessened st.lots (ts.take j)) z.2.1).left - z.2.2 : Nat) : Int) := by omega
        rw [this]
        rfl
      · rw [if_neg (fun q => e q.1)]
        obtain ⟨idx, g'⟩ := hlo i hi'
        exact ⟨idx, by rw [upd_ne (fun q => e (hS.inj _ _ hi' hi q))]; exact g'⟩
    · rintro σ H1 ⟨v3, v4, rfl, s1, hlo⟩
      rw [List.length_map, hlen, List.take_length] at hlo
      have hobj1 : H1 S = some _ := s1 _ _ hobj fun i hi z => ap.ps i hi z.symm
      obtain ⟨a1, hS1⟩ := hS.turn (H' := H1) (l' := lessened st.lots ts) (td := st.today) (th := st.thrown) (dr := st.drawn) (lessened_len _ _) (fun b o e _ h2 => s1 b o e h2) ⟨dx, hobj1⟩ hlo
      obtain ⟨us, u1, u2, u3⟩ := hS1.uses
      have hul : us.length = st.uses.length := by have := congrArg List.length u2; rwa [List.length_map] at this
      have elen : (us.map fun u => V.ref u.1).length = st.uses.length := by rw [List.length_map, hul]
      refine ⟨_, rfl, S, CT, dx, _, _, rfl, hobj1, TB.stk.cl, TB.stk.no _ (by decide), rfl, .inl ⟨rfl, _, SqL.of u1⟩, _, rfl, S, CT, dx, _, _, rfl, hobj1, TB.stk.cl, TB.stk.no _ (by decide), rfl, E.ua, _, rfl, .inl (SqL.of u1), ?_⟩
      rw [elen]
      refine ⟨_, rfl, _, rfl, S, CT, dx, _, _, rfl, hobj1, TB.stk.cl, TB.stk.no _ (by decide), rfl, _, rfl, fun x xdx nx ndx hne => ?_⟩
      have s6 : Same H1 (upd (upd H1 xdx (.own x)) x (.ins CU xdx [])) := (same_new ndx).trans (same_new (by rw [upd_ne hne.symm]; exact nx))
      refine ⟨x, xdx, t, _, _, _, rfl, upd_same, fun H2 s2 g2 => ⟨rfl, ?_⟩⟩
      have s12 : Same H1 H2 := fun b o e => s2 b o (s6 _ _ e) (ne_of_none e nx)
      refine ⟨E.ua, _, _, rfl, rfl, s12 _ _ u1, small1000 (by rw [elen]; omega), ?_⟩
      have ap1 := hS1.apart
      have kp : Kp E.la E.ua H1 (upd H2 E.ua (.lst (us.map (fun u => V.ref u.1) ++ [.ref x]))) := (Kp.same s12).trans (Kp.upd (s12 _ _ u1) fun z => z.2 rfl)
      have sb : ∀ b o, H1 b = some o → b ≠ E.ua → upd H2 E.ua (.lst (us.map (fun u => V.ref u.1) ++ [.ref x])) b = some o := fun b o e hb => by rw [upd_ne hb]; exact s12 _ _ e
      have htk1 : TakAt H1 E.pa t ts := ⟨zs, s1 _ _ h1 (nolot h1 (by intro _ _ _ z; cases z)), h2, fun z hz => s1 _ _ (h3 z hz) (nolot (h3 z hz) (by intro _ _ _ z; cases z))⟩
      have htk := htk1.kp kp htl htu
      have a2 : After S E st.lots.length H1 E st.lots.length (upd H2 E.ua (.lst (us.map (fun u => V.ref u.1) ++ [.ref x]))) := ⟨fun b o e hf => sb b o e fun z => hf (.inr (.inr (.inr (.inl z)))), fun b h => .inl h⟩
      have hxu : x ≠ E.ua := fun e => by rw [e, u1] at nx; cases nx
      refine k _ (a1.trans a2) ⟨⟨dx, sb _ _ hobj1 ap.su⟩, ⟨sb _ _ hS1.lots.1 hS.ne, fun i hi => ?_⟩, hS1.inj, hS1.demsD.kp kp fun o e => sb _ _ e ap.du, ⟨us ++ [(x, t, ⟨a, st.today, ts⟩)], ?_, ?_, fun i u hu => ?_⟩, hS.ne, ?_⟩ htk
      · obtain ⟨ldx, g⟩ := hS1.lots.2 i hi
        exact ⟨ldx, sb _ _ g (ap1.pu i (List.mem_range.mp hi))⟩
      · show upd _ _ _ E.ua = _
        rw [upd_same, List.map_append]; rfl
      · rw [List.map_append, u2]; rfl
      · by_cases hi : i < us.length
        · rw [List.getElem?_append_left hi] at hu
          exact ⟨(u3 i u hu).1, (u3 i u hu).2.1, (u3 i u hu).2.2.kp kp (u3 i u hu).1 (u3 i u hu).2.1⟩
        · rw [List.getElem?_append_right (by omega)] at hu
          have hi0 : i = us.length := by
            rcases Nat.lt_or_ge (i - us.length) 1 with q | q
            · omega
            · rw [List.getElem?_eq_none (by simpa using q)] at hu; cases hu
          rw [hi0, Nat.sub_self] at hu
          cases hu
          refine ⟨htl, htu, ⟨xdx, ?_⟩, htk⟩
          rw [upd_ne hxu, g2, hi0, hul]
      · obtain ⟨w1, w2, w3, w4, w5, w6, w7⟩ := hS1.wf
        refine ⟨w1, w2, w3, w4, fun u hu => ?_, w6, fun u hu => (List.mem_append.mp hu).elim (w7 u) fun m => by rw [List.mem_singleton.mp m]; exact hne0⟩
        rcases List.mem_append.mp hu with m | m
        · exact w5 u m
        · rw [List.mem_singleton.mp m]
          exact ⟨hto.nd, fun e he => ⟨by show e.1 < (lessened st.lots ts).length; rw [lessened_len]; exact (hto.mem e he).1, (hto.mem e he).2.2⟩⟩
end
end Rs
end
section
set_option maxHeartbeats 2000000
namespace Rs
open PySem PySem.Spec PyProof.Rows L2
open Vblaak (Lot Demand Stock Use lotAt between isArticle isDay inOrder demandsOf lessened)
open Vb (chunk mplan mleft subs sub1 cvr lf lotLt demLt lastOf Sh ordOf lackSum)
theorem ps_setLc' {X : Cx} {i : Nat} {y : Str} {py : Pos} {elt tg iter : Expr} {ifs : List Expr} {scope : Scope} (own : List (Str × Nat)) {pos spos : Pos} {wi : TI} {tt : TT} {te : TE} (g : TG) (hc : X.calm = true) (hN : X.N.Nodup) (hy : X.N[i]? = some y) (hyl : X.env.scope.names.lookup y = some .local) (hi : PI X tg iter wi) (ok : blkC X.N X.env.scope scope own = true)
    (hg : ∀ (s : Shared) (H : Hp) (C : Addr) (cl : List (Str × Addr)) (fp : List Addr), PG (X.blk s H scope (compEnvC scope cl C X.env) fp) tg g) (ht : ∀ (s : Shared) (H : Hp) (C : Addr) (cl : List (Str × Addr)) (fp : List Addr), PTs (X.blk s H scope (compEnvC scope cl C X.env) fp) ifs tt)
    (he : ∀ (s : Shared) (H : Hp) (C : Addr) (cl : List (Str × Addr)) (fp : List Addr), PE (X.blk s H scope (compEnvC scope cl C X.env) fp) elt te) (hk : X.env.scope.kind = .function := by rfl) (hl : (py.line == pos.line) = true := by rfl)
    (ha : (scope.names.any fun (n, k) => n == y && (k == .local || k == .cell)) = false := by rfl) (hs : ∀ x, foldedSetIterable iter X.env x = pure x := by intro _; rfl) :
    PS X (.Assign [.Name y py] (.ListComp elt [⟨tg, iter, ifs, 0⟩] scope pos) spos) (tAsg (tLc' wi g tt te (own.map (·.2))) (gName i)) := ps_setLc hc hN hy hyl (sw_true hk hyl hl ha) hi (blkOk_by ok) hg ht he hs
section
variable {P : Program} {w : World} {K : PySem.W.Frag} {mg : Str → Option Value} {base : Heap} {CL CD CS CU CT : Addr}
/-! throw_away_before -/
abbrev sTa : Stmt := inClass (top 66) 14
abbrev gone (day : Nat) (x : Lot) : Bool := decide (x.last < day)
abbrev thrownOf (s : Stock) (day : Nat) : Nat := ((s.lots.filter fun x => gone day x).map fun x => x.left).sum
abbrev emptied (s : Stock) (day : Nat) : List Lot := s.lots.map fun x => if gone day x = true then { x with left := 0 } else x
def spTa (CL CD CU CT : Addr) : Sp := fun vs H Q _ => ∃ S E s, ∃ day : Nat, vs = [.ref S, .int (day : Nat)] ∧ StockAt CL CD CU CT H S E s ∧
  ∀ H', After S E s.lots.length H E s.lots.length H' → StockAt CL CD CU CT H' S E { s with lots := emptied s day, thrown := s.thrown + thrownOf s day } → Q (.int (thrownOf s day : Nat)) H'
theorem scTa : FnScope ["self", "day", "lot", "past", "doses"] ["self", "day"] (defScope sTa) := ⟨rfl, rfl, rfl, by decide +kernel, rfl, by decide +kernel, by decide +kernel⟩
theorem decLt {i j : Nat} : decide ((i : Int) < (j : Int)) = decide (i < j) := decide_eq_decide.mpr ⟨fun h => by omega, fun h => by omega⟩
theorem ok_ta (h : HasM K CT "throw_away_before" "Stock.throw_away_before" sTa ["self", "day"]) (T : Txt K mg CL CD CS) (TB : TxtB K mg CU CT) : OkM P w K mg base CT 1 "throw_away_before" ["self", "day"] (spTa CL CD CU CT) := by
  refine h.ok scTa (fun vs H Q E h => ?_) (fun f cdv A outer s H vs Q E hr h => ?_)
  · obtain ⟨S, E, s, day, rfl, _⟩ := h
    rfl
  · obtain ⟨S, E, st, day, rfl, hS, k⟩ := h
    refine ⟨_, pss_cons (ps_setLc' (i := 3) [("lot", 2)] (gName 2) rfl scTa.nd rfl rfl (pi_list (pe_fld (pv 0) rfl)) rfl
        (fun s H C cl fp => pg_name (i := 2) scTa.nd rfl (Or.inl rfl) (Or.inr rfl)) (fun s H C cl fp => pts_one (pt_cmpR op_lt (pe_fldK K (pv 2)) (pv 1) (nomark _))) (fun s H C cl fp => pv 2))
      (pss_cons (ps_set (i := 4) scTa.nd rfl (Or.inl rfl) (pe_callB (cr_sum rfl) (by rfl) (T.blt _ (by decide)) PyProof.Rows.boot_sum (pa_cons (pe_lc' [("lot", 2)] (gName 2) rfl scTa.nd (pi_list (pv 3)) rfl
        (fun s H C cl fp => pg_name (i := 2) scTa.nd rfl (Or.inl rfl) (Or.inr rfl)) (fun s H C cl fp => pts_nil) (fun s H C cl fp => pe_fldK K (pv 2))) pa_nil)))
      (pss_cons (ps_for PassesOwn.never rfl (pi_list (pv 3)) (pg_name (i := 2) scTa.nd rfl (Or.inl rfl)) (pss_one (ps_fld (pv 2) pe_int rfl)))
      (pss_cons (ps_fldaug (pv 0) (pv 4) in_add) (pss_one (ps_ret (pv 4)))))), ?_⟩
    obtain ⟨dx, hobj⟩ := hS.obj
    obtain ⟨h1, h3⟩ := hS.lots
    have hl40 := hS.wf.lotsN
    have ap := hS.apart
    refine ⟨_, rfl, S, CT, dx, _, _, rfl, hobj, TB.stk.cl, TB.stk.no _ (by decide), rfl, E.la, rfl, ⟨_, SqL.of h1⟩, fun D hD => ?_⟩
    refine lc_l (List.range st.lots.length) (fun i => V.ref (E.pa i)) (fun i => if gone day (lotAt st.lots i) = true then some (V.ref (E.pa i)) else none) hD (SqL.of h1) (by rw [List.length_range]; exact small1000 (by omega)) (fun i H' Nx hi s1 kp kn => ?_) (fun H1 s1 hl => ?_)
    · obtain ⟨ldx, g⟩ := (h3 i hi).same s1
      refine ⟨rfl, _, rfl, E.pa i, CL, ldx, _, _, rfl, g, T.lot.cl, T.lot.no _ (by decide), rfl, _, rfl, _, _, rfl, rfl, _, rfl, ?_⟩
      rw [decLt]
      refine ite2 (fun hc => ?_) fun hc => ?_
      · exact ⟨_, rfl, kp H' _ (Same.refl _) (if_pos hc)⟩
      · exact kn H' (Same.refl _) (if_neg hc)
    rw [fm_filter'] at hl
    generalize hix : (List.range st.lots.length).filter (fun i => gone day (lotAt st.lots i)) = ix at hl
    have hixm : ∀ i, i ∈ ix ↔ i < st.lots.length ∧ gone day (lotAt st.lots i) = true := fun i => by rw [← hix, List.mem_filter, List.mem_range]
    have hixl : ix.length ≤ 40 := by
      rw [← hix]
      have := List.length_filter_le (fun i => gone day (lotAt st.lots i)) (List.range st.lots.length)
      rw [List.length_range] at this
      omega
    refine ⟨_, rfl, D, rfl, ⟨_, SqL.of hl⟩, fun D2 hD2 => ?_⟩
    refine lc_l ix (fun i => V.ref (E.pa i)) (fun i => some (V.int (lf st.lots i : Nat))) hD2 (SqL.of hl) (small1000 (by omega)) (fun i H' Nx hi s2 kp kn => ?_) (fun H2 s2 hl2 => ?_)
    · obtain ⟨ldx, g⟩ := (hS.lotAt ((hixm i).mp hi).1).same (s1.trans s2)
      exact ⟨rfl, _, rfl, E.pa i, CL, ldx, _, _, rfl, g, T.lot.cl, T.lot.no _ (by decide), rfl, kp H' _ (Same.refl _) rfl⟩
    have s02 := s1.trans s2
    have esum : (ix.map fun i => ((lf st.lots i : Nat) : Int)).sum = ((thrownOf st day : Nat) : Int) := by
      have : ix.map (fun i => ((lf st.lots i : Nat) : Int)) = (ix.map (lf st.lots)).map fun (n : Nat) => (n : Int) := by rw [List.map_map]; rfl
      rw [this, int_sum]
      congr 1
      show _ = ((st.lots.filter fun x => gone day x).map fun x => x.left).sum
      congr 1
      conv => rhs; rw [← lots_range st.lots]
      rw [List.filter_map, List.map_map, ← hix]
      rfl
    refine ⟨D2, ix.map fun i => ((lf st.lots i : Nat) : Int), rfl, SqL.of (by rw [hl2, List.map_map, List.filterMap_eq_map']; rfl), ?_⟩
    rw [esum]
    have nolot : ∀ {b : Addr} {o : HO}, H2 b = some o → (∀ C dx fs, o ≠ .ins C dx fs) → ∀ i, i < st.lots.length → b ≠ E.pa i := fun {b o} e ho i hi z => by
      obtain ⟨ldx, g⟩ := (hS.lotAt hi).same s02
      rw [z, g] at e; cases e
      exact ho _ _ _ rfl
    have hlD := s2 _ _ hl
    refine ⟨_, rfl, D, rfl, ⟨_, SqL.of hlD⟩, for_list (K := K) (a := D) (xs := ix.map fun i => V.ref (E.pa i))
      (fun j σ H' => ∃ v2, σ = [some (.ref S), some (.int (day : Nat)), v2, some (.ref D), some (.int (thrownOf st day : Nat))] ∧ (∀ b o, H2 b = some o → (∀ i, i < st.lots.length → b ≠ E.pa i) → H' b = some o) ∧ ∀ i, i < st.lots.length → LotAt CL H' (E.pa i) i (if i ∈ ix.take j then { lotAt st.lots i with left := 0 } else lotAt st.lots i))
      ⟨none, rfl, fun b o e _ => e, fun i hi => by rw [List.take_zero, if_neg (by simp)]; exact (hS.lotAt hi).same s02⟩ (fun j σ H' _ ⟨_, _, s3, _⟩ => SqL.of (s3 _ _ hlD (nolot hlD (by intro _ _ _ z; cases z)))) ?_ ?_⟩
    · rintro j y σ H' hj ⟨v2, rfl, s3, hlo⟩
      obtain ⟨i0, hij, rfl⟩ := map_get hj
      have hi0 := ((hixm i0).mp (List.mem_of_getElem? hij)).1
      obtain ⟨ldx, g⟩ := hlo i0 hi0
      refine ⟨_, rfl, E.pa i0, CL, ldx, _, rfl, g, T.lot.cl, T.lot.no _ (by decide), (by show 6 < 1000; decide), ?_⟩
      refine ⟨_, rfl, fun b o e hb => by rw [upd_ne (hb _ hi0)]; exact s3 b o e hb, fun i hi => ?_⟩
      by_cases e : i = i0
      · subst e
        rw [if_pos ((take_mem_succ hij).mpr (.inr rfl))]
        refine ⟨ldx, ?_⟩
        rw [upd_same]
        split <;> rfl
      · obtain ⟨idx, g'⟩ := hlo i hi
        refine ⟨idx, ?_⟩
        rw [upd_ne (fun q => e (hS.inj _ _ hi hi0 q)), g']
        by_cases hm : i ∈ ix.take j
        · rw [if_pos hm, if_pos ((take_mem_succ hij).mpr (.inl hm))]
        · rw [if_neg hm, if_neg (fun q => (take_mem_succ hij).mp q |>.elim hm e)]
    · rintro σ H3 ⟨v2, rfl, s3, hlo⟩
      rw [List.length_map, List.take_length] at hlo
      have hobj3 : H3 S = some _ := s3 _ _ (s02 _ _ hobj) fun i hi z => ap.ps i hi z.symm
      refine ⟨_, rfl, S, CT, dx, _, _, rfl, hobj3, TB.stk.cl, TB.stk.no _ (by decide), rfl, _, rfl, _, _, rfl, rfl, dx, _, hobj3, (by show 7 < 1000; decide), ?_⟩
      refine ⟨_, rfl, ?_⟩
      have hlo' : ∀ i, i < st.lots.length → LotAt CL (upd H3 S (.ins CT dx (putF "thrown_away" (.int ((st.thrown : Int) + (thrownOf st day : Nat))) (stkF st.today E.la E.da st.given E.ua st.thrown st.drawn)))) (E.pa i) i (lotAt (emptied st day) i) := fun i hi => by
        obtain ⟨idx, g⟩ := hlo i hi
        refine ⟨idx, ?_⟩
        rw [upd_ne (ap.ps i hi), g, lotAt_map hi]
        by_cases hm : gone day (lotAt st.lots i) = true
        · rw [if_pos hm, if_pos ((hixm i).mpr ⟨hi, hm⟩)]
        · rw [if_neg hm, if_neg (fun q => hm ((hixm i).mp q).2)]
      obtain ⟨a1, a2⟩ := hS.turn (td := st.today) (th := st.thrown + thrownOf st day) (dr := st.drawn) (by simp) (fun b o e h1 h2 => by rw [upd_ne h1]; exact s3 b o (s02 _ _ e) h2) ⟨dx, by rw [upd_same]; rfl⟩ hlo'
      exact k _ a1 a2
/-! drop_demands_before -/
abbrev sDd : Stmt := inClass (top 66) 15
def spDd (CL CD CU CT : Addr) : Sp := fun vs H Q _ => ∃ S E s, ∃ day : Nat, vs = [.ref S, .int (day : Nat)] ∧ StockAt CL CD CU CT H S E s ∧
  ∀ H', After S E s.lots.length H E s.lots.length H' → StockAt CL CD CU CT H' S E { s with demands := s.demands.filter fun x => decide (day ≤ x.day) } → Q (.int ((s.demands.filter fun x => decide (x.day < day)).length : Nat)) H'
theorem scDd : FnScope ["self", "day", "past", "number", "demand"] ["self", "day"] (defScope sDd) := ⟨rfl, rfl, rfl, by decide +kernel, rfl, by decide +kernel, by decide +kernel⟩
/-- the demands have changed: some are gone -/
theorem StockAt.fewer {H H' : Hp} {S : Addr} {E : Parts} {s : Stock} {qs' : List (Addr × Demand)} (hS : StockAt CL CD CU CT H S E s) (fr : ∀ b o, H b = some o → b ≠ E.da → H' b = some o) (p : Demand → Bool) (hd : DemsD CD H' E.da (s.demands.filter p)) :
    After S E s.lots.length H E s.lots.length H' ∧ StockAt CL CD CU CT H' S E { s with demands := s.demands.filter p } := by
  have ap := hS.apart
  obtain ⟨dx, hobj⟩ := hS.obj
  obtain ⟨qs, q1, q2, q3⟩ := hS.dems
  have kp : Kp E.la E.ua H H' := fun b o e k => fr b o e (fun z => by subst z; rw [q1] at e; cases e; exact k)
  refine ⟨⟨fun b o e hf => fr b o e (fun z => hf (.inr (.inr (.inl z)))), fun b h => .inl h⟩, ⟨⟨dx, fr _ _ hobj ap.sd⟩, ⟨fr _ _ hS.lots.1 ap.ld, fun i hi => ?_⟩, hS.inj, hd, hS.usesAt.kp kp fun o e => fr _ _ e ap.du.symm, hS.ne, ?_⟩⟩
  · obtain ⟨ldx, g⟩ := hS.lots.2 i hi
    exact ⟨ldx, fr _ _ g (ap.pd i (List.mem_range.mp hi))⟩
  · obtain ⟨w1, w2, w3, w4, w5, w6, w7⟩ := hS.wf
    exact ⟨w1, Nat.le_trans (List.length_filter_le _ _) w2, List.Pairwise.filter _ w3, fun x hx => w4 x (List.mem_filter.mp hx).1, w5, fun x hx => w6 x (List.mem_filter.mp hx).1, w7⟩
theorem num_inj {ds : List Demand} (h : ds.Pairwise fun x y => x.num < y.num) {x y : Demand} (hx : x ∈ ds) (hy : y ∈ ds) (e : x.num = y.num) : x = y := by
  induction ds with
  | nil => simp at hx
  | cons z r ih =>
    obtain ⟨h1, h2⟩ := List.pairwise_cons.mp h
    rcases List.mem_cons.mp hx with a | a <;> rcases List.mem_cons.mp hy with b | b
    · rw [a, b]
    · have := h1 y b; rw [← a] at this; omega
    · have := h1 x a; rw [← b] at this; omega
    · exact ih h2 a b
theorem ok_dd (h : HasM K CT "drop_demands_before" "Stock.drop_demands_before" sDd ["self", "day"]) (T : Txt K mg CL CD CS) (TB : TxtB K mg CU CT) : OkM P w K mg base CT 1 "drop_demands_before" ["self", "day"] (spDd CL CD CU CT) := by
  refine h.ok scDd (fun vs H Q E h => ?_) (fun f cdv A outer s H vs Q E hr h => ?_)
  · obtain ⟨S, E, s, day, rfl, _⟩ := h
    rfl
  · obtain ⟨S, E, st, day, rfl, hS, k⟩ := h
    refine ⟨_, pss_cons (ps_lock (ps_setLc' (i := 2) [("demand", 4)] (gName 4) rfl scDd.nd rfl rfl (pi_values (pe_fld (pv 0) rfl)) rfl
        (fun s H C cl fp => pg_name (i := 4) scDd.nd rfl (Or.inl rfl) (Or.inr rfl)) (fun s H C cl fp => pts_one (pt_cmpR op_lt (pe_fldK K (pv 4)) (pv 1) (nomark _))) (fun s H C cl fp => pe_fldK K (pv 4))))
      (pss_cons (ps_for PassesOwn.never rfl (pi_list (pv 2)) (pg_name (i := 3) scDd.nd rfl (Or.inl rfl)) (pss_one (ps_expr (pe_dpop1 (pe_fld (pv 0) rfl) (pv 3) ⟨rfl, rfl, rfl, rfl⟩))))
      (pss_one (ps_ret (pe_callB call_len_seq (by rfl) (T.blt _ (by decide)) PySem.boot_len (pa_cons (pv 2) pa_nil))))), ?_⟩
    obtain ⟨dx, hobj⟩ := hS.obj
    obtain ⟨qs, h1, h2, h3⟩ := hS.dems
    have ap := hS.apart
    have hql : qs.length ≤ 40 := by rw [← List.length_map (f := Prod.snd), h2]; exact hS.wf.demN
    refine ⟨E.da, _, h1, trivial, fun od => ?_⟩
    have hobj' : upd H E.da (.frz od (.dK (demK qs))) S = some _ := (upd_ne (ne_of hobj h1 (by intro z; cases z))).trans hobj
    refine ⟨_, rfl, S, CT, dx, _, _, rfl, hobj', TB.stk.cl, TB.stk.no _ (by decide), rfl, E.da, od, _, rfl, upd_same, fun D hD => ?_⟩
    have hDa : D ≠ E.da := fun e => by rw [e, upd_same] at hD; cases hD
    have hDn : H D = none := by rw [upd_ne hDa] at hD; exact hD
    have hq : ∀ q ∈ qs, DemAt CD (upd H E.da (.frz od (.dK (demK qs)))) q.1 q.2 := fun q hq => by
      obtain ⟨ddx, e⟩ := h3 q hq
      exact ⟨ddx, by rw [upd_ne (ne_of e h1 (by intro z; cases z))]; exact e⟩
    refine lc_v' (zs := qs) (ky := fun q => Sum.inl (q.2.num : Int)) (v := fun q => V.ref q.1) (fun q => if decide (q.2.day < day) = true then some (V.int (q.2.num : Nat)) else none) hD upd_same (small1000 (by omega)) (fun q H' Nx hqm s1 kp kn => ?_) (fun H1 s1 hl => ?_)
    · obtain ⟨ddx, g⟩ := (hq q hqm).same s1
      refine ⟨rfl, _, rfl, q.1, CD, ddx, _, _, rfl, g, T.dem.cl, T.dem.no _ (by decide), rfl, _, rfl, _, _, rfl, rfl, _, rfl, ?_⟩
      rw [decLt]
      refine ite2 (fun hc => ?_) fun hc => ?_
      · exact ⟨_, rfl, q.1, CD, ddx, _, _, rfl, g, T.dem.cl, T.dem.no _ (by decide), rfl, kp H' _ (Same.refl _) (if_pos hc)⟩
      · exact kn H' (Same.refl _) (if_neg hc)
    rw [fm_filter'] at hl
    have s2 : Same H (upd H1 E.da (.dK (demK qs))) := same_unlock h1 s1
    refine ⟨s1 _ _ upd_same, ?_⟩
    generalize hps : (qs.filter fun q => decide (q.2.day < day)).map (fun q => q.2.num) = ps
    have hps' : (qs.filter fun q => decide (q.2.day < day)).map (fun q => V.int (q.2.num : Nat)) = ps.map fun (n : Nat) => V.int n := by rw [← hps, List.map_map]; rfl
    rw [hps'] at hl
    have hpm : ∀ n, n ∈ ps ↔ ∃ q ∈ qs, q.2.day < day ∧ q.2.num = n := fun n => by
      rw [← hps, List.mem_map]
      constructor
      · rintro ⟨q, hq, e⟩
        obtain ⟨a, b⟩ := List.mem_filter.mp hq
        exact ⟨q, a, of_decide_eq_true b, e⟩
      · rintro ⟨q, hq, b, e⟩
        exact ⟨q, List.mem_filter.mpr ⟨hq, decide_eq_true b⟩, e⟩
    have hnd : (qs.map fun q => q.2.num).Nodup := by
      have := nums_nodup hS.wf.demP
      rwa [← h2, List.map_map] at this
    have hpn : ps.Nodup := by
      rw [← hps]
      exact List.Nodup.sublist (List.Sublist.map _ List.filter_sublist) hnd
    have hl1 : upd H1 E.da (.dK (demK qs)) D = some (.lst (ps.map fun (n : Nat) => V.int n)) := by rw [upd_ne hDa]; exact hl
    refine ⟨_, rfl, D, rfl, ⟨_, SqL.of hl1⟩, for_list (K := K) (a := D) (xs := ps.map fun (n : Nat) => V.int n)
      (fun j σ H' => ∃ v3 v4, σ = [some (.ref S), some (.int (day : Nat)), some (.ref D), v3, v4] ∧ (∀ b o, upd H1 E.da (.dK (demK qs)) b = some o → b ≠ E.da → H' b = some o) ∧ H' E.da = some (.dK (demK (qs.filter fun q => decide (q.2.num ∉ ps.take j)))))
      ⟨none, none, rfl, fun b o e _ => e, ?_⟩ (fun j σ H' _ ⟨_, _, _, s3, _⟩ => SqL.of (s3 _ _ hl1 hDa)) ?_ ?_⟩
    · rw [upd_same, List.take_zero]
      have : (qs.filter fun q => decide (q.2.num ∉ ([] : List Nat))) = qs := List.filter_eq_self.mpr fun _ _ => by simp
      rw [this]
    · rintro j y σ H' hj ⟨v3, v4, rfl, s3, hd⟩
      obtain ⟨n, hnj, rfl⟩ := map_get hj
      obtain ⟨q, hqm, hqd, hqn⟩ := (hpm n).mp (List.mem_of_getElem? hnj)
      have hobj3 : H' S = some _ := s3 _ _ (s2 _ _ hobj) ap.sd
      have hnt : n ∉ ps.take j := fun hm => by
        obtain ⟨i, hi, e⟩ := List.getElem_of_mem hm
        have hil : i < j := by rw [List.length_take] at hi; omega
        have e1 : ps[i]? = some n := by
          rw [List.getElem_take] at e
          have hi2 : i < ps.length := by rw [List.length_take] at hi; omega
          rw [List.getElem?_eq_getElem hi2, e]
        have := nd_ix hpn e1 hnj
        omega
      have hval : valV (demK (qs.filter fun q => decide (q.2.num ∉ ps.take j))) (Sum.inl (n : Int)) = some (V.ref q.1) := by
        rw [find_demK]
        have hqf : q ∈ qs.filter fun q => decide (q.2.num ∉ ps.take j) := List.mem_filter.mpr ⟨hqm, decide_eq_true (by rw [hqn]; exact hnt)⟩
        cases hf : (qs.filter fun q => decide (q.2.num ∉ ps.take j)).find? fun q => (q.2.num : Int) == (n : Int) with
        | none =>
          have := List.find?_eq_none.mp hf q hqf
          simp [hqn] at this
        | some q' =>
          have h5 := List.find?_some hf
          have h6 := (List.mem_filter.mp (List.mem_of_find?_eq_some hf)).1
          have h7 : q'.2.num = q.2.num := by
            have : (q'.2.num : Int) = (n : Int) := by simpa using h5
            omega
          have : q' = q := by
            obtain ⟨i1, e1⟩ := List.mem_iff_getElem?.mp h6
            obtain ⟨i2, e2⟩ := List.mem_iff_getElem?.mp hqm
            have := nd_ix (x := q.2.num) hnd (i := i1) (j := i2) (by rw [List.getElem?_map, e1]; simp [h7]) (by rw [List.getElem?_map, e2]; rfl)
            subst this
            rw [e1] at e2
            exact Option.some.inj e2
          rw [this]; rfl
      refine ⟨_, rfl, S, CT, dx, _, _, rfl, hobj3, TB.stk.cl, TB.stk.no _ (by decide), rfl, E.da, rfl, .inl ⟨_, .inl hd⟩, _, rfl, _, Sum.inl (n : Int), _, hd, rfl, hval, ?_⟩
      refine ⟨_, _, rfl, fun b o e hb => by rw [upd_ne hb]; exact s3 b o e hb, ?_⟩
      rw [upd_same, drop_demK, List.filter_filter]
      congr 3
      refine List.filter_congr fun q' _ => ?_
      rw [Bool.eq_iff_iff]
      simp only [Bool.and_eq_true, bne_iff_ne, decide_eq_true_eq, ne_eq, take_mem_succ hnj, not_or]
      exact and_comm
    · rintro σ H3 ⟨v3, v4, rfl, s3, hd⟩
      rw [List.length_map, List.take_length] at hd
      refine ⟨_, rfl, D, _, rfl, .inl (SqL.of (s3 _ _ hl1 hDa)), ?_⟩
      have ecnt : (ps.map fun (n : Nat) => V.int n).length = (st.demands.filter fun x => decide (x.day < day)).length := by
        rw [List.length_map, ← hps, List.length_map, ← h2, List.filter_map, List.length_map]
        rfl
      rw [ecnt]
      have eq' : (qs.filter fun q => decide (q.2.num ∉ ps)) = qs.filter fun q => decide (day ≤ q.2.day) := List.filter_congr fun q hqm => by
        rw [Bool.eq_iff_iff]
        simp only [decide_eq_true_eq]
        constructor
        · intro h
          rcases Nat.lt_or_ge q.2.day day with z | z
          · exact (h ((hpm _).mpr ⟨q, hqm, z, rfl⟩)).elim
          · exact z
        · intro h hm
          obtain ⟨q', hq', hd', hn'⟩ := (hpm _).mp hm
          have hx : q.2 ∈ st.demands := by rw [← h2]; exact List.mem_map.mpr ⟨q, hqm, rfl⟩
          have hy : q'.2 ∈ st.demands := by rw [← h2]; exact List.mem_map.mpr ⟨q', hq', rfl⟩
          have := num_inj hS.wf.demP hy hx hn'
          rw [this] at hd'
          omega
      rw [eq'] at hd
      obtain ⟨a1, a2⟩ := hS.fewer (qs' := qs) (fun b o e hb => s3 b o (s2 _ _ e) hb) (fun x => decide (day ≤ x.day)) ⟨qs.filter fun q => decide (day ≤ q.2.day), hd, by rw [← h2, List.filter_map]; rfl, fun q hq => by
        obtain ⟨ddx, g⟩ := h3 q (List.mem_filter.mp hq).1
        exact ⟨ddx, s3 _ _ (s2 _ _ g) (ne_of g h1 (by intro z; cases z))⟩⟩
      exact k H3 a1 a2
end
end Rs
end
section
set_option maxHeartbeats 2000000
namespace Rs
open PySem PySem.Spec PyProof.Rows L2
open Vblaak (Lot Demand Stock Use lotAt between isArticle isDay isLot inOrder demandsOf lessened)
open Vb (chunk mplan mleft subs sub1 cvr lf lotLt demLt lastOf Sh ordOf lackSum)
/-- a is nothing of the caller's -/
def New (S : Addr) (E : Parts) (n : Nat) (H : Hp) (a : Addr) : Prop := ∀ b o, H b = some o → ¬ foot S E n b → b ≠ a
theorem After.new {S : Addr} {E E' : Parts} {n n' : Nat} {H H1 : Hp} {a : Addr} (h : After S E n H E' n' H1) (ha : H1 a = none) : New S E n H a := fun b o e hf z => by
  have := h.frm b o e hf
  rw [z, ha] at this
  cases this
/-- what a call's answer is to give -/
def KAns (CL CD CU CT S : Addr) (E : Parts) (H : Hp) (s : Stock) (c : Vblaak.Call) (Q : VK) : Prop :=
  ∀ H' E' a, After S E s.lots.length H E' (Vblaak.step s c).1.lots.length H' → StockAt CL CD CU CT H' S E' (Vblaak.step s c).1 → New S E s.lots.length H a → H' a = some (.lst ((Vblaak.step s c).2.map V.int)) → Q (.ref a) H'
section
variable {CL CD CU CT S : Addr} {E : Parts} {H : Hp} {s : Stock} {c : Vblaak.Call} {Q : VK}
theorem KAns.go (k : KAns CL CD CU CT S E H s c Q) {E' : Parts} {H1 H2 : Hp} {s' : Stock} {xs : List Int} {p : Addr} (e : Vblaak.step s c = (s', xs)) (a : After S E s.lots.length H E' s'.lots.length H1) (hS1 : StockAt CL CD CU CT H1 S E' s') (hp : H1 p = none) (s12 : Same H1 H2)
    (h2 : H2 p = some (.lst (xs.map V.int))) : Q (.ref p) H2 := by
  unfold KAns at k
  rw [e] at k
  exact k H2 E' p (a.trans (After.same s12)) (hS1.same s12) (a.new hp) h2
theorem KAns.ro (k : KAns CL CD CU CT S E H s c Q) (hS : StockAt CL CD CU CT H S E s) {H2 : Hp} {xs : List Int} {p : Addr} (e : Vblaak.step s c = (s, xs)) (s12 : Same H H2) (hp : H p = none) (h2 : H2 p = some (.lst (xs.map V.int))) : Q (.ref p) H2 :=
  k.go e (After.same (Same.refl _)) hS hp s12 h2
theorem KAns.no (k : KAns CL CD CU CT S E H s c Q) (hS : StockAt CL CD CU CT H S E s) {H1 : Hp} {xs : List Int} {p : Addr} (e : Vblaak.step s c = (s, xs)) (s1 : Same H H1) (hp : H1 p = none) : Q (.ref p) (upd H1 p (.lst (xs.map V.int))) :=
  k.ro hS e (s1.trans (same_new hp)) (s1.free hp) upd_same
end
def spAns (CL CD CU CT : Addr) (mk : List Int → Option Vblaak.Call) : Sp := fun vs H Q _ => ∃ S E s g args c, vs = [.ref S, .ref g] ∧ StockAt CL CD CU CT H S E s ∧ H g = some (.lst (args.map V.int)) ∧ mk args = some c ∧ s.uses.length < 900 ∧ KAns CL CD CU CT S E H s c Q
abbrev mkClear : List Int → Option Vblaak.Call | [] => some .clear | _ => none
abbrev mkLot : List Int → Option Vblaak.Call | [a, c, l, n] => some (.lot a c l n) | _ => none
abbrev mkDemand : List Int → Option Vblaak.Call | [a, d, n] => some (.demand a d n) | _ => none
abbrev mkCancel : List Int → Option Vblaak.Call | [k] => some (.cancel k) | _ => none
abbrev mkPlan : List Int → Option Vblaak.Call | [a] => some (.plan a) | _ => none
abbrev mkTold : List Int → Option Vblaak.Call | [i] => some (.told i) | _ => none
abbrev mkTight : List Int → Option Vblaak.Call | [a] => some (.tight a) | _ => none
abbrev mkBears : List Int → Option Vblaak.Call | [a, d, n] => some (.bears a d n) | _ => none
abbrev mkSpare : List Int → Option Vblaak.Call | [a, d] => some (.spare a d) | _ => none
abbrev mkTake : List Int → Option Vblaak.Call | [k] => some (.take k) | _ => none
abbrev mkUse : List Int → Option Vblaak.Call | [a, n] => some (.use a n) | _ => none
abbrev mkToday : List Int → Option Vblaak.Call | [d] => some (.today d) | _ => none
abbrev mkWithdraw : List Int → Option Vblaak.Call | [i] => some (.withdraw i) | _ => none
abbrev mkUsedFrom : List Int → Option Vblaak.Call | [i] => some (.usedFrom i) | _ => none
abbrev mkWaste : List Int → Option Vblaak.Call | [a] => some (.waste a) | _ => none
abbrev mkVials : List Int → Option Vblaak.Call | m :: l :: r => if r.length ≤ 50 then some (.vials m l r) else none | _ => none
abbrev mkCounts : List Int → Option Vblaak.Call | [] => some .counts | _ => none
theorem mk1 {f : Int → Vblaak.Call} {args : List Int} {c : Vblaak.Call} (h : (match args with | [a] => some (f a) | _ => none) = some c) : ∃ a, args = [a] ∧ c = f a := by
  match args, h with
  | [a], h => exact ⟨a, rfl, (Option.some.inj h).symm⟩
theorem mk2 {f : Int → Int → Vblaak.Call} {args : List Int} {c : Vblaak.Call} (h : (match args with | [a, b] => some (f a b) | _ => none) = some c) : ∃ a b, args = [a, b] ∧ c = f a b := by
  match args, h with
  | [a, b], h => exact ⟨a, b, rfl, (Option.some.inj h).symm⟩
theorem mk3 {f : Int → Int → Int → Vblaak.Call} {args : List Int} {c : Vblaak.Call} (h : (match args with | [a, b, d] => some (f a b d) | _ => none) = some c) : ∃ a b d, args = [a, b, d] ∧ c = f a b d := by
  match args, h with
  | [a, b, d], h => exact ⟨a, b, d, rfl, (Option.some.inj h).symm⟩
theorem betw {n lo hi : Int} : between n lo hi = true ↔ lo ≤ n ∧ n ≤ hi := by unfold between; simp
theorem betwF {n lo hi : Int} : between n lo hi = false ↔ ¬ (lo ≤ n ∧ n ≤ hi) := by
  rw [← betw]; simp
section
variable {P : Program} {w : World} {K : PySem.W.Frag} {mg : Str → Option Value} {base : Heap} {CL CD CS CU CT : Addr}
/-! is_lot -/
abbrev sIL : Stmt := top 41
def spIL (CL CD CU CT : Addr) : Sp := fun vs H Q _ => ∃ S E s, ∃ n : Int, vs = [.ref S, .int n] ∧ StockAt CL CD CU CT H S E s ∧ Q (.bl (isLot s n)) H
theorem scIL : FnScope ["stock", "number"] ["stock", "number"] (defScope sIL) := ⟨rfl, rfl, rfl, by decide +kernel, rfl, by decide +kernel, by decide +kernel⟩
theorem ok_il (h : Has K mg "is_lot" sIL ["stock", "number"]) (T : Txt K mg CL CD CS) (TB : TxtB K mg CU CT) : Ok P w K mg base 1 "is_lot" ["stock", "number"] (spIL CL CD CU CT) := by
  refine h.ok scIL (fun vs H Q E h => ?_) (fun f cdv A outer s H vs Q E hr h => ?_)
  · obtain ⟨S, E, s, n, rfl, _⟩ := h
    rfl
  · obtain ⟨S, E, st, n, rfl, hS, k⟩ := h
    refine ⟨_, pss_one (ps_ret (pe_chain op_le op_lt pe_int (pv 1) (pe_callB call_len_seq (by rfl) (T.blt _ (by decide)) PySem.boot_len (pa_cons (pe_fld (pv 0) rfl) pa_nil)))), ?_⟩
    obtain ⟨dx, hobj⟩ := hS.obj
    have h1 := hS.lots.1
    unfold isLot between at k
    refine ⟨_, rfl, _, _, rfl, rfl, _, rfl, ?_⟩
    refine ite2 (fun hc => ?_) fun hc => ?_
    · rw [hc, Bool.true_and] at k
      refine ⟨_, rfl, S, CT, dx, _, _, rfl, hobj, TB.stk.cl, TB.stk.no _ (by decide), rfl, E.la, _, rfl, .inl (SqL.of h1), _, _, rfl, rfl, ?_⟩
      have e : decide (n < (((List.range st.lots.length).map fun i => V.ref (E.pa i)).length : Int)) = decide (n ≤ (st.lots.length : Int) - 1) := by
        rw [List.length_map, List.length_range]
        exact decide_eq_decide.mpr ⟨fun h => by omega, fun h => by omega⟩
      rw [← e] at k
      exact k
    · have : decide (0 ≤ n) = false := by simpa using hc
      rw [this, Bool.false_and] at k
      exact k
/-! clear -/
abbrev sA0 : Stmt := top 44
theorem scA0 : FnScope ["stock", "given"] ["stock", "given"] (defScope sA0) := ⟨rfl, rfl, rfl, by decide +kernel, rfl, by decide +kernel, by decide +kernel⟩
theorem ok_a0 (h : Has K mg "answer_clear" sA0 ["stock", "given"]) (TB : TxtB K mg CU CT) (GB : OkM P w K mg base CT 1 "begin" ["self"] (spBg CL CD CU CT)) : Ok P w K mg base 2 "answer_clear" ["stock", "given"] (spAns CL CD CU CT mkClear) := by
  refine h.ok scA0 (fun vs H Q E h => ?_) (fun f cdv A outer s H vs Q E hr h => ?_)
  · obtain ⟨S, E, s, g, args, c, rfl, _⟩ := h
    rfl
  · obtain ⟨S, E, st, g, args, c, rfl, hS, hg, hmk, hu, k⟩ := h
    refine ⟨_, pss_cons (ps_expr (pe_okM0 GB TB.stk.cl hr (pv 0))) (pss_one (ps_ret (pe_lst (pa_cons pe_int pa_nil)))), ?_⟩
    obtain ⟨dx, hobj⟩ := hS.obj
    have hc : c = .clear := by
      match args, hmk with
      | [], hmk => exact (Option.some.inj hmk).symm
    subst hc
    refine ⟨_, rfl, S, dx, _, rfl, hobj, rfl, S, dx, _, rfl, hobj, .inr ⟨_, _, _, _, _, _, _, rfl⟩, fun H1 E1 hS1 fr hl hd hu1 => ⟨(by show 1 ≤ sizeLine; decide), fun p hp => ?_⟩⟩
    refine k.go (H1 := H1) (E' := E1) (s' := {}) (xs := [0]) rfl ⟨fun b o e hf => fr b o e fun z => hf (.inl z), fun b hb => ?_⟩ hS1 hp (same_new hp) upd_same
    rcases hb with z | z | z | z | ⟨i, hi, z⟩
    · exact .inl (.inl z)
    · rw [z]; exact .inr hl
    · rw [z]; exact .inr hd
    · rw [z]; exact .inr hu1
    · exact (Nat.not_lt_zero _ hi).elim
/-! counts -/
abbrev sA16 : Stmt := top 61
theorem scA16 : FnScope ["stock", "given", "there"] ["stock", "given"] (defScope sA16) := ⟨rfl, rfl, rfl, by decide +kernel, rfl, by decide +kernel, by decide +kernel⟩
theorem ok_a16 (h : Has K mg "answer_counts" sA16 ["stock", "given"]) (T : Txt K mg CL CD CS) (TB : TxtB K mg CU CT) : Ok P w K mg base 1 "answer_counts" ["stock", "given"] (spAns CL CD CU CT mkCounts) := by
  refine h.ok scA16 (fun vs H Q E h => ?_) (fun f cdv A outer s H vs Q E hr h => ?_)
  · obtain ⟨S, E, s, g, args, c, rfl, _⟩ := h
    rfl
  · obtain ⟨S, E, st, g, args, c, rfl, hS, hg, hmk, hu, k⟩ := h
    refine ⟨_, pss_cons (ps_set (i := 2) scA16.nd rfl (Or.inl rfl) (pe_lst (pa_cons (pe_callB call_len_seq (by rfl) (T.blt _ (by decide)) PySem.boot_len (pa_cons (pe_fld (pv 0) rfl) pa_nil)) (pa_cons (pe_callB call_lenD (by rfl) (T.blt _ (by decide)) PySem.boot_len (pa_cons (pe_fld (pv 0) rfl) pa_nil)) (pa_cons (pe_callB call_len_seq (by rfl) (T.blt _ (by decide)) PySem.boot_len (pa_cons (pe_fld (pv 0) rfl) pa_nil)) pa_nil)))))
      (pss_one (ps_ret (pe_op op_cat (pe_op op_cat (pe_lst (pa_cons (pe_fld (pv 0) rfl) pa_nil)) (pv 2)) (pe_lst (pa_cons (pe_fld (pv 0) rfl) (pa_cons (pe_fld (pv 0) rfl) pa_nil)))))), ?_⟩
    obtain ⟨dx, hobj⟩ := hS.obj
    obtain ⟨qs, q1, q2, _⟩ := hS.dems
    obtain ⟨us, u1, u2, _⟩ := hS.uses
    have h1 := hS.lots.1
    have hc : c = .counts := by
      match args, hmk with
      | [], hmk => exact (Option.some.inj hmk).symm
    subst hc
    refine ⟨_, rfl, S, CT, dx, _, _, rfl, hobj, TB.stk.cl, TB.stk.no _ (by decide), rfl, E.la, _, rfl, .inl (SqL.of h1), _, rfl, S, CT, dx, _, _, rfl, hobj, TB.stk.cl, TB.stk.no _ (by decide), rfl, E.da, _, rfl, q1, _, rfl, S, CT, dx, _, _, rfl, hobj, TB.stk.cl, TB.stk.no _ (by decide), rfl, E.ua, _, rfl, .inl (SqL.of u1), (by show 3 ≤ sizeLine; decide), fun p hp => ?_⟩
    have s1 : Same H _ := same_new (o := .lst [V.int (((List.range st.lots.length).map fun i => V.ref (E.pa i)).length : Nat), V.int ((demK qs).length : Nat), V.int ((us.map fun u => V.ref u.1).length : Nat)]) hp
    refine ⟨_, rfl, S, CT, dx, _, _, rfl, s1 _ _ hobj, TB.stk.cl, TB.stk.no _ (by decide), rfl, (by show 1 ≤ sizeLine; decide), fun p2 hp2 => ?_⟩
    refine ⟨_, rfl, p2, p, _, _, rfl, rfl, upd_same, (upd_ne (ne_of_none upd_same hp2)).trans upd_same, (by show 4 ≤ sizeLine; decide), fun p3 hp3 => ?_⟩
    have s3 := (s1.trans (same_new (o := .lst [V.int (st.today : Nat)]) hp2)).trans (same_new (o := .lst ([V.int (st.today : Nat)] ++ [V.int (((List.range st.lots.length).map fun i => V.ref (E.pa i)).length : Nat), V.int ((demK qs).length : Nat), V.int ((us.map fun u => V.ref u.1).length : Nat)])) hp3)
    refine ⟨_, rfl, S, CT, dx, _, _, rfl, s3 _ _ hobj, TB.stk.cl, TB.stk.no _ (by decide), rfl, _, rfl, S, CT, dx, _, _, rfl, s3 _ _ hobj, TB.stk.cl, TB.stk.no _ (by decide), rfl, (by show 2 ≤ sizeLine; decide), fun p4 hp4 => ?_⟩
    refine ⟨p3, p4, _, _, rfl, rfl, (upd_ne (ne_of_none upd_same hp4)).trans upd_same, upd_same, (by show 6 ≤ sizeLine; decide), fun p5 hp5 => ?_⟩
    have s4 := s3.trans (same_new (o := .lst [V.int (st.thrown : Nat), V.int (st.drawn : Nat)]) hp4)
    have ex : (Vblaak.step st .counts).2.map V.int = [V.int (st.today : Nat)] ++ [V.int (((List.range st.lots.length).map fun i => V.ref (E.pa i)).length : Nat), V.int ((demK qs).length : Nat), V.int ((us.map fun u => V.ref u.1).length : Nat)] ++ [V.int (st.thrown : Nat), V.int (st.drawn : Nat)] := by
      rw [List.length_map, List.length_range, List.length_map, List.length_map, ← List.length_map (f := Prod.snd) (as := qs), q2, ← List.length_map (f := fun u : Addr × Addr × Use => u.2.2) (as := us), u2]
      rfl
    have := k.no hS (xs := (Vblaak.step st .counts).2) (p := p5) rfl s4 hp5
    rw [ex] at this
    exact this
/-! told -/
abbrev sA5 : Stmt := top 50
theorem scA5 : FnScope ["stock", "given", "lot"] ["stock", "given"] (defScope sA5) := ⟨rfl, rfl, rfl, by decide +kernel, rfl, by decide +kernel, by decide +kernel⟩
theorem isLot_lt {s : Stock} {i : Int} (h : isLot s i = true) : ∃ n : Nat, i = (n : Int) ∧ n < s.lots.length := by
  have := betw.mp h
  exact ⟨i.toNat, by omega, by omega⟩
theorem ok_a5 (h : Has K mg "answer_told" sA5 ["stock", "given"]) (T : Txt K mg CL CD CS) (TB : TxtB K mg CU CT) (GL : Ok P w K mg base 1 "is_lot" ["stock", "number"] (spIL CL CD CU CT)) : Ok P w K mg base 2 "answer_told" ["stock", "given"] (spAns CL CD CU CT mkTold) := by
  refine h.ok scA5 (fun vs H Q E h => ?_) (fun f cdv A outer s H vs Q E hr h => ?_)
  · obtain ⟨S, E, s, g, args, c, rfl, _⟩ := h
    rfl
  · obtain ⟨S, E, st, g, args, c, rfl, hS, hg, hmk, hu, k⟩ := h
    refine ⟨_, pss_cons (ps_if (pt_not (pt_val (pe_ok GL hr (pa_cons (pv 0) (pa_cons (pe_ix ix_list (pv 1) pe_int (fun _ _ => rfl)) pa_nil))))) (pss_one (ps_ret (pe_lst (pa_cons (pe_gi (TB.gi ("OUT_OF_RANGE", -1) (by decide))) pa_nil)))) pss_nil)
      (pss_cons (ps_set (i := 2) scA5.nd rfl (Or.inl rfl) (pe_ix ix_list (pe_fld (pv 0) rfl) (pe_ix ix_list (pv 1) pe_int (fun _ _ => rfl)) (fun _ _ => rfl)))
      (pss_one (ps_ret (pe_lst (pa_cons (pe_fld (pv 2) rfl) (pa_cons (pe_fld (pv 2) rfl) (pa_cons (pe_fld (pv 2) rfl) (pa_cons (pe_fld (pv 2) rfl) (pa_cons (pe_fld (pv 2) rfl) pa_nil))))))))), ?_⟩
    obtain ⟨dx, hobj⟩ := hS.obj
    obtain ⟨i, rfl, rfl⟩ := mk1 hmk
    refine ⟨_, rfl, _, rfl, g, _, _, _, rfl, rfl, SqL.of hg, at_of (j := 0) (v := .int i) rfl rfl, S, E, st, i, rfl, hS, _, rfl, ?_⟩
    cases hl : isLot st i with
    | false =>
      refine iteT ⟨(by show 1 ≤ sizeLine; decide), fun p hp => k.no hS (xs := [-1]) ?_ (Same.refl _) hp⟩
      show (if isLot st i = false then _ else _) = _
      rw [if_pos hl]
    | true =>
      refine iteF ?_
      obtain ⟨n, rfl, hn⟩ := isLot_lt hl
      obtain ⟨ldx, hlo⟩ := hS.lotAt hn
      refine ⟨_, rfl, S, CT, dx, _, _, rfl, hobj, TB.stk.cl, TB.stk.no _ (by decide), rfl, _, rfl, g, _, _, _, rfl, rfl, SqL.of hg, at_of (j := 0) (v := .int n) rfl rfl, E.la, _, _, _, rfl, rfl, SqL.of hS.lots.1, at_of (j := n) (v := .ref (E.pa n)) rfl (by rw [List.getElem?_map, List.getElem?_range hn]; rfl), ?_⟩
      refine ⟨_, rfl, E.pa n, CL, ldx, _, _, rfl, hlo, T.lot.cl, T.lot.no _ (by decide), rfl, _, rfl, E.pa n, CL, ldx, _, _, rfl, hlo, T.lot.cl, T.lot.no _ (by decide), rfl, _, rfl, E.pa n, CL, ldx, _, _, rfl, hlo, T.lot.cl, T.lot.no _ (by decide), rfl, _, rfl, E.pa n, CL, ldx, _, _, rfl, hlo, T.lot.cl, T.lot.no _ (by decide), rfl, _, rfl, E.pa n, CL, ldx, _, _, rfl, hlo, T.lot.cl, T.lot.no _ (by decide), rfl, (by show 5 ≤ sizeLine; decide), fun p hp => ?_⟩
      refine k.no hS (xs := Vblaak.ints [(lotAt st.lots n).article, (lotAt st.lots n).come, (lotAt st.lots n).last, (lotAt st.lots n).left, (lotAt st.lots n).had]) ?_ (Same.refl _) hp
      show (if isLot st (n : Int) = false then _ else _) = _
      rw [if_neg (by rw [hl]; simp)]
      rfl
end
end Rs
end
section
set_option maxHeartbeats 2000000
namespace Rs
open PySem PySem.Spec PyProof.Rows L2
open Vblaak (Lot Demand Stock Use lotAt between isArticle isDay isLot inOrder demandsOf lessened)
open Vb (chunk mplan mleft subs sub1 cvr lf lotLt demLt lastOf Sh ordOf lackSum)
section
variable {P : Program} {w : World} {K : PySem.W.Frag} {mg : Str → Option Value} {base : Heap} {CL CD CS CU CT : Addr}
theorem nat_of {n lo hi : Int} (h : between n lo hi = true) (h0 : 0 ≤ lo) : ∃ m : Nat, n = (m : Int) := ⟨n.toNat, by have := betw.mp h; omega⟩
/-! lot -/
abbrev sA1 : Stmt := top 45
theorem scA1 : FnScope ["stock", "given", "article", "comes", "last", "doses"] ["stock", "given"] (defScope sA1) := ⟨rfl, rfl, rfl, by decide +kernel, rfl, by decide +kernel, by decide +kernel⟩
theorem ok_a1 (h : Has K mg "answer_lot" sA1 ["stock", "given"]) (T : Txt K mg CL CD CS) (TB : TxtB K mg CU CT) (GA : Ok P w K mg base 1 "is_article" ["number"] (spBt 1 8)) (GD : Ok P w K mg base 1 "is_day" ["number"] (spBt 0 400)) (GO : Ok P w K mg base 1 "is_doses" ["number"] (spBt 1 1000))
    (GL : OkM P w K mg base CT 3 "add_lot" ["self", "article", "comes", "last", "doses"] (spAl CL CD CU CT)) : Ok P w K mg base 4 "answer_lot" ["stock", "given"] (spAns CL CD CU CT mkLot) := by
  refine h.ok scA1 (fun vs H Q E h => ?_) (fun f cdv A outer s H vs Q E hr h => ?_)
  · obtain ⟨S, E, s, g, args, c, rfl, _⟩ := h
    rfl
  · obtain ⟨S, E, st, g, args, c, rfl, hS, hg, hmk, hu, k⟩ := h
    have hr1 : Room 1 _ := hr.mono (by decide)
    refine ⟨_, pss_cons (ps_set (i := 2) scA1.nd rfl (Or.inl rfl) (pe_ix ix_list (pv 1) pe_int (fun _ _ => rfl))) (pss_cons (ps_set (i := 3) scA1.nd rfl (Or.inl rfl) (pe_ix ix_list (pv 1) pe_int (fun _ _ => rfl))) (pss_cons (ps_set (i := 4) scA1.nd rfl (Or.inl rfl) (pe_ix ix_list (pv 1) pe_int (fun _ _ => rfl))) (pss_cons (ps_set (i := 5) scA1.nd rfl (Or.inl rfl) (pe_ix ix_list (pv 1) pe_int (fun _ _ => rfl)))
      (pss_cons (ps_if (pt_not (PW.pt (pw_and (pt_val (pe_ok GA hr1 (pa_cons (pv 2) pa_nil))) (pw_and (pt_val (pe_ok GD hr1 (pa_cons (pv 3) pa_nil))) (pw_and (pt_cmpR op_le (pv 3) (pv 4) (nomark _)) (pw_and (pt_val (pe_ok GD hr1 (pa_cons (pv 4) pa_nil))) (pw_and1 (pt_val (pe_ok GO hr1 (pa_cons (pv 5) pa_nil)))))))))) (pss_one (ps_ret (pe_lst (pa_cons (pe_gi (TB.gi ("OUT_OF_RANGE", -1) (by decide))) pa_nil)))) pss_nil)
      (pss_cons (ps_if (pt_cmpR op_eq (pe_callB call_len_seq (by rfl) (T.blt _ (by decide)) PySem.boot_len (pa_cons (pe_fld (pv 0) rfl) pa_nil)) (pe_gi (TB.gi ("MOST_LOTS", 40) (by decide))) (nomark _)) (pss_one (ps_ret (pe_lst (pa_cons (pe_gi (TB.gi ("NO_ROOM", -2) (by decide))) pa_nil)))) pss_nil)
      (pss_cons (ps_if (pt_cmpR op_lt (pv 4) (pe_fld (pv 0) rfl) (nomark _)) (pss_one (ps_ret (pe_lst (pa_cons (pe_gi (TB.gi ("BEFORE_TODAY", -3) (by decide))) pa_nil)))) pss_nil)
      (pss_one (ps_ret (pe_lst (pa_cons (pe_okM GL TB.stk.cl hr (pv 0) (pa_cons (pv 2) (pa_cons (pv 3) (pa_cons (pv 4) (pa_cons (pv 5) pa_nil))))) pa_nil)))))))))), ?_⟩
    obtain ⟨dx, hobj⟩ := hS.obj
    obtain ⟨a, c, l, n, rfl, rfl⟩ : ∃ a c' l n, args = [a, c', l, n] ∧ c = .lot a c' l n := by
      match args, hmk with
      | [a, c', l, n], hmk => exact ⟨a, c', l, n, rfl, (Option.some.inj hmk).symm⟩
    refine ⟨_, rfl, g, _, _, _, rfl, rfl, SqL.of hg, at_of (j := 0) (v := .int a) rfl rfl, ?_⟩
    refine ⟨_, rfl, g, _, _, _, rfl, rfl, SqL.of hg, at_of (j := 1) (v := .int c) rfl rfl, ?_⟩
    refine ⟨_, rfl, g, _, _, _, rfl, rfl, SqL.of hg, at_of (j := 2) (v := .int l) rfl rfl, ?_⟩
    refine ⟨_, rfl, g, _, _, _, rfl, rfl, SqL.of hg, at_of (j := 3) (v := .int n) rfl rfl, ?_⟩
    have hstep : Vblaak.step st (.lot a c l n) = if (isArticle a && (isDay c && (between l c 400 && between n 1 1000))) = false then (st, [-1]) else if Vblaak.LOTS ≤ st.lots.length then (st, [-2]) else if l < (st.today : Int) then (st, [-3]) else ({ st with lots := st.lots ++ [⟨a.toNat, c.toNat, l.toNat, n.toNat, n.toNat⟩] }, Vblaak.ints [st.lots.length]) := rfl
    have no1 : (isArticle a && (isDay c && (between l c 400 && between n 1 1000))) = false → ∀ p, H p = none → Q (.ref p) (upd H p (.lst [.int (-1)])) := fun e p hp => k.no hS (xs := [-1]) (by rw [hstep, if_pos e]) (Same.refl _) hp
    refine ⟨_, rfl, a, rfl, _, rfl, ?_⟩
    refine ite2 (fun h1 => ?_) fun h1 => iteT ⟨(by show 1 ≤ sizeLine; decide), no1 (by show (between a 1 8 && _) = false; rw [Bool.eq_false_iff.mpr h1]; rfl)⟩
    refine ⟨_, rfl, c, rfl, _, rfl, ?_⟩
    refine ite2 (fun h2 => ?_) fun h2 => iteT ⟨(by show 1 ≤ sizeLine; decide), no1 (by show (_ && (between c 0 400 && _)) = false; rw [Bool.eq_false_iff.mpr h2]; simp)⟩
    refine ⟨_, rfl, _, rfl, _, _, rfl, rfl, _, rfl, ?_⟩
    refine ite2 (fun h3 => ?_) fun h3 => iteT ⟨(by show 1 ≤ sizeLine; decide), no1 (by
      have : between l c 400 = false := betwF.mpr fun z => h3 (decide_eq_true z.1)
      rw [this]; simp)⟩
    refine ⟨_, rfl, l, rfl, _, rfl, ?_⟩
    refine ite2 (fun h4 => ?_) fun h4 => iteT ⟨(by show 1 ≤ sizeLine; decide), no1 (by
      have : between l c 400 = false := betwF.mpr fun z => h4 (betw.mpr (by have := betw.mp h2; omega))
      rw [this]; simp)⟩
    refine ⟨_, rfl, n, rfl, _, rfl, ?_⟩
    cases h5 : between n 1 1000 with
    | false => exact iteT ⟨(by show 1 ≤ sizeLine; decide), no1 (by rw [h5]; simp)⟩
    | true =>
      refine iteF ?_
      have h3' := of_decide_eq_true h3
      have hlc : between l c 400 = true := betw.mpr ⟨h3', (betw.mp h4).2⟩
      have hcond : ¬ (isArticle a && (isDay c && (between l c 400 && between n 1 1000))) = false := by
        show ¬ (between a 1 8 && (between c 0 400 && (between l c 400 && between n 1 1000))) = false
        rw [h1, h2, hlc, h5]; simp
      rw [if_neg hcond] at hstep
      refine ⟨_, rfl, S, CT, dx, _, _, rfl, hobj, TB.stk.cl, TB.stk.no _ (by decide), rfl, E.la, _, rfl, .inl (SqL.of hS.lots.1), rfl, _, rfl, ?_⟩
      rw [dec_int, List.length_map, List.length_range]
      have hl40 := hS.wf.lotsN
      refine ite2 (fun h6 => ?_) fun h6 => ?_
      · have : (st.lots.length : Int) = 40 := by simpa using h6
        refine ⟨(by show 1 ≤ sizeLine; decide), fun p hp => k.no hS (xs := [-2]) ?_ (Same.refl _) hp⟩
        rw [hstep, if_pos (by unfold Vblaak.LOTS; omega)]
      · have h6' : st.lots.length < 40 := by
          have : ¬ (st.lots.length : Int) = 40 := by simpa using h6
          omega
        rw [if_neg (by unfold Vblaak.LOTS; omega)] at hstep
        refine ⟨_, rfl, _, rfl, S, CT, dx, _, _, rfl, hobj, TB.stk.cl, TB.stk.no _ (by decide), rfl, _, _, rfl, rfl, _, rfl, ?_⟩
        refine ite2 (fun h7 => ?_) fun h7 => ?_
        · refine ⟨(by show 1 ≤ sizeLine; decide), fun p hp => k.no hS (xs := [-3]) ?_ (Same.refl _) hp⟩
          rw [hstep, if_pos (of_decide_eq_true h7)]
        · rw [if_neg (fun z => h7 (decide_eq_true z))] at hstep
          obtain ⟨a', rfl⟩ := nat_of h1 (by decide)
          obtain ⟨c', rfl⟩ := nat_of h2 (by decide)
          obtain ⟨l', rfl⟩ := nat_of h4 (by decide)
          obtain ⟨n', rfl⟩ := nat_of h5 (by decide)
          refine ⟨_, rfl, S, dx, _, rfl, hobj, rfl, _, rfl, _, rfl, _, rfl, _, rfl, S, E, st, a', c', l', n', rfl, hS, h6', fun H1 E1 a1 hS1 => ⟨(by show 1 ≤ sizeLine; decide), fun p hp => ?_⟩⟩
          have hlen : ({ st with lots := st.lots ++ [⟨a', c', l', n', n'⟩] } : Stock).lots.length = st.lots.length + 1 := by simp
          refine k.go (H1 := H1) (E' := E1) (s' := { st with lots := st.lots ++ [⟨a', c', l', n', n'⟩] }) (xs := Vblaak.ints [st.lots.length]) hstep (by rw [hlen]; exact a1) hS1 hp (same_new hp) upd_same
/-! demand -/
abbrev sA2 : Stmt := top 46
theorem scA2 : FnScope ["stock", "given", "demand"] ["stock", "given"] (defScope sA2) := ⟨rfl, rfl, rfl, by decide +kernel, rfl, by decide +kernel, by decide +kernel⟩
theorem add3_nat {a d n : Int} (h : (isArticle a && (isDay d && between n 1 1000)) = true) : ∃ a' d' n' : Nat, a = (a' : Int) ∧ d = (d' : Int) ∧ n = (n' : Int) := by
  rw [Bool.and_eq_true, Bool.and_eq_true] at h
  obtain ⟨a', e1⟩ := nat_of h.1 (by decide)
  obtain ⟨d', e2⟩ := nat_of h.2.1 (by decide)
  obtain ⟨n', e3⟩ := nat_of h.2.2 (by decide)
  exact ⟨a', d', n', e1, e2, e3⟩
theorem ok_a2 (h : Has K mg "answer_demand" sA2 ["stock", "given"]) (T : Txt K mg CL CD CS) (TB : TxtB K mg CU CT) (G3 : Ok P w K mg base 2 "is_article_day_doses" ["given"] spADD) (GN : OkM P w K mg base CT 3 "next_demand" ["self", "article", "day", "doses"] (spNd CL CD CU CT))
    (GA : OkM P w K mg base CT 1 "add_demand" ["self", "demand"] (spAd CL CD CU CT)) (GL : OkM P w K mg base CT 7 "lack_of" ["self", "article"] (spLof CL CD CU CT)) : Ok P w K mg base 8 "answer_demand" ["stock", "given"] (spAns CL CD CU CT mkDemand) := by
  refine h.ok scA2 (fun vs H Q E h => ?_) (fun f cdv A outer s H vs Q E hr h => ?_)
  · obtain ⟨S, E, s, g, args, c, rfl, _⟩ := h
    rfl
  · obtain ⟨S, E, st, g, args, c, rfl, hS, hg, hmk, hu, k⟩ := h
    have hr1 : Room 1 _ := hr.mono (by decide)
    have hr2 : Room 2 _ := hr.mono (by decide)
    have hr3 : Room 3 _ := hr.mono (by decide)
    refine ⟨_, pss_cons (ps_if (pt_not (pt_val (pe_ok G3 hr2 (pa_cons (pv 1) pa_nil)))) (pss_one (ps_ret (pe_lst (pa_cons (pe_gi (TB.gi ("OUT_OF_RANGE", -1) (by decide))) pa_nil)))) pss_nil)
      (pss_cons (ps_if (pt_cmpR op_eq (pe_callB call_lenD (by rfl) (T.blt _ (by decide)) PySem.boot_len (pa_cons (pe_fld (pv 0) rfl) pa_nil)) (pe_gi (TB.gi ("MOST_DEMANDS", 40) (by decide))) (nomark _)) (pss_one (ps_ret (pe_lst (pa_cons (pe_gi (TB.gi ("NO_ROOM", -2) (by decide))) pa_nil)))) pss_nil)
      (pss_cons (ps_if (pt_cmpR op_lt (pe_ix ix_list (pv 1) pe_int (fun _ _ => rfl)) (pe_fld (pv 0) rfl) (nomark _)) (pss_one (ps_ret (pe_lst (pa_cons (pe_gi (TB.gi ("BEFORE_TODAY", -3) (by decide))) pa_nil)))) pss_nil)
      (pss_cons (ps_set (i := 2) scA2.nd rfl (Or.inl rfl) (pe_okM GN TB.stk.cl hr3 (pv 0) (pa_cons (pe_ix ix_list (pv 1) pe_int (fun _ _ => rfl)) (pa_cons (pe_ix ix_list (pv 1) pe_int (fun _ _ => rfl)) (pa_cons (pe_ix ix_list (pv 1) pe_int (fun _ _ => rfl)) pa_nil)))))
      (pss_cons (ps_expr (pe_okM GA TB.stk.cl hr1 (pv 0) (pa_cons (pv 2) pa_nil)))
      (pss_one (ps_ret (pe_lst (pa_cons (pe_fld (pv 2) rfl) (pa_cons (pe_okM GL TB.stk.cl hr (pv 0) (pa_cons (pe_fld (pv 2) rfl) pa_nil)) pa_nil))))))))), ?_⟩
    obtain ⟨dx, hobj⟩ := hS.obj
    obtain ⟨qs, q1, q2, _⟩ := hS.dems
    have hql : (demK qs).length = st.demands.length := by rw [List.length_map, ← List.length_map (f := Prod.snd) (as := qs), q2]
    obtain ⟨a, d, n, rfl, rfl⟩ := mk3 hmk
    have hstep : Vblaak.step st (.demand a d n) = if (isArticle a && (isDay d && between n 1 1000)) = false then (st, [-1]) else if Vblaak.DEMANDS ≤ st.demands.length then (st, [-2]) else if d < (st.today : Int) then (st, [-3]) else ({ Vblaak.withDemand st a.toNat d.toNat n.toNat with given := st.given + 1 }, [((st.given + 1 : Nat) : Int), (Vblaak.lacks (Vblaak.withDemand st a.toNat d.toNat n.toNat) a.toNat : Int)]) := rfl
    refine ⟨_, rfl, g, a, d, n, [], rfl, hg, _, rfl, ?_⟩
    cases hc : (isArticle a && (isDay d && between n 1 1000)) with
    | false => exact iteT ⟨(by show 1 ≤ sizeLine; decide), fun p hp => k.no hS (xs := [-1]) (by rw [hstep, if_pos hc]) (Same.refl _) hp⟩
    | true =>
      refine iteF ?_
      rw [if_neg (by rw [hc]; simp)] at hstep
      refine ⟨_, rfl, S, CT, dx, _, _, rfl, hobj, TB.stk.cl, TB.stk.no _ (by decide), rfl, E.da, _, rfl, q1, rfl, _, rfl, ?_⟩
      rw [dec_int, hql]
      have hd40 := hS.wf.demN
      refine ite2 (fun h6 => ?_) fun h6 => ?_
      · have : (st.demands.length : Int) = 40 := by simpa using h6
        refine ⟨(by show 1 ≤ sizeLine; decide), fun p hp => k.no hS (xs := [-2]) ?_ (Same.refl _) hp⟩
        rw [hstep, if_pos (by unfold Vblaak.DEMANDS; omega)]
      · have h6' : st.demands.length < 40 := by
          have : ¬ (st.demands.length : Int) = 40 := by simpa using h6
          omega
        rw [if_neg (by unfold Vblaak.DEMANDS; omega)] at hstep
        refine ⟨_, rfl, g, _, _, _, rfl, rfl, SqL.of hg, at_of (j := 1) (v := .int d) rfl rfl, _, rfl, S, CT, dx, _, _, rfl, hobj, TB.stk.cl, TB.stk.no _ (by decide), rfl, _, _, rfl, rfl, _, rfl, ?_⟩
        refine ite2 (fun h7 => ?_) fun h7 => ?_
        · refine ⟨(by show 1 ≤ sizeLine; decide), fun p hp => k.no hS (xs := [-3]) ?_ (Same.refl _) hp⟩
          rw [hstep, if_pos (of_decide_eq_true h7)]
        · rw [if_neg (fun z => h7 (decide_eq_true z))] at hstep
          obtain ⟨a', d', n', rfl, rfl, rfl⟩ := add3_nat hc
          refine ⟨_, rfl, S, dx, _, rfl, hobj, rfl, _, rfl, g, _, _, _, rfl, rfl, SqL.of hg, at_of (j := 0) (v := .int a') rfl rfl, _, rfl, g, _, _, _, rfl, rfl, SqL.of hg, at_of (j := 1) (v := .int d') rfl rfl, _, rfl, g, _, _, _, rfl, rfl, SqL.of hg, at_of (j := 2) (v := .int n') rfl rfl, S, E, st, a', d', n', rfl, hS, fun H1 p s1 hp hdm => ?_⟩
          refine ⟨_, rfl, S, dx, _, rfl, s1 _ _ hobj, rfl, _, rfl, S, E, st, p, _, rfl, hS.same s1, hdm, rfl, (by rw [Bool.and_eq_true, Bool.and_eq_true] at hc; have := betw.mp hc.2.2; show 0 < n'; omega), h6', fun H2 a2 hS2 hdm2 => ?_⟩
          obtain ⟨dx2, hobj2⟩ := hS2.obj
          obtain ⟨ddx, hd2⟩ := hdm2
          refine ⟨_, rfl, p, CD, ddx, _, _, rfl, hd2, T.dem.cl, T.dem.no _ (by decide), rfl, _, rfl, S, dx2, _, rfl, hobj2, rfl, _, rfl, p, CD, ddx, _, _, rfl, hd2, T.dem.cl, T.dem.no _ (by decide), rfl, S, E, _, a', rfl, hS2, fun H3 s3 => ⟨(by show 2 ≤ sizeLine; decide), fun p5 hp5 => ?_⟩⟩
          have hafter : After S E st.lots.length H E st.lots.length H3 := ((After.same s1).trans a2).trans (After.same s3)
          exact k.go (H1 := H3) (E' := E) hstep hafter (hS2.same s3) hp5 (same_new hp5) upd_same
/-! cancel -/
abbrev sA3 : Stmt := top 47
theorem scA3 : FnScope ["stock", "given", "demand"] ["stock", "given"] (defScope sA3) := ⟨rfl, rfl, rfl, by decide +kernel, rfl, by decide +kernel, by decide +kernel⟩
theorem find_map (qs : List (Addr × Demand)) (k : Int) : (qs.map Prod.snd).find? (fun x => (x.num : Int) == k) = (qs.find? fun q => (q.2.num : Int) == k).map Prod.snd := by
  induction qs with
  | nil => rfl
  | cons q r ih =>
    rw [List.map_cons, List.find?_cons, List.find?_cons]
    cases (q.2.num : Int) == k
    · exact ih
    · rfl
/-- the demand k: none, or where it stands -/
theorem StockAt.dem {H : Hp} {E : Parts} {S : Addr} {s : Stock} (hS : StockAt CL CD CU CT H S E s) (k : Int) : ∃ kvs, H E.da = some (.dK kvs) ∧ ((valV kvs (Sum.inl k) = none ∧ Vblaak.demandAt s k = none) ∨ ∃ p x, valV kvs (Sum.inl k) = some (.ref p) ∧ Vblaak.demandAt s k = some x ∧ DemAt CD H p x ∧ k = (x.num : Int) ∧ x ∈ s.demands ∧
    ∀ H', (∀ b o, H b = some o → b ≠ E.da → H' b = some o) → H' E.da = some (.dK (dropK kvs (Sum.inl k))) → After S E s.lots.length H E s.lots.length H' ∧ StockAt CL CD CU CT H' S E (Vblaak.without s x.num)) := by
  obtain ⟨qs, q1, q2, q3⟩ := hS.dems
  refine ⟨_, q1, ?_⟩
  have e : Vblaak.demandAt s k = (qs.find? fun q => (q.2.num : Int) == k).map Prod.snd := by
    unfold Vblaak.demandAt
    rw [← q2, find_map]
  rw [find_demK, e]
  cases hf : qs.find? fun q => (q.2.num : Int) == k with
  | none => exact .inl ⟨rfl, rfl⟩
  | some q =>
    have hqm := List.mem_of_find?_eq_some hf
    have hk : (q.2.num : Int) = k := by simpa using List.find?_some hf
    refine .inr ⟨q.1, q.2, rfl, rfl, q3 q hqm, hk.symm, by rw [← q2]; exact List.mem_map.mpr ⟨q, hqm, rfl⟩, fun H' fr hd => ?_⟩
    rw [← hk, drop_demK] at hd
    exact hS.fewer (qs' := qs) fr (fun x => x.num != q.2.num) ⟨qs.filter fun r => r.2.num != q.2.num, hd, by rw [← q2, List.filter_map]; rfl, fun r hr => by
      obtain ⟨ddx, g⟩ := q3 r (List.mem_filter.mp hr).1
      exact ⟨ddx, fr _ _ g (ne_of g q1 (by intro z; cases z))⟩⟩
theorem ok_a3 (h : Has K mg "answer_cancel" sA3 ["stock", "given"]) (T : Txt K mg CL CD CS) (TB : TxtB K mg CU CT) : Ok P w K mg base 1 "answer_cancel" ["stock", "given"] (spAns CL CD CU CT mkCancel) := by
  refine h.ok scA3 (fun vs H Q E h => ?_) (fun f cdv A outer s H vs Q E hr h => ?_)
  · obtain ⟨S, E, s, g, args, c, rfl, _⟩ := h
    rfl
  · obtain ⟨S, E, st, g, args, c, rfl, hS, hg, hmk, hu, k⟩ := h
    have huu := hu_of hr
    refine ⟨_, pss_cons (ps_if (pt_cmp (pc_dnotin huu (pe_ix ix_list (pv 1) pe_int (fun _ _ => rfl)) (pe_fld (pv 0) rfl))) (pss_one (ps_ret (pe_lst (pa_cons (pe_gi (TB.gi ("NO_SUCH_DEMAND", -4) (by decide))) pa_nil)))) pss_nil)
      (pss_cons (ps_set (i := 2) scA3.nd rfl (Or.inl rfl) (pe_dpop1 (pe_fld (pv 0) rfl) (pe_ix ix_list (pv 1) pe_int (fun _ _ => rfl)) ⟨rfl, rfl, rfl, rfl⟩))
      (pss_one (ps_ret (pe_lst (pa_cons (pe_fld (pv 2) rfl) pa_nil))))), ?_⟩
    obtain ⟨dx, hobj⟩ := hS.obj
    obtain ⟨n, rfl, rfl⟩ := mk1 hmk
    obtain ⟨kvs, hd, hcase⟩ := hS.dem n
    have hstep : Vblaak.step st (.cancel n) = match Vblaak.demandAt st n with | none => (st, [-4]) | some x => (Vblaak.without st x.num, Vblaak.ints [x.n]) := rfl
    refine ⟨_, rfl, g, _, _, _, rfl, rfl, SqL.of hg, at_of (j := 0) (v := .int n) rfl rfl, _, rfl, S, CT, dx, _, _, rfl, hobj, TB.stk.cl, TB.stk.no _ (by decide), rfl, E.da, _, rfl, DGet.k (k := Sum.inl n) hd, _, rfl, ?_⟩
    rcases hcase with ⟨hv, hat⟩ | ⟨p, x, hv, hat, hdm, hk, hxm, hnext⟩
    · rw [hv]
      refine iteT ⟨(by show 1 ≤ sizeLine; decide), fun p hp => k.no hS (xs := [-4]) (by rw [hstep, hat]) (Same.refl _) hp⟩
    · rw [hv]
      refine iteF ?_
      refine ⟨_, rfl, S, CT, dx, _, _, rfl, hobj, TB.stk.cl, TB.stk.no _ (by decide), rfl, E.da, rfl, .inl ⟨_, .inl hd⟩, _, rfl, g, _, _, _, rfl, rfl, SqL.of hg, at_of (j := 0) (v := .int n) rfl rfl, _, Sum.inl n, _, hd, rfl, hv, ?_⟩
      obtain ⟨ddx, hdm⟩ := hdm
      have hpd : p ≠ E.da := ne_of hdm hd (by intro z; cases z)
      obtain ⟨a1, hS1⟩ := hnext (upd H E.da (.dK (dropK kvs (Sum.inl n)))) (fun b o e hb => by rw [upd_ne hb]; exact e) upd_same
      refine ⟨_, rfl, p, CD, ddx, _, _, rfl, (upd_ne hpd).trans hdm, T.dem.cl, T.dem.no _ (by decide), rfl, (by show 1 ≤ sizeLine; decide), fun p5 hp5 => ?_⟩
      exact k.go (s' := Vblaak.without st x.num) (xs := Vblaak.ints [x.n]) (by rw [hstep, hat]) a1 hS1 hp5 (same_new hp5) upd_same
end
end Rs
end
section
set_option maxHeartbeats 2000000
namespace Rs
open PySem PySem.Spec PyProof.Rows L2
open Vblaak (Lot Demand Stock Use lotAt between isArticle isDay isLot inOrder demandsOf lessened)
open Vb (chunk mplan mleft subs sub1 cvr lf lotLt demLt lastOf Sh ordOf lackSum)
section
variable {P : Program} {w : World} {K : PySem.W.Frag} {mg : Str → Option Value} {base : Heap} {CL CD CS CU CT : Addr}
/-! bears -/
abbrev sA7 : Stmt := top 52
theorem scA7 : FnScope ["stock", "given", "demand"] ["stock", "given"] (defScope sA7) := ⟨rfl, rfl, rfl, by decide +kernel, rfl, by decide +kernel, by decide +kernel⟩
theorem lack_mono (s : Stock) (a d n : Nat) : Vblaak.lacks s a ≤ Vblaak.lacks (Vblaak.withDemand s a d n) a := by
  have h := Vb.mono (L := Vb.lackN s a d) (Vb.lackN_convex s a d) n 0
  rw [Nat.zero_add, Vb.lackN_zero] at h
  exact h
theorem ok_a7 (h : Has K mg "answer_bears" sA7 ["stock", "given"]) (T : Txt K mg CL CD CS) (TB : TxtB K mg CU CT) (G3 : Ok P w K mg base 2 "is_article_day_doses" ["given"] spADD) (GN : OkM P w K mg base CT 3 "next_demand" ["self", "article", "day", "doses"] (spNd CL CD CU CT))
    (GL : OkM P w K mg base CT 8 "lack_more_with" ["self", "demand"] (spLw CL CD CU CT)) : Ok P w K mg base 9 "answer_bears" ["stock", "given"] (spAns CL CD CU CT mkBears) := by
  refine h.ok scA7 (fun vs H Q E h => ?_) (fun f cdv A outer s H vs Q E hr h => ?_)
  · obtain ⟨S, E, s, g, args, c, rfl, _⟩ := h
    rfl
  · obtain ⟨S, E, st, g, args, c, rfl, hS, hg, hmk, hu, k⟩ := h
    have hr2 : Room 2 _ := hr.mono (by decide)
    have hr3 : Room 3 _ := hr.mono (by decide)
    refine ⟨_, pss_cons (ps_if (pt_not (pt_val (pe_ok G3 hr2 (pa_cons (pv 1) pa_nil)))) (pss_one (ps_ret (pe_lst (pa_cons (pe_gi (TB.gi ("OUT_OF_RANGE", -1) (by decide))) pa_nil)))) pss_nil) <|
      pss_cons (ps_if (pt_cmpR op_lt (pe_ix ix_list (pv 1) pe_int (fun _ _ => rfl)) (pe_fld (pv 0) rfl) (nomark _)) (pss_one (ps_ret (pe_lst (pa_cons (pe_gi (TB.gi ("BEFORE_TODAY", -3) (by decide))) pa_nil)))) pss_nil) <|
      pss_cons (ps_set (i := 2) scA7.nd rfl (Or.inl rfl) (pe_okM GN TB.stk.cl hr3 (pv 0) (pa_cons (pe_ix ix_list (pv 1) pe_int (fun _ _ => rfl)) (pa_cons (pe_ix ix_list (pv 1) pe_int (fun _ _ => rfl)) (pa_cons (pe_ix ix_list (pv 1) pe_int (fun _ _ => rfl)) pa_nil))))) <|
      pss_one (ps_ret (pe_lst (pa_cons (pe_ifExp (pt_cmpR op_eq (pe_okM GL TB.stk.cl hr (pv 0) (pa_cons (pv 2) pa_nil)) pe_int (nomark _)) pe_int pe_int) pa_nil))), ?_⟩
    obtain ⟨dx, hobj⟩ := hS.obj
    obtain ⟨a, d, n, rfl, rfl⟩ := mk3 hmk
    have hstep : Vblaak.step st (.bears a d n) = if (isArticle a && (isDay d && between n 1 1000)) = false then (st, [-1]) else if d < (st.today : Int) then (st, [-3]) else (st, [if Vblaak.bears st a.toNat d.toNat n.toNat = true then 1 else 0]) := rfl
    refine ⟨_, rfl, g, a, d, n, [], rfl, hg, _, rfl, ?_⟩
    cases hc : (isArticle a && (isDay d && between n 1 1000)) with
    | false => exact iteT ⟨(by show 1 ≤ sizeLine; decide), fun p hp => k.no hS (xs := [-1]) (by rw [hstep, if_pos hc]) (Same.refl _) hp⟩
    | true =>
      refine iteF ?_
      rw [if_neg (by rw [hc]; simp)] at hstep
      refine ⟨_, rfl, g, _, _, _, rfl, rfl, SqL.of hg, at_of (j := 1) (v := .int d) rfl rfl, _, rfl, S, CT, dx, _, _, rfl, hobj, TB.stk.cl, TB.stk.no _ (by decide), rfl, _, _, rfl, rfl, _, rfl, ?_⟩
      refine ite2 (fun h7 => ?_) fun h7 => ?_
      · refine ⟨(by show 1 ≤ sizeLine; decide), fun p hp => k.no hS (xs := [-3]) ?_ (Same.refl _) hp⟩
        rw [hstep, if_pos (of_decide_eq_true h7)]
      · rw [if_neg (fun z => h7 (decide_eq_true z))] at hstep
        obtain ⟨a', d', n', rfl, rfl, rfl⟩ := add3_nat hc
        refine ⟨_, rfl, S, dx, _, rfl, hobj, rfl, _, rfl, g, _, _, _, rfl, rfl, SqL.of hg, at_of (j := 0) (v := .int a') rfl rfl, _, rfl, g, _, _, _, rfl, rfl, SqL.of hg, at_of (j := 1) (v := .int d') rfl rfl, _, rfl, g, _, _, _, rfl, rfl, SqL.of hg, at_of (j := 2) (v := .int n') rfl rfl, S, E, st, a', d', n', rfl, hS, fun H1 p s1 hp hdm => ?_⟩
        refine ⟨_, rfl, S, dx, _, rfl, s1 _ _ hobj, rfl, _, rfl, S, E, st, p, _, rfl, hS.same s1, hdm, Nat.lt_succ_self _, fun H2 s2 => ⟨rfl, _, rfl, ?_⟩⟩
        rw [lackIf_with, dec_int]
        have hm := lack_mono st a' d' n'
        have hb : Vblaak.bears st a' d' n' = decide (Vblaak.lacks (Vblaak.withDemand st a' d' n') a' ≤ Vblaak.lacks st a') := rfl
        refine ite2 (fun h8 => ?_) fun h8 => ?_
        · have h8' : (Vblaak.lacks (Vblaak.withDemand st a' d' n') a' : Int) - (Vblaak.lacks st a' : Int) = 0 := by simpa using h8
          refine ⟨(by show 1 ≤ sizeLine; decide), fun p5 hp5 => k.no hS (xs := [1]) ?_ (s1.trans s2) hp5⟩
          rw [hstep]
          simp only [Int.toNat_natCast]
          rw [if_pos (by rw [hb]; exact decide_eq_true (by omega))]
        · have h8' : ¬ (Vblaak.lacks (Vblaak.withDemand st a' d' n') a' : Int) - (Vblaak.lacks st a' : Int) = 0 := by simpa using h8
          refine ⟨(by show 1 ≤ sizeLine; decide), fun p5 hp5 => k.no hS (xs := [0]) ?_ (s1.trans s2) hp5⟩
          rw [hstep]
          simp only [Int.toNat_natCast]
          rw [if_neg (by rw [hb]; intro z; have := of_decide_eq_true z; omega)]
/-! spare -/
abbrev sA8 : Stmt := top 53
theorem scA8 : FnScope ["stock", "given", "greatest"] ["stock", "given"] (defScope sA8) := ⟨rfl, rfl, rfl, by decide +kernel, rfl, by decide +kernel, by decide +kernel⟩
theorem ok_a8 (h : Has K mg "answer_spare" sA8 ["stock", "given"]) (T : Txt K mg CL CD CS) (TB : TxtB K mg CU CT) (GA : Ok P w K mg base 1 "is_article" ["number"] (spBt 1 8)) (GD : Ok P w K mg base 1 "is_day" ["number"] (spBt 0 400)) (GN : OkM P w K mg base CT 3 "next_demand" ["self", "article", "day", "doses"] (spNd CL CD CU CT))
    (GL : OkM P w K mg base CT 8 "lack_more_with" ["self", "demand"] (spLw CL CD CU CT)) : Ok P w K mg base 9 "answer_spare" ["stock", "given"] (spAns CL CD CU CT mkSpare) := by
  refine h.ok scA8 (fun vs H Q E h => ?_) (fun f cdv A outer s H vs Q E hr h => ?_)
  · obtain ⟨S, E, s, g, args, c, rfl, _⟩ := h
    rfl
  · obtain ⟨S, E, st, g, args, c, rfl, hS, hg, hmk, hu, k⟩ := h
    have hr1 : Room 1 _ := hr.mono (by decide)
    have hr3 : Room 3 _ := hr.mono (by decide)
    refine ⟨_, pss_cons (ps_if (pt_not (PW.pt (pw_and (pt_val (pe_ok GA hr1 (pa_cons (pe_ix ix_list (pv 1) pe_int (fun _ _ => rfl)) pa_nil))) (pw_and1 (pt_val (pe_ok GD hr1 (pa_cons (pe_ix ix_list (pv 1) pe_int (fun _ _ => rfl)) pa_nil))))))) (pss_one (ps_ret (pe_lst (pa_cons (pe_gi (TB.gi ("OUT_OF_RANGE", -1) (by decide))) pa_nil)))) pss_nil) <|
      pss_cons (ps_if (pt_cmpR op_lt (pe_ix ix_list (pv 1) pe_int (fun _ _ => rfl)) (pe_fld (pv 0) rfl) (nomark _)) (pss_one (ps_ret (pe_lst (pa_cons (pe_gi (TB.gi ("BEFORE_TODAY", -3) (by decide))) pa_nil)))) pss_nil) <|
      pss_cons (ps_set (i := 2) scA8.nd rfl (Or.inl rfl) (pe_okM GN TB.stk.cl hr3 (pv 0) (pa_cons (pe_ix ix_list (pv 1) pe_int (fun _ _ => rfl)) (pa_cons (pe_ix ix_list (pv 1) pe_int (fun _ _ => rfl)) (pa_cons (pe_gi (TB.gi ("MOST_DOSES", 1000) (by decide))) pa_nil))))) <|
      pss_one (ps_ret (pe_lst (pa_cons (pe_op op_sub (pe_gi (TB.gi ("MOST_DOSES", 1000) (by decide))) (pe_okM GL TB.stk.cl hr (pv 0) (pa_cons (pv 2) pa_nil))) pa_nil))), ?_⟩
    obtain ⟨dx, hobj⟩ := hS.obj
    obtain ⟨a, d, rfl, rfl⟩ := mk2 hmk
    have hstep : Vblaak.step st (.spare a d) = if (isArticle a && isDay d) = false then (st, [-1]) else if d < (st.today : Int) then (st, [-3]) else (st, Vblaak.ints [Vblaak.spare st a.toNat d.toNat]) := rfl
    have no1 : (isArticle a && isDay d) = false → ∀ p, H p = none → Q (.ref p) (upd H p (.lst [.int (-1)])) := fun e p hp => k.no hS (xs := [-1]) (by rw [hstep, if_pos e]) (Same.refl _) hp
    refine ⟨_, rfl, g, _, _, _, rfl, rfl, SqL.of hg, at_of (j := 0) (v := .int a) rfl rfl, a, rfl, _, rfl, ?_⟩
    refine ite2 (fun h1 => ?_) fun h1 => iteT ⟨(by show 1 ≤ sizeLine; decide), no1 (by show (between a 1 8 && _) = false; rw [Bool.eq_false_iff.mpr h1]; rfl)⟩
    refine ⟨_, rfl, g, _, _, _, rfl, rfl, SqL.of hg, at_of (j := 1) (v := .int d) rfl rfl, d, rfl, _, rfl, ?_⟩
    cases h2 : between d 0 400 with
    | false => exact iteT ⟨(by show 1 ≤ sizeLine; decide), no1 (by show (_ && between d 0 400) = false; rw [h2]; simp)⟩
    | true =>
      refine iteF ?_
      rw [if_neg (by show ¬ (between a 1 8 && between d 0 400) = false; rw [h1, h2]; simp)] at hstep
      refine ⟨_, rfl, g, _, _, _, rfl, rfl, SqL.of hg, at_of (j := 1) (v := .int d) rfl rfl, _, rfl, S, CT, dx, _, _, rfl, hobj, TB.stk.cl, TB.stk.no _ (by decide), rfl, _, _, rfl, rfl, _, rfl, ?_⟩
      refine ite2 (fun h7 => ?_) fun h7 => ?_
      · refine ⟨(by show 1 ≤ sizeLine; decide), fun p hp => k.no hS (xs := [-3]) ?_ (Same.refl _) hp⟩
        rw [hstep, if_pos (of_decide_eq_true h7)]
      · rw [if_neg (fun z => h7 (decide_eq_true z))] at hstep
        obtain ⟨a', rfl⟩ := nat_of h1 (by decide)
        obtain ⟨d', rfl⟩ := nat_of h2 (by decide)
        refine ⟨_, rfl, S, dx, _, rfl, hobj, rfl, _, rfl, g, _, _, _, rfl, rfl, SqL.of hg, at_of (j := 0) (v := .int a') rfl rfl, _, rfl, g, _, _, _, rfl, rfl, SqL.of hg, at_of (j := 1) (v := .int d') rfl rfl, S, E, st, a', d', 1000, rfl, hS, fun H1 p s1 hp hdm => ?_⟩
        refine ⟨_, rfl, S, dx, _, rfl, s1 _ _ hobj, rfl, _, rfl, S, E, st, p, _, rfl, hS.same s1, hdm, Nat.lt_succ_self _, fun H2 s2 => ⟨_, _, rfl, rfl, (by show 1 ≤ sizeLine; decide), fun p5 hp5 => ?_⟩⟩
        have e1 : (lackIf st a' [] [⟨st.given + 1, a', d', 1000⟩] : Int) - (Vblaak.lacks st a' : Int) = ((1000 - Vblaak.spare st a' d' : Nat) : Int) := by
          rw [lackIf_with]
          have := (Vb.spare_eq st a' d').1
          unfold Vb.lackN at this
          omega
        have e2 : (1000 : Int) - ((lackIf st a' [] [⟨st.given + 1, a', d', 1000⟩] : Int) - (Vblaak.lacks st a' : Int)) = (Vblaak.spare st a' d' : Int) := by
          rw [e1]
          have := (Vb.spare_eq st a' d').2
          omega
        have := k.no hS (xs := Vblaak.ints [Vblaak.spare st a' d']) (p := p5) (by rw [hstep]; rfl) (s1.trans s2) hp5
        show Q (.ref p5) (upd H2 p5 (.lst [.int ((1000 : Int) - ((lackIf st a' [] [⟨st.given + 1, a', d', 1000⟩] : Int) - (Vblaak.lacks st a' : Int)))]))
        rw [e2]
        exact this
/-! withdraw -/
abbrev sA12 : Stmt := top 57
theorem scA12 : FnScope ["stock", "given", "lot", "doses"] ["stock", "given"] (defScope sA12) := ⟨rfl, rfl, rfl, by decide +kernel, rfl, by decide +kernel, by decide +kernel⟩
theorem ok_a12 (h : Has K mg "answer_withdraw" sA12 ["stock", "given"]) (T : Txt K mg CL CD CS) (TB : TxtB K mg CU CT) (GI' : Ok P w K mg base 1 "is_lot" ["stock", "number"] (spIL CL CD CU CT)) (GW : OkM P w K mg base CT 1 "withdraw_lot" ["self", "lot"] (spWl CL CD CU CT))
    (GL : OkM P w K mg base CT 7 "lack_of" ["self", "article"] (spLof CL CD CU CT)) : Ok P w K mg base 8 "answer_withdraw" ["stock", "given"] (spAns CL CD CU CT mkWithdraw) := by
  refine h.ok scA12 (fun vs H Q E h => ?_) (fun f cdv A outer s H vs Q E hr h => ?_)
  · obtain ⟨S, E, s, g, args, c, rfl, _⟩ := h
    rfl
  · obtain ⟨S, E, st, g, args, c, rfl, hS, hg, hmk, hu, k⟩ := h
    have hr1 : Room 1 _ := hr.mono (by decide)
    refine ⟨_, pss_cons (ps_if (pt_not (pt_val (pe_ok GI' hr1 (pa_cons (pv 0) (pa_cons (pe_ix ix_list (pv 1) pe_int (fun _ _ => rfl)) pa_nil))))) (pss_one (ps_ret (pe_lst (pa_cons (pe_gi (TB.gi ("OUT_OF_RANGE", -1) (by decide))) pa_nil)))) pss_nil) <|
      pss_cons (ps_set (i := 2) scA12.nd rfl (Or.inl rfl) (pe_ix ix_list (pe_fld (pv 0) rfl) (pe_ix ix_list (pv 1) pe_int (fun _ _ => rfl)) (fun _ _ => rfl))) <|
      pss_cons (ps_set (i := 3) scA12.nd rfl (Or.inl rfl) (pe_okM GW TB.stk.cl hr1 (pv 0) (pa_cons (pv 2) pa_nil))) <|
      pss_one (ps_ret (pe_lst (pa_cons (pv 3) (pa_cons (pe_okM GL TB.stk.cl hr (pv 0) (pa_cons (pe_fld (pv 2) rfl) pa_nil)) pa_nil)))), ?_⟩
    obtain ⟨dx, hobj⟩ := hS.obj
    obtain ⟨i, rfl, rfl⟩ := mk1 hmk
    refine ⟨_, rfl, _, rfl, g, _, _, _, rfl, rfl, SqL.of hg, at_of (j := 0) (v := .int i) rfl rfl, S, E, st, i, rfl, hS, _, rfl, ?_⟩
    cases hl : isLot st i with
    | false =>
      refine iteT ⟨(by show 1 ≤ sizeLine; decide), fun p hp => k.no hS (xs := [-1]) ?_ (Same.refl _) hp⟩
      show (if isLot st i = false then _ else _) = _
      rw [if_pos hl]
    | true =>
      refine iteF ?_
      obtain ⟨n, rfl, hn⟩ := isLot_lt hl
      refine ⟨_, rfl, S, CT, dx, _, _, rfl, hobj, TB.stk.cl, TB.stk.no _ (by decide), rfl, _, rfl, g, _, _, _, rfl, rfl, SqL.of hg, at_of (j := 0) (v := .int n) rfl rfl, E.la, _, _, _, rfl, rfl, SqL.of hS.lots.1, at_of (j := n) (v := .ref (E.pa n)) rfl (by rw [List.getElem?_map, List.getElem?_range hn]; rfl), ?_⟩
      refine ⟨_, rfl, S, dx, _, rfl, hobj, rfl, _, rfl, S, E, st, n, rfl, hS, hn, fun H1 a1 hS1 => ?_⟩
      obtain ⟨dx1, hobj1⟩ := hS1.obj
      have hlen1 : (st.lots.modify n fun y => { y with left := 0 }).length = st.lots.length := by simp
      obtain ⟨ldx, hlo⟩ := hS1.lotAt (i := n) (by rw [hlen1]; exact hn)
      have eart : (lotAt (st.lots.modify n fun y => { y with left := 0 }) n).article = (lotAt st.lots n).article := (Vb.Stat.mod st.lots n fun _ => 0).art n
      rw [show ({ st with lots := st.lots.modify n (fun y => { y with left := 0 }), drawn := st.drawn + (lotAt st.lots n).left } : Stock).lots = st.lots.modify n (fun y => { y with left := 0 }) from rfl] at hlo
      refine ⟨_, rfl, _, rfl, S, dx1, _, rfl, hobj1, rfl, _, rfl, E.pa n, CL, ldx, _, _, rfl, hlo, T.lot.cl, T.lot.no _ (by decide), rfl, S, E, _, (lotAt st.lots n).article, by rw [eart]; rfl, hS1, fun H2 s2 => ⟨(by show 2 ≤ sizeLine; decide), fun p hp => ?_⟩⟩
      have hstep : Vblaak.step st (.withdraw (n : Int)) = (({ st with lots := st.lots.modify n (fun y => { y with left := 0 }), drawn := st.drawn + (lotAt st.lots n).left } : Stock), Vblaak.ints [(lotAt st.lots n).left, Vblaak.lacks { st with lots := st.lots.modify n (fun y => { y with left := 0 }), drawn := st.drawn + (lotAt st.lots n).left } (lotAt st.lots n).article]) := by
        show (if isLot st (n : Int) = false then _ else _) = _
        rw [if_neg (by rw [hl]; simp)]
        rfl
      exact k.go (H1 := H2) (E' := E) hstep (by show After S E st.lots.length H E (st.lots.modify n fun y => { y with left := 0 }).length H2; rw [hlen1]; exact a1.trans (After.same s2)) (hS1.same s2) hp (same_new hp) upd_same
/-! waste -/
abbrev sA14 : Stmt := top 59
theorem scA14 : FnScope ["stock", "given", "left", "lot"] ["stock", "given"] (defScope sA14) := ⟨rfl, rfl, rfl, by decide +kernel, rfl, by decide +kernel, by decide +kernel⟩
theorem sum_ix (l : List Lot) (a : Nat) : ((ixOf l a).map (lf l)).sum = ((l.filter fun x => x.article == a).map fun x => x.left).sum := by
  congr 1
  conv => rhs; rw [← lots_range l]
  rw [List.filter_map, List.map_map]
  rfl
theorem sub1_sum (f : Nat → Nat) (i k : Nat) : ∀ (ix : List Nat), ix.Nodup → i ∈ ix → k ≤ f i → (ix.map (sub1 f i k)).sum + k = (ix.map f).sum
  | [], _, h, _ => by simp at h
  | j :: r, hn, h, hk => by
    rw [List.nodup_cons] at hn
    rw [List.map_cons, List.map_cons, List.sum_cons, List.sum_cons]
    by_cases e : j = i
    · subst e
      rw [Vb.sub1_self]
      have : r.map (sub1 f j k) = r.map f := List.map_congr_left fun x hx => Vb.sub1_ne fun z => hn.1 (z ▸ hx)
      rw [this]
      omega
    · rcases List.mem_cons.mp h with z | z
      · exact (e z.symm).elim
      · have := sub1_sum f i k r hn.2 z hk
        rw [Vb.sub1_ne e]
        omega
theorem subs_sum : ∀ (ts : List (Nat × Nat)) (f : Nat → Nat) (ix : List Nat), ix.Nodup → (∀ e ∈ ts, e.1 ∈ ix) → Fits f ts → (ix.map (subs f ts)).sum + tsum ts = (ix.map f).sum
  | [], f, ix, _, _, _ => by simp [subs, tsum]
  | e :: r, f, ix, hn, hm, hf => by
    have h1 := subs_sum r (sub1 f e.1 e.2) ix hn (fun x hx => hm x (.tail _ hx)) hf.2
    have h2 := sub1_sum f e.1 e.2 ix hn (hm e (by simp)) hf.1
    have e1 : subs f (e :: r) = subs (sub1 f e.1 e.2) r := rfl
    have e2 : tsum (e :: r) = e.2 + tsum r := by unfold tsum; simp
    rw [e1, e2]
    omega
/-- what is left behind a plan, and what it serves -/
theorem left_sum (ord ix : List Nat) (cv : Nat → Nat → Bool) (hp : ord.Perm ix) (hn : ix.Nodup) : ∀ (ds : List Demand) (f : Nat → Nat), (ix.map (mleft ord cv f ds)).sum + servedSum (mplan ord cv f ds) = (ix.map f).sum
  | [], f => by simp [mleft, mplan, servedSum]
  | x :: r, f => by
    have h1 := left_sum ord ix cv hp hn r (subs f (chunk (fun i => cv i x.day) f ord x.n).1)
    have h2 := subs_sum (chunk (fun i => cv i x.day) f ord x.n).1 f ix hn (fun e he => hp.mem_iff.mp (Vb.chunk_mem he).1) (chunk_fits _ _ _ _ (hp.nodup_iff.mpr hn))
    have e1 : mleft ord cv f (x :: r) = mleft ord cv (subs f (chunk (fun i => cv i x.day) f ord x.n).1) r := rfl
    have e2 : servedSum (mplan ord cv f (x :: r)) = tsum (chunk (fun i => cv i x.day) f ord x.n).1 + servedSum (mplan ord cv (subs f (chunk (fun i => cv i x.day) f ord x.n).1) r) := by
      unfold servedSum
      show ((_ :: mplan ord cv _ r).map _).sum = _
      rw [List.map_cons, List.sum_cons]
    rw [e1, e2]
    omega
theorem waste_eq (s : Stock) (a : Nat) : (((Vblaak.planned s.lots (demandsOf s a)).2.filter fun x => x.article == a).map fun x => x.left).sum + servedSum (Vblaak.plan s a) = ((ixOf s.lots a).map (lf s.lots)).sum := by
  obtain ⟨h1, st⟩ := Vb.mleft_eq a (demandsOf s a) s.lots (Vb.demandsOf_article s a)
  rw [← sum_ix]
  have e : ixOf (Vblaak.planned s.lots (demandsOf s a)).2 a = ixOf s.lots a := by
    unfold ixOf
    rw [st.len]
    exact List.filter_congr fun i _ => by rw [st.art i]
  rw [e, h1, plan_m]
  exact left_sum _ _ _ (ord_perm _ _) (ixOf_nodup _ _) _ _
/-- what the shares of a plan take: at most as many lots as there are -/
theorem plan_len (s : Stock) (a : Nat) (hw : WF s) : (Vblaak.plan s a).length ≤ 40 ∧ ∀ x ∈ Vblaak.plan s a, x.2.1.length ≤ 40 ∧ ∀ e ∈ x.2.1, e.1 < s.lots.length := by
  refine ⟨?_, fun x hx => ?_⟩
  · unfold Vblaak.plan
    rw [Vb.planned_length]
    exact Nat.le_trans (Vb.demandsOf_length s a) hw.demN
  · have h1 := Vb.planned_took a (demandsOf s a) s.lots (Vb.demandsOf_article s a) x hx
    have hm : ∀ (ds : List Demand) (f : Nat → Nat), ∀ x ∈ mplan (ordOf s.lots a) (cvr s.lots) f ds, x.2.1.length ≤ (ordOf s.lots a).length := by
      intro ds
      induction ds with
      | nil => intro f x hx; simp [mplan] at hx
      | cons y r ih =>
        intro f x hx
        unfold mplan at hx
        rcases List.mem_cons.mp hx with e | hx
        · subst e; exact Vb.chunk_len _ _ _ _
        · exact ih _ x hx
    rw [plan_m] at hx
    have h2 := hm _ _ x hx
    have h3 := (ord_perm s.lots a).length_eq
    have h4 := ixOf_len s.lots a
    have h5 := hw.lotsN
    exact ⟨by omega, fun e he => (h1 e he).1⟩
theorem ok_a14 (h : Has K mg "answer_waste" sA14 ["stock", "given"]) (T : Txt K mg CL CD CS) (TB : TxtB K mg CU CT) (GA : Ok P w K mg base 1 "is_article" ["number"] (spBt 1 8)) (GL : OkM P w K mg base CT 1 "lots_of" ["self", "article"] (spLo CL CD CU CT)) (GS : OkM P w K mg base CT 6 "shares_of" ["self", "article"] (spSo CL CD CS CU CT))
    (GV : Ok P w K mg base 2 "doses_served" ["shares"] (spSv CS CD)) : Ok P w K mg base 7 "answer_waste" ["stock", "given"] (spAns CL CD CU CT mkWaste) := by
  refine h.ok scA14 (fun vs H Q E h => ?_) (fun f cdv A outer s H vs Q E hr h => ?_)
  · obtain ⟨S, E, s, g, args, c, rfl, _⟩ := h
    rfl
  · obtain ⟨S, E, st, g, args, c, rfl, hS, hg, hmk, hu, k⟩ := h
    have hr1 : Room 1 _ := hr.mono (by decide)
    have hr2 : Room 2 _ := hr.mono (by decide)
    refine ⟨_, pss_cons (ps_if (pt_not (pt_val (pe_ok GA hr1 (pa_cons (pe_ix ix_list (pv 1) pe_int (fun _ _ => rfl)) pa_nil)))) (pss_one (ps_ret (pe_lst (pa_cons (pe_gi (TB.gi ("OUT_OF_RANGE", -1) (by decide))) pa_nil)))) pss_nil) <|
      pss_cons (ps_set (i := 2) scA14.nd rfl (Or.inl rfl) (pe_callB (cr_sum rfl) (by rfl) (T.blt _ (by decide)) PyProof.Rows.boot_sum (pa_cons (pe_lc' [("lot", 3)] (gName 3) rfl scA14.nd (pi_list (pe_okM GL TB.stk.cl hr1 (pv 0) (pa_cons (pe_ix ix_list (pv 1) pe_int (fun _ _ => rfl)) pa_nil))) rfl
        (fun s H C cl fp => pg_name (i := 3) scA14.nd rfl (Or.inl rfl) (Or.inr rfl)) (fun s H C cl fp => pts_nil) (fun s H C cl fp => pe_fldK K (pv 3))) pa_nil))) <|
      pss_one (ps_ret (pe_lst (pa_cons (pe_op op_sub (pv 2) (pe_ok GV hr2 (pa_cons (pe_okM GS TB.stk.cl hr (pv 0) (pa_cons (pe_ix ix_list (pv 1) pe_int (fun _ _ => rfl)) pa_nil)) pa_nil))) pa_nil))), ?_⟩
    obtain ⟨dx, hobj⟩ := hS.obj
    obtain ⟨a, rfl, rfl⟩ := mk1 hmk
    have hstep : Vblaak.step st (.waste a) = if isArticle a = false then (st, [-1]) else (st, Vblaak.ints [(((Vblaak.planned st.lots (demandsOf st a.toNat)).2.filter fun x => x.article == a.toNat).map fun x => x.left).sum]) := rfl
    refine ⟨_, rfl, g, _, _, _, rfl, rfl, SqL.of hg, at_of (j := 0) (v := .int a) rfl rfl, a, rfl, _, rfl, ?_⟩
    cases hc : between a 1 8 with
    | false => exact iteT ⟨(by show 1 ≤ sizeLine; decide), fun p hp => k.no hS (xs := [-1]) (by rw [hstep, if_pos (show isArticle a = false from hc)]) (Same.refl _) hp⟩
    | true =>
      refine iteF ?_
      rw [if_neg (by show ¬ between a 1 8 = false; rw [hc]; simp)] at hstep
      obtain ⟨a', rfl⟩ := nat_of hc (by decide)
      refine ⟨_, rfl, S, dx, _, rfl, hobj, rfl, _, rfl, g, _, _, _, rfl, rfl, SqL.of hg, at_of (j := 0) (v := .int a') rfl rfl, S, E, st, a', rfl, hS, fun H1 t1 s1 ht1 hl1 => ⟨t1, rfl, ⟨_, SqL.of hl1.1⟩, fun D hD => ?_⟩⟩
      have hix := ixOf_len st.lots a'
      have hl40 := hS.wf.lotsN
      refine lc_l (ixOf st.lots a') (fun i => V.ref (E.pa i)) (fun i => some (V.int (lf st.lots i : Nat))) hD (SqL.of hl1.1) (small1000 (by omega)) (fun i H' Nx hi s2 kp kn => ?_) (fun H2 s2 hl2 => ?_)
      · obtain ⟨ldx, gg⟩ := (hl1.2 i hi).same s2
        exact ⟨rfl, _, rfl, E.pa i, CL, ldx, _, _, rfl, gg, T.lot.cl, T.lot.no _ (by decide), rfl, kp H' _ (Same.refl _) rfl⟩
      have s02 := s1.trans s2
      refine ⟨D, (ixOf st.lots a').map fun i => ((lf st.lots i : Nat) : Int), rfl, SqL.of (by rw [hl2, List.map_map, List.filterMap_eq_map']; rfl), ?_⟩
      refine ⟨_, rfl, _, rfl, S, dx, _, rfl, s02 _ _ hobj, rfl, _, rfl, g, _, _, _, rfl, rfl, SqL.of (s02 _ _ hg), at_of (j := 0) (v := .int a') rfl rfl, S, E, st, a', rfl, hS.same s02, fun H3 t3 s3 ht3 hsh => ?_⟩
      obtain ⟨pl1, pl2⟩ := plan_len st a' hS.wf
      refine ⟨t3, E.pa, _, rfl, hsh, by omega, fun x hx => by have := (pl2 x hx).1; omega, fun H4 s4 => ⟨_, _, rfl, rfl, (by show 1 ≤ sizeLine; decide), fun p hp => ?_⟩⟩
      have e1 : ((ixOf st.lots a').map fun i => ((lf st.lots i : Nat) : Int)).sum = ((((ixOf st.lots a').map (lf st.lots)).sum : Nat) : Int) := by
        rw [← int_sum, List.map_map]; rfl
      have hw := waste_eq st a'
      have e2 : ((ixOf st.lots a').map fun i => ((lf st.lots i : Nat) : Int)).sum - ((servedSum (Vblaak.plan st a') : Nat) : Int) = (((((Vblaak.planned st.lots (demandsOf st a')).2.filter fun x => x.article == a').map fun x => x.left).sum : Nat) : Int) := by
        rw [e1]; omega
      have := k.no hS (xs := Vblaak.ints [(((Vblaak.planned st.lots (demandsOf st a')).2.filter fun x => x.article == a').map fun x => x.left).sum]) (p := p) (by rw [hstep]; rfl) ((s02.trans s3).trans s4) hp
      show Q (.ref p) (upd H4 p (.lst [.int (((ixOf st.lots a').map fun i => ((lf st.lots i : Nat) : Int)).sum - ((servedSum (Vblaak.plan st a') : Nat) : Int))]))
      rw [e2]
      exact this
end
end Rs
end
section
set_option maxHeartbeats 2000000
namespace Rs
open PySem PySem.Spec PyProof.Rows L2
open Vblaak (Lot Demand Stock Use lotAt between isArticle isDay isLot inOrder demandsOf lessened)
open Vb (chunk mplan mleft subs sub1 cvr lf lotLt demLt lastOf Sh ordOf lackSum)
section
variable {P : Program} {w : World} {K : PySem.W.Frag} {mg : Str → Option Value} {base : Heap} {CL CD CS CU CT : Addr}
theorem served_now (s : Stock) (a n : Nat) : Vblaak.served s.lots a s.today n = (lessened s.lots (tkn s a n).1, tkn s a n) := Vb.served_eq s.lots a s.today n
theorem nats_ints (ns : List Nat) : nats ns = (Vblaak.ints ns).map V.int := by unfold nats Vblaak.ints; rw [List.map_map]; rfl
/-! take -/
abbrev sA9 : Stmt := top 54
theorem scA9 : FnScope ["stock", "given", "demand", "taken"] ["stock", "given"] (defScope sA9) := ⟨rfl, rfl, rfl, by decide +kernel, rfl, by decide +kernel, by decide +kernel⟩
theorem ok_a9 (h : Has K mg "answer_take" sA9 ["stock", "given"]) (T : Txt K mg CL CD CS) (TB : TxtB K mg CU CT) (GN : OkM P w K mg base CT 5 "takeable_now" ["self", "article", "doses"] (spTn CL CD CU CT)) (GD : Ok P w K mg base 1 "doses_of" ["taken"] spDo)
    (GU : OkM P w K mg base CT 3 "add_use" ["self", "article", "taken"] (spAu CL CD CU CT)) (GT : Ok P w K mg base 1 "tell_taken" ["taken"] (spTel CL)) : Ok P w K mg base 6 "answer_take" ["stock", "given"] (spAns CL CD CU CT mkTake) := by
  refine h.ok scA9 (fun vs H Q E h => ?_) (fun f cdv A outer s H vs Q E hr h => ?_)
  · obtain ⟨S, E, s, g, args, c, rfl, _⟩ := h
    rfl
  · obtain ⟨S, E, st, g, args, c, rfl, hS, hg, hmk, hu, k⟩ := h
    have huu := hu_of hr
    have hr1 : Room 1 _ := hr.mono (by decide)
    have hr3 : Room 3 _ := hr.mono (by decide)
    refine ⟨_, pss_cons (ps_if (pt_cmp (pc_dnotin huu (pe_ix ix_list (pv 1) pe_int (fun _ _ => rfl)) (pe_fld (pv 0) rfl))) (pss_one (ps_ret (pe_lst (pa_cons (pe_gi (TB.gi ("NO_SUCH_DEMAND", -4) (by decide))) pa_nil)))) pss_nil) <|
      pss_cons (ps_set (i := 2) scA9.nd rfl (Or.inl rfl) (pe_dget huu (pe_fld (pv 0) rfl) (pe_ix ix_list (pv 1) pe_int (fun _ _ => rfl)) (fun _ _ => rfl))) <|
      pss_cons (ps_if (pt_cmpR op_ne (pe_fld (pv 2) rfl) (pe_fld (pv 0) rfl) (nomark _)) (pss_one (ps_ret (pe_lst (pa_cons (pe_gi (TB.gi ("NOT_TODAY", -5) (by decide))) pa_nil)))) pss_nil) <|
      pss_cons (ps_set (i := 3) scA9.nd rfl (Or.inl rfl) (pe_okM GN TB.stk.cl hr (pv 0) (pa_cons (pe_fld (pv 2) rfl) (pa_cons (pe_fld (pv 2) rfl) pa_nil)))) <|
      pss_cons (ps_if (pt_cmpR op_lt (pe_ok GD hr1 (pa_cons (pv 3) pa_nil)) (pe_fld (pv 2) rfl) (nomark _)) (pss_one (ps_ret (pe_lst (pa_cons (pe_gi (TB.gi ("TOO_FEW_LEFT", -7) (by decide))) pa_nil)))) pss_nil) <|
      pss_cons (ps_expr (pe_dpop1 (pe_fld (pv 0) rfl) (pe_fld (pv 2) rfl) ⟨rfl, rfl, rfl, rfl⟩)) <|
      pss_cons (ps_expr (pe_okM GU TB.stk.cl hr3 (pv 0) (pa_cons (pe_fld (pv 2) rfl) (pa_cons (pv 3) pa_nil)))) <|
      pss_one (ps_ret (pe_ok GT hr1 (pa_cons (pv 3) pa_nil))), ?_⟩
    obtain ⟨dx, hobj⟩ := hS.obj
    obtain ⟨n, rfl, rfl⟩ := mk1 hmk
    obtain ⟨kvs, hd, hcase⟩ := hS.dem n
    have hstep : Vblaak.step st (.take n) = match Vblaak.demandAt st n with | none => (st, [-4]) | some x => if x.day ≠ st.today then (st, [-5]) else if 0 < (Vblaak.served st.lots x.article st.today x.n).2.2 then (st, [-7]) else (Vblaak.used (Vblaak.without st x.num) x.article (Vblaak.served st.lots x.article st.today x.n), Vblaak.ints (Vblaak.tookRow (Vblaak.served st.lots x.article st.today x.n).2.1)) := rfl
    refine ⟨_, rfl, g, _, _, _, rfl, rfl, SqL.of hg, at_of (j := 0) (v := .int n) rfl rfl, _, rfl, S, CT, dx, _, _, rfl, hobj, TB.stk.cl, TB.stk.no _ (by decide), rfl, E.da, _, rfl, DGet.k (k := Sum.inl n) hd, _, rfl, ?_⟩
    rcases hcase with ⟨hv, hat⟩ | ⟨p, x, hv, hat, hdm, hk, hxm, hnext⟩
    · rw [hv]
      refine iteT ⟨(by show 1 ≤ sizeLine; decide), fun p hp => k.no hS (xs := [-4]) (by rw [hstep, hat]) (Same.refl _) hp⟩
    · rw [hv]
      refine iteF ?_
      rw [hat] at hstep
      have hstep2 : Vblaak.step st (.take n) = if x.day ≠ st.today then (st, [-5]) else if 0 < (Vblaak.served st.lots x.article st.today x.n).2.2 then (st, [-7]) else (Vblaak.used (Vblaak.without st x.num) x.article (Vblaak.served st.lots x.article st.today x.n), Vblaak.ints (Vblaak.tookRow (Vblaak.served st.lots x.article st.today x.n).2.1)) := hstep
      rw [served_now] at hstep2
      have hdm0 := hdm
      obtain ⟨ddx, hdm⟩ := hdm
      refine ⟨_, rfl, S, CT, dx, _, _, rfl, hobj, TB.stk.cl, TB.stk.no _ (by decide), rfl, _, rfl, g, _, _, _, rfl, rfl, SqL.of hg, at_of (j := 0) (v := .int n) rfl rfl, E.da, _, rfl, (by rw [← hv]; exact DGet.k (k := Sum.inl n) hd), ?_⟩
      refine ⟨_, rfl, p, CD, ddx, _, _, rfl, hdm, T.dem.cl, T.dem.no _ (by decide), rfl, _, rfl, S, CT, dx, _, _, rfl, hobj, TB.stk.cl, TB.stk.no _ (by decide), rfl, rfl, _, rfl, ?_⟩
      rw [eqI]
      by_cases hday : x.day = st.today
      · have : (!(x.day == st.today)) = false := by simp [hday]
        rw [this]
        refine iteF ?_
        rw [if_neg (by simp [hday])] at hstep2
        refine ⟨_, rfl, S, dx, _, rfl, hobj, rfl, _, rfl, p, CD, ddx, _, _, rfl, hdm, T.dem.cl, T.dem.no _ (by decide), rfl, _, rfl, p, CD, ddx, _, _, rfl, hdm, T.dem.cl, T.dem.no _ (by decide), rfl, S, E, st, x.article, x.n, rfl, hS, fun H1 t s1 ht htk => ?_⟩
        have hto := tkn_ok st x.article x.n
        have hlen := hto.len
        have hl40 := hS.wf.lotsN
        have hsum : tsum (tkn st x.article x.n).1 + (tkn st x.article x.n).2 = x.n := Vb.chunk_sum _ _ _ _
        refine ⟨_, rfl, t, E.pa, _, rfl, htk, by omega, fun H2 s2 => ?_⟩
        refine ⟨_, rfl, p, CD, ddx, _, _, rfl, s2 _ _ (s1 _ _ hdm), T.dem.cl, T.dem.no _ (by decide), rfl, _, _, rfl, rfl, _, rfl, ?_⟩
        have s02 := s1.trans s2
        rw [decLt]
        refine ite2 (fun h7 => ?_) fun h7 => ?_
        · have h7' := of_decide_eq_true h7
          refine ⟨(by show 1 ≤ sizeLine; decide), fun p5 hp5 => k.no hS (xs := [-7]) ?_ s02 hp5⟩
          rw [hstep2, if_pos]
          show 0 < (tkn st x.article x.n).2
          omega
        · have h7' : ¬ tsum (tkn st x.article x.n).1 < x.n := fun z => h7 (decide_eq_true z)
          have hz0 : ¬ 0 < (tkn st x.article x.n).2 := by
              omega
          rw [if_neg hz0] at hstep2
          have hd2 := s02 _ _ hd
          refine ⟨_, rfl, S, CT, dx, _, _, rfl, s02 _ _ hobj, TB.stk.cl, TB.stk.no _ (by decide), rfl, E.da, rfl, .inl ⟨_, .inl hd2⟩, _, rfl, p, CD, ddx, _, _, rfl, s02 _ _ hdm, T.dem.cl, T.dem.no _ (by decide), rfl, _, Sum.inl n, _, hd2, by rw [hk]; rfl, hv, ?_⟩
          -- behind the pop
          have hS2 := hS.same s02
          obtain ⟨kvs2, hd2', hc2⟩ := hS2.dem n
          rw [hd2] at hd2'
          cases hd2'
          rcases hc2 with ⟨hv2, _⟩ | ⟨p2, x2, hv2, hat2, _, _, _, hnext2⟩
          · rw [hv] at hv2; cases hv2
          · rw [hat] at hat2
            cases hat2
            obtain ⟨a3, hS3⟩ := hnext2 (upd H2 E.da (.dK (dropK kvs (Sum.inl n)))) (fun b o e hb => by rw [upd_ne hb]; exact e) upd_same
            obtain ⟨dx3, hobj3⟩ := hS3.obj
            have hdm3 : upd H2 E.da (.dK (dropK kvs (Sum.inl n))) p = some _ := (upd_ne (ne_of hdm hd (by intro z; cases z))).trans (s02 _ _ hdm)
            have htk3 : TakAt (upd H2 E.da (.dK (dropK kvs (Sum.inl n)))) E.pa t (tkn st x.article x.n).1 := (htk.same s2).dk (fun b o e hb => by rw [upd_ne hb]; exact e) hd2
            have htl : t ≠ E.la := fun e => by rw [e, hS.lots.1] at ht; cases ht
            have htu : t ≠ E.ua := fun e => by obtain ⟨us, u1, _⟩ := hS.uses; rw [e, u1] at ht; cases ht
            refine ⟨_, rfl, S, dx3, _, rfl, hobj3, rfl, _, rfl, p, CD, ddx, _, _, rfl, hdm3, T.dem.cl, T.dem.no _ (by decide), rfl, _, rfl, S, E, Vblaak.without st x.num, t, x.article, (tkn st x.article x.n).1, (tkn st x.article x.n).2, rfl, hS3, htk3, ⟨hto.mem, hto.fit, hto.nd⟩, htl, htu, (fun e => by have h0 := hS.wf.demQ x hxm; rw [e] at hsum; simp [tsum] at hsum; omega), hu, fun H4 a4 hS4 htk4 => ?_⟩
            refine ⟨_, rfl, t, E.pa, _, _, rfl, htk4, by omega, fun e he => hS4.lotAt (i := e.1) (by show e.1 < (lessened st.lots _).length; rw [lessened_len]; exact (hto.mem e he).1), fun H5 t5 s5 ht5 h5 => ?_⟩
            rw [nats_ints] at h5
            have hl4 : (Vblaak.used (Vblaak.without st x.num) x.article (lessened st.lots (tkn st x.article x.n).1, tkn st x.article x.n)).lots.length = st.lots.length := lessened_len _ _
            exact k.go (H1 := H4) (E' := E) hstep2 (by rw [hl4]; exact ((After.same s02).trans a3).trans a4) hS4 ht5 s5 h5
      · have : (!(x.day == st.today)) = true := by simp [hday]
        rw [this]
        refine iteT ⟨(by show 1 ≤ sizeLine; decide), fun p hp => k.no hS (xs := [-5]) ?_ (Same.refl _) hp⟩
        rw [hstep2, if_pos hday]
/-! use -/
abbrev sA10 : Stmt := top 55
theorem scA10 : FnScope ["stock", "given", "article", "doses", "taken"] ["stock", "given"] (defScope sA10) := ⟨rfl, rfl, rfl, by decide +kernel, rfl, by decide +kernel, by decide +kernel⟩
theorem ok_a10 (h : Has K mg "answer_use" sA10 ["stock", "given"]) (T : Txt K mg CL CD CS) (TB : TxtB K mg CU CT) (GA : Ok P w K mg base 1 "is_article" ["number"] (spBt 1 8)) (GO : Ok P w K mg base 1 "is_doses" ["number"] (spBt 1 1000)) (GN : OkM P w K mg base CT 5 "takeable_now" ["self", "article", "doses"] (spTn CL CD CU CT)) (GD : Ok P w K mg base 1 "doses_of" ["taken"] spDo)
    (GL : OkM P w K mg base CT 8 "lack_more_without" ["self", "article", "taken"] (spLwo CL CD CU CT)) (GU : OkM P w K mg base CT 3 "add_use" ["self", "article", "taken"] (spAu CL CD CU CT)) (GT : Ok P w K mg base 1 "tell_taken" ["taken"] (spTel CL)) : Ok P w K mg base 9 "answer_use" ["stock", "given"] (spAns CL CD CU CT mkUse) := by
  refine h.ok scA10 (fun vs H Q E h => ?_) (fun f cdv A outer s H vs Q E hr h => ?_)
  · obtain ⟨S, E, s, g, args, c, rfl, _⟩ := h
    rfl
  · obtain ⟨S, E, st, g, args, c, rfl, hS, hg, hmk, hu, k⟩ := h
    have hr1 : Room 1 _ := hr.mono (by decide)
    have hr3 : Room 3 _ := hr.mono (by decide)
    have hr5 : Room 5 _ := hr.mono (by decide)
    refine ⟨_, pss_cons (ps_set (i := 2) scA10.nd rfl (Or.inl rfl) (pe_ix ix_list (pv 1) pe_int (fun _ _ => rfl))) <| pss_cons (ps_set (i := 3) scA10.nd rfl (Or.inl rfl) (pe_ix ix_list (pv 1) pe_int (fun _ _ => rfl))) <|
      pss_cons (ps_if (pt_not (PW.pt (pw_and (pt_val (pe_ok GA hr1 (pa_cons (pv 2) pa_nil))) (pw_and1 (pt_val (pe_ok GO hr1 (pa_cons (pv 3) pa_nil))))))) (pss_one (ps_ret (pe_lst (pa_cons (pe_gi (TB.gi ("OUT_OF_RANGE", -1) (by decide))) pa_nil)))) pss_nil) <|
      pss_cons (ps_set (i := 4) scA10.nd rfl (Or.inl rfl) (pe_okM GN TB.stk.cl hr5 (pv 0) (pa_cons (pv 2) (pa_cons (pv 3) pa_nil)))) <|
      pss_cons (ps_if (pt_cmpR op_lt (pe_ok GD hr1 (pa_cons (pv 4) pa_nil)) (pv 3) (nomark _)) (pss_one (ps_ret (pe_lst (pa_cons (pe_gi (TB.gi ("TOO_FEW_LEFT", -7) (by decide))) pa_nil)))) pss_nil) <|
      pss_cons (ps_if (pt_cmpR op_gt (pe_okM GL TB.stk.cl hr (pv 0) (pa_cons (pv 2) (pa_cons (pv 4) pa_nil))) pe_int (nomark _)) (pss_one (ps_ret (pe_lst (pa_cons (pe_gi (TB.gi ("LACKS_MORE", -9) (by decide))) pa_nil)))) pss_nil) <|
      pss_cons (ps_expr (pe_okM GU TB.stk.cl hr3 (pv 0) (pa_cons (pv 2) (pa_cons (pv 4) pa_nil)))) <|
      pss_one (ps_ret (pe_ok GT hr1 (pa_cons (pv 4) pa_nil))), ?_⟩
    obtain ⟨dx, hobj⟩ := hS.obj
    obtain ⟨a, n, rfl, rfl⟩ := mk2 hmk
    have hstep : Vblaak.step st (.use a n) = if (isArticle a && between n 1 1000) = false then (st, [-1]) else if 0 < (Vblaak.served st.lots a.toNat st.today n.toNat).2.2 then (st, [-7]) else if Vblaak.lacks st a.toNat < Vblaak.lacks (Vblaak.used st a.toNat (Vblaak.served st.lots a.toNat st.today n.toNat)) a.toNat then (st, [-9]) else (Vblaak.used st a.toNat (Vblaak.served st.lots a.toNat st.today n.toNat), Vblaak.ints (Vblaak.tookRow (Vblaak.served st.lots a.toNat st.today n.toNat).2.1)) := rfl
    rw [served_now] at hstep
    have no1 : (isArticle a && between n 1 1000) = false → ∀ p, H p = none → Q (.ref p) (upd H p (.lst [.int (-1)])) := fun e p hp => k.no hS (xs := [-1]) (by rw [hstep, if_pos e]) (Same.refl _) hp
    refine ⟨_, rfl, g, _, _, _, rfl, rfl, SqL.of hg, at_of (j := 0) (v := .int a) rfl rfl, ?_⟩
    refine ⟨_, rfl, g, _, _, _, rfl, rfl, SqL.of hg, at_of (j := 1) (v := .int n) rfl rfl, ?_⟩
    refine ⟨_, rfl, a, rfl, _, rfl, ?_⟩
    refine ite2 (fun h1 => ?_) fun h1 => iteT ⟨(by show 1 ≤ sizeLine; decide), no1 (by show (between a 1 8 && _) = false; rw [Bool.eq_false_iff.mpr h1]; rfl)⟩
    refine ⟨_, rfl, n, rfl, _, rfl, ?_⟩
    cases h2 : between n 1 1000 with
    | false => exact iteT ⟨(by show 1 ≤ sizeLine; decide), no1 (by rw [h2]; simp)⟩
    | true =>
      refine iteF ?_
      rw [if_neg (by show ¬ (between a 1 8 && between n 1 1000) = false; rw [h1, h2]; simp)] at hstep
      obtain ⟨a', rfl⟩ := nat_of h1 (by decide)
      obtain ⟨n', rfl⟩ := nat_of h2 (by decide)
      simp only [Int.toNat_natCast] at hstep
      refine ⟨_, rfl, S, dx, _, rfl, hobj, rfl, _, rfl, _, rfl, S, E, st, a', n', rfl, hS, fun H1 t s1 ht htk => ?_⟩
      have hto := tkn_ok st a' n'
      have hlen := hto.len
      have hl40 := hS.wf.lotsN
      have hsum : tsum (tkn st a' n').1 + (tkn st a' n').2 = n' := Vb.chunk_sum _ _ _ _
      refine ⟨_, rfl, t, E.pa, _, rfl, htk, by omega, fun H2 s2 => ?_⟩
      refine ⟨_, rfl, _, _, rfl, rfl, _, rfl, ?_⟩
      have s02 := s1.trans s2
      rw [decLt]
      refine ite2 (fun h7 => ?_) fun h7 => ?_
      · have h7' := of_decide_eq_true h7
        refine ⟨(by show 1 ≤ sizeLine; decide), fun p5 hp5 => k.no hS (xs := [-7]) ?_ s02 hp5⟩
        rw [hstep, if_pos]
        show 0 < (tkn st a' n').2
        omega
      · have h7' : ¬ tsum (tkn st a' n').1 < n' := fun z => h7 (decide_eq_true z)
        have hz0 : ¬ 0 < (tkn st a' n').2 := by
            omega
        rw [if_neg hz0] at hstep
        refine ⟨_, rfl, S, dx, _, rfl, s02 _ _ hobj, rfl, _, rfl, _, rfl, S, E, st, t, a', _, rfl, hS.same s02, htk.same s2, hto, fun H3 s3 => ⟨_, _, rfl, rfl, _, rfl, ?_⟩⟩
        have s03 := s02.trans s3
        have elk : lackIf st a' (tkn st a' n').1 [] = Vblaak.lacks (Vblaak.used st a' (lessened st.lots (tkn st a' n').1, tkn st a' n')) a' := lackIf_used st a' _ _
        rw [elk]
        refine ite2 (fun h8 => ?_) fun h8 => ?_
        · have h8' := of_decide_eq_true h8
          refine ⟨(by show 1 ≤ sizeLine; decide), fun p5 hp5 => k.no hS (xs := [-9]) ?_ s03 hp5⟩
          rw [hstep, if_pos (by omega)]
        · have h8' : ¬ (0 < (Vblaak.lacks (Vblaak.used st a' (lessened st.lots (tkn st a' n').1, tkn st a' n')) a' : Int) - (Vblaak.lacks st a' : Int)) := fun z => h8 (decide_eq_true z)
          rw [if_neg (by omega)] at hstep
          have htl : t ≠ E.la := fun e => by rw [e, hS.lots.1] at ht; cases ht
          have htu : t ≠ E.ua := fun e => by obtain ⟨us, u1, _⟩ := hS.uses; rw [e, u1] at ht; cases ht
          refine ⟨_, rfl, S, dx, _, rfl, s03 _ _ hobj, rfl, _, rfl, _, rfl, S, E, st, t, a', (tkn st a' n').1, (tkn st a' n').2, rfl, hS.same s03, htk.same (s2.trans s3), hto, htl, htu, (fun e => by have h0 := betw.mp h2; rw [e] at hsum; simp [tsum] at hsum; omega), hu, fun H4 a4 hS4 htk4 => ?_⟩
          refine ⟨_, rfl, t, E.pa, _, _, rfl, htk4, by omega, fun e he => hS4.lotAt (i := e.1) (by show e.1 < (lessened st.lots _).length; rw [lessened_len]; exact (hto.mem e he).1), fun H5 t5 s5 ht5 h5 => ?_⟩
          rw [nats_ints] at h5
          have hl4 : (Vblaak.used st a' (lessened st.lots (tkn st a' n').1, tkn st a' n')).lots.length = st.lots.length := lessened_len _ _
          exact k.go (H1 := H4) (E' := E) hstep (by rw [hl4]; exact (After.same s03).trans a4) hS4 ht5 s5 h5
/-! today -/
abbrev sA11 : Stmt := top 56
theorem scA11 : FnScope ["stock", "given", "day"] ["stock", "given"] (defScope sA11) := ⟨rfl, rfl, rfl, by decide +kernel, rfl, by decide +kernel, by decide +kernel⟩
theorem ok_a11 (h : Has K mg "answer_today" sA11 ["stock", "given"]) (T : Txt K mg CL CD CS) (TB : TxtB K mg CU CT) (GD : Ok P w K mg base 1 "is_day" ["number"] (spBt 0 400)) (GT : OkM P w K mg base CT 1 "throw_away_before" ["self", "day"] (spTa CL CD CU CT))
    (GR : OkM P w K mg base CT 1 "drop_demands_before" ["self", "day"] (spDd CL CD CU CT)) : Ok P w K mg base 2 "answer_today" ["stock", "given"] (spAns CL CD CU CT mkToday) := by
  refine h.ok scA11 (fun vs H Q E h => ?_) (fun f cdv A outer s H vs Q E hr h => ?_)
  · obtain ⟨S, E, s, g, args, c, rfl, _⟩ := h
    rfl
  · obtain ⟨S, E, st, g, args, c, rfl, hS, hg, hmk, hu, k⟩ := h
    refine ⟨_, pss_cons (ps_set (i := 2) scA11.nd rfl (Or.inl rfl) (pe_ix ix_list (pv 1) pe_int (fun _ _ => rfl))) <|
      pss_cons (ps_if (pt_not (PW.pt (pw_and (pt_cmpR op_le (pe_fld (pv 0) rfl) (pv 2) (nomark _)) (pw_and1 (pt_val (pe_ok GD hr (pa_cons (pv 2) pa_nil))))))) (pss_one (ps_ret (pe_lst (pa_cons (pe_gi (TB.gi ("OUT_OF_RANGE", -1) (by decide))) pa_nil)))) pss_nil) <|
      pss_cons (ps_fld (pv 0) (pv 2) rfl) <|
      pss_one (ps_ret (pe_lst (pa_cons (pe_okM GT TB.stk.cl hr (pv 0) (pa_cons (pv 2) pa_nil)) (pa_cons (pe_okM GR TB.stk.cl hr (pv 0) (pa_cons (pv 2) pa_nil)) pa_nil)))), ?_⟩
    obtain ⟨dx, hobj⟩ := hS.obj
    obtain ⟨d, rfl, rfl⟩ := mk1 hmk
    have ap := hS.apart
    have hstep0 : between d (st.today : Int) 400 = false → Vblaak.step st (.today d) = (st, [-1]) := fun e => by
      show (if between d (st.today : Int) 400 = false then _ else _) = _
      rw [if_pos e]
    refine ⟨_, rfl, g, _, _, _, rfl, rfl, SqL.of hg, at_of (j := 0) (v := .int d) rfl rfl, ?_⟩
    refine ⟨_, rfl, S, CT, dx, _, _, rfl, hobj, TB.stk.cl, TB.stk.no _ (by decide), rfl, _, rfl, _, _, rfl, rfl, _, rfl, ?_⟩
    refine ite2 (fun h1 => ?_) fun h1 => iteT ⟨(by show 1 ≤ sizeLine; decide), fun p hp => k.no hS (xs := [-1]) (hstep0 (betwF.mpr fun z => h1 (decide_eq_true z.1))) (Same.refl _) hp⟩
    refine ⟨_, rfl, d, rfl, _, rfl, ?_⟩
    cases h2 : between d 0 400 with
    | false => exact iteT ⟨(by show 1 ≤ sizeLine; decide), fun p hp => k.no hS (xs := [-1]) (hstep0 (betwF.mpr fun z => (betwF.mp h2) (by omega))) (Same.refl _) hp⟩
    | true =>
      refine iteF ?_
      obtain ⟨d', rfl⟩ := nat_of h2 (by decide)
      have hb : between (d' : Int) (st.today : Int) 400 = true := betw.mpr ⟨of_decide_eq_true h1, (betw.mp h2).2⟩
      refine ⟨_, rfl, _, rfl, S, CT, dx, _, rfl, hobj, TB.stk.cl, TB.stk.no _ (by decide), (by show 7 < 1000; decide), ?_⟩
      have hlo1 : ∀ i, i < st.lots.length → LotAt CL (upd H S (.ins CT dx (putF "today" (.int (d' : Nat)) (stkF st.today E.la E.da st.given E.ua st.thrown st.drawn)))) (E.pa i) i (lotAt st.lots i) := fun i hi => by
        obtain ⟨ldx, gg⟩ := hS.lotAt hi
        exact ⟨ldx, by rw [upd_ne (ap.ps i hi)]; exact gg⟩
      obtain ⟨a1, hS1⟩ := hS.turn (td := d') (th := st.thrown) (dr := st.drawn) (l' := st.lots) rfl (fun b o e h1 _ => by rw [upd_ne h1]; exact e) ⟨dx, by rw [upd_same]; rfl⟩ hlo1
      obtain ⟨dx1, hobj1⟩ := hS1.obj
      refine ⟨_, rfl, S, dx1, _, rfl, hobj1, rfl, _, rfl, S, E, _, d', rfl, hS1, fun H2 a2 hS2 => ?_⟩
      obtain ⟨dx2, hobj2⟩ := hS2.obj
      have hem : ∀ s : Stock, (emptied s d').length = s.lots.length := fun s => by simp [emptied]
      refine ⟨_, rfl, S, dx2, _, rfl, hobj2, rfl, _, rfl, S, E, _, d', rfl, hS2, fun H3 a3 hS3 => ⟨(by show 2 ≤ sizeLine; decide), fun p hp => ?_⟩⟩
      have hstep : Vblaak.step st (.today (d' : Int)) = (({ st with today := d', lots := emptied st d', demands := st.demands.filter (fun x => decide (d' ≤ x.day)), thrown := st.thrown + thrownOf st d' } : Stock), Vblaak.ints [thrownOf st d', (st.demands.filter fun x => decide (x.day < d')).length]) := by
        show (if between (d' : Int) (st.today : Int) 400 = false then _ else _) = _
        rw [if_neg (by rw [hb]; simp)]
        rfl
      refine k.go (H1 := H3) (E' := E) hstep ?_ hS3 hp (same_new hp) upd_same
      show After S E st.lots.length H E (emptied st d').length H3
      rw [hem]
      have a3' : After S E (emptied st d').length H2 E (emptied st d').length H3 := a3
      rw [hem] at a3'
      exact (a1.trans a2).trans a3'
/-! vials -/
abbrev sA15 : Stmt := top 60
theorem scA15 : FnScope ["stock", "given", "m", "life", "needs", "days"] ["stock", "given"] (defScope sA15) := ⟨rfl, rfl, rfl, by decide +kernel, rfl, by decide +kernel, by decide +kernel⟩
theorem ok_a15 (h : Has K mg "answer_vials" sA15 ["stock", "given"]) (T : Txt K mg CL CD CS) (TB : TxtB K mg CU CT) (GR : Ok P w K mg base 1 "is_row" ["needs"] spRow) (GD : Ok P w K mg base 1 "days_of_opening" ["m", "life", "needs"] spDoo) : Ok P w K mg base 2 "answer_vials" ["stock", "given"] (spAns CL CD CU CT mkVials) := by
  refine h.ok scA15 (fun vs H Q E h => ?_) (fun f cdv A outer s H vs Q E hr h => ?_)
  · obtain ⟨S, E, s, g, args, c, rfl, _⟩ := h
    rfl
  · obtain ⟨S, E, st, g, args, c, rfl, hS, hg, hmk, hu, k⟩ := h
    refine ⟨_, pss_cons (ps_set (i := 2) scA15.nd rfl (Or.inl rfl) (pe_ix ix_list (pv 1) pe_int (fun _ _ => rfl))) <| pss_cons (ps_set (i := 3) scA15.nd rfl (Or.inl rfl) (pe_ix ix_list (pv 1) pe_int (fun _ _ => rfl))) <|
      pss_cons (ps_set (i := 4) scA15.nd rfl (Or.inl rfl) (pe_slice sl_list (pv 1) (po_some pe_int) po_none)) <|
      pss_cons (ps_if (pt_not (PW.pt (pw_and (pt_chain op_le op_le pe_int (pv 2) (pe_gi (TB.gi ("MOST_IN_VIAL", 100) (by decide)))) (pw_and (pt_chain op_le op_le pe_int (pv 3) (pe_gi (TB.gi ("LONGEST_LIFE", 60) (by decide)))) (pw_and1 (pt_val (pe_ok GR hr (pa_cons (pv 4) pa_nil)))))))) (pss_one (ps_ret (pe_lst (pa_cons (pe_gi (TB.gi ("OUT_OF_RANGE", -1) (by decide))) pa_nil)))) pss_nil) <|
      pss_cons (ps_set (i := 5) scA15.nd rfl (Or.inl rfl) (pe_ok GD hr (pa_cons (pv 2) (pa_cons (pv 3) (pa_cons (pv 4) pa_nil))))) <|
      pss_one (ps_ret (pe_op op_cat (pe_lst (pa_cons (pe_callB call_len_seq (by rfl) (T.blt _ (by decide)) PySem.boot_len (pa_cons (pv 5) pa_nil)) pa_nil)) (pv 5))), ?_⟩
    obtain ⟨m, life, r, rfl, hr50, rfl⟩ : ∃ m l r, args = m :: l :: r ∧ r.length ≤ 50 ∧ c = .vials m l r := by
      match args, hmk with
      | m :: l :: r, hmk =>
        by_cases e : r.length ≤ 50
        · have hmk' : (if r.length ≤ 50 then some (Vblaak.Call.vials m l r) else none) = some c := hmk
          rw [if_pos e] at hmk'
          exact ⟨m, l, r, rfl, e, (Option.some.inj hmk').symm⟩
        · have hmk' : (if r.length ≤ 50 then some (Vblaak.Call.vials m l r) else none) = some c := hmk
          rw [if_neg e] at hmk'
          cases hmk'
    have hstep : Vblaak.step st (.vials m life r) = if (between m 1 100 && (between life 1 60 && (decide (r.length ≤ 40) && r.all fun n => between n 0 100))) = false then (st, [-1]) else (st, Vblaak.ints ((Vblaak.vials m.toNat life.toNat (r.map Int.toNat)).length :: Vblaak.vials m.toNat life.toNat (r.map Int.toNat))) := rfl
    refine ⟨_, rfl, g, _, _, _, rfl, rfl, SqL.of hg, at_of (j := 0) (v := .int m) rfl rfl, ?_⟩
    refine ⟨_, rfl, g, _, _, _, rfl, rfl, SqL.of hg, at_of (j := 1) (v := .int life) rfl rfl, ?_⟩
    refine ⟨_, rfl, _, rfl, g, _, rfl, SqL.of hg, fun q hq => ?_⟩
    have ecut : cutV ((m :: life :: r).map V.int) (some 2) none = r.map V.int := by
      unfold cutV
      have e1 : HT.sIx ((m :: life :: r).map V.int).length 0 (some 2) = 2 := by
        have := HT.sIx_nat ((m :: life :: r).map V.int).length 0 2
        rw [show ((2 : Nat) : Int) = 2 from rfl] at this
        rw [this]; simp
      rw [e1, HT.sIx_none]
      simp
      exact List.take_of_length_le (by simp)
    rw [ecut]
    have s1 : Same H (upd H q (.lst (r.map V.int))) := same_new hq
    have no1 : ∀ H1, Same H H1 → (between m 1 100 && (between life 1 60 && (decide (r.length ≤ 40) && r.all fun n => between n 0 100))) = false → ∀ p, H1 p = none → Q (.ref p) (upd H1 p (.lst [.int (-1)])) := fun H1 s e p hp => k.no hS (xs := [-1]) (by rw [hstep, if_pos e]) s hp
    refine ⟨_, rfl, _, _, rfl, rfl, _, rfl, ?_⟩
    refine ite2 (fun h1 => ?_) fun h1 => ⟨_, rfl, iteF (iteT ⟨(by show 1 ≤ sizeLine; decide), no1 _ s1 (by rw [betwF.mpr fun z => h1 (decide_eq_true z.1)]; rfl)⟩)⟩
    refine ⟨_, _, rfl, rfl, _, rfl, ?_⟩
    refine ite2 (fun h2 => ?_) fun h2 => iteT ⟨(by show 1 ≤ sizeLine; decide), no1 _ s1 (by rw [betwF.mpr fun z => h2 (decide_eq_true z.2)]; rfl)⟩
    have hm : between m 1 100 = true := betw.mpr ⟨of_decide_eq_true h1, of_decide_eq_true h2⟩
    refine ⟨_, rfl, _, _, rfl, rfl, _, rfl, ?_⟩
    refine ite2 (fun h3 => ?_) fun h3 => ⟨_, rfl, iteF (iteT ⟨(by show 1 ≤ sizeLine; decide), no1 _ s1 (by rw [betwF.mpr fun z => h3 (decide_eq_true z.1)]; simp)⟩)⟩
    refine ⟨_, _, rfl, rfl, _, rfl, ?_⟩
    refine ite2 (fun h4 => ?_) fun h4 => iteT ⟨(by show 1 ≤ sizeLine; decide), no1 _ s1 (by rw [betwF.mpr fun z => h4 (decide_eq_true z.2)]; simp)⟩
    have hlf : between life 1 60 = true := betw.mpr ⟨of_decide_eq_true h3, of_decide_eq_true h4⟩
    refine ⟨_, rfl, q, r, rfl, upd_same, by omega, fun H2 s2 => ⟨_, rfl, ?_⟩⟩
    cases h5 : (decide (r.length ≤ 40) && r.all fun n => between n 0 100) with
    | false => exact iteT ⟨(by show 1 ≤ sizeLine; decide), no1 _ (s1.trans s2) (by rw [h5]; simp)⟩
    | true =>
      refine iteF ?_
      rw [if_neg (by rw [hm, hlf, h5]; simp)] at hstep
      obtain ⟨m', rfl⟩ := nat_of hm (by decide)
      obtain ⟨l', rfl⟩ := nat_of hlf (by decide)
      rw [Bool.and_eq_true] at h5
      have hrl : r.length ≤ 40 := of_decide_eq_true h5.1
      have hr0 : ∀ n ∈ r, 0 ≤ n ∧ n ≤ 100 := fun n hn => betw.mp (List.all_eq_true.mp h5.2 n hn)
      have er : r.map V.int = (r.map Int.toNat).map fun (n : Nat) => V.int n := by
        rw [List.map_map]
        refine List.map_congr_left fun n hn => ?_
        have := hr0 n hn
        show V.int n = V.int ((n.toNat : Nat) : Int)
        congr 1
        omega
      have hm0 := betw.mp hm
      have hl0 := betw.mp hlf
      refine ⟨_, rfl, _, rfl, _, rfl, m', l', q, r.map Int.toNat, rfl, by rw [← er]; exact s2 _ _ upd_same, by omega, by omega, by rw [List.length_map]; omega, fun n hn => ?_, fun H3 t s3 ht h3 hvl => ?_⟩
      · obtain ⟨z, hz, rfl⟩ := List.mem_map.mp hn
        have := hr0 z hz
        omega
      · rw [List.length_map] at hvl
        refine ⟨_, rfl, t, _, rfl, .inl (SqL.of h3), (by show 1 ≤ sizeLine; decide), fun p hp => ?_⟩
        refine ⟨_, rfl, p, t, _, _, rfl, rfl, upd_same, (upd_ne (ne_of_none h3 hp)).trans h3, Nat.le_of_lt (small1000' (by rw [List.length_map, List.length_singleton]; omega)), fun p2 hp2 => ?_⟩
        have := k.no hS (xs := Vblaak.ints ((Vblaak.vials m' l' (r.map Int.toNat)).length :: Vblaak.vials m' l' (r.map Int.toNat))) (p := p2) (by rw [hstep]; rfl) (((s1.trans s2).trans s3).trans (same_new hp)) hp2
        rw [← nats_ints] at this
        rw [List.length_map] at this ⊢
        exact this
end
end Rs
end
section
set_option maxHeartbeats 2000000
namespace Rs
open PySem PySem.Spec PyProof.Rows L2
open Vblaak (Lot Demand Stock Use lotAt between isArticle isDay isLot inOrder demandsOf lessened)
open Vb (chunk mplan mleft subs sub1 cvr lf lotLt demLt lastOf Sh ordOf lackSum)
theorem tight_len (s : Stock) (a : Nat) (hw : WF s) : (Vblaak.tight s a).length ≤ 40 := by
  obtain ⟨h1, h2⟩ := Vb.tight_is s a (by have := hw.demN; omega)
  have := nodup_len (Vblaak.tight s a) ((Vblaak.plan s a).map fun x => x.1.day) (h1.imp fun {x y} h => Nat.ne_of_lt h) fun d hd => reach_day ((h2 d).mp hd)
  rw [List.length_map] at this
  have := (plan_len s a hw).1
  omega
theorem asked_eq (s : Stock) (a : Nat) (T : List Nat) : (((s.demands.filter fun x => x.article == a).filter fun x => T.contains x.day).map fun x => x.n).sum = Vblaak.askedOn s a T := by
  unfold Vblaak.askedOn
  rw [List.filter_filter]
  congr 2
  exact List.filter_congr fun x _ => Bool.and_comm _ _
theorem there_eq (s : Stock) (a : Nat) (T : List Nat) : (((ixOf s.lots a).filter fun i => T.any fun d => cvr s.lots i d).map fun i => lf s.lots i).sum = Vblaak.thereFor s a T := by
  unfold Vblaak.thereFor ixOf
  rw [List.filter_filter]
  conv => rhs; rw [← lots_range s.lots]
  rw [List.filter_map, List.map_map]
  congr 1
  have : (List.range s.lots.length).filter (fun i => (T.any fun d => cvr s.lots i d) && (lotAt s.lots i).article == a) = (List.range s.lots.length).filter ((fun x => x.article == a && T.any fun d => Vblaak.covers x d) ∘ lotAt s.lots) := List.filter_congr fun i _ => Bool.and_comm _ _
  rw [this]
  rfl
/-- each share: what it gets and what it lacks is what it asks -/
theorem plan_sum (s : Stock) (a : Nat) : ∀ x ∈ Vblaak.plan s a, tsum x.2.1 + x.2.2 = x.1.n := by
  rw [plan_m]
  have : ∀ (ds : List Demand) (f : Nat → Nat), ∀ x ∈ mplan (ordOf s.lots a) (cvr s.lots) f ds, tsum x.2.1 + x.2.2 = x.1.n := by
    intro ds
    induction ds with
    | nil => intro f x hx; simp [mplan] at hx
    | cons y r ih =>
      intro f x hx
      unfold mplan at hx
      rcases List.mem_cons.mp hx with e | hx
      · subst e; exact Vb.chunk_sum _ _ _ _
      · exact ih _ x hx
  exact this _ _
theorem serves_eq (s : Stock) (a : Nat) : servedSum (Vblaak.plan s a) = Vblaak.planServes s a := by
  unfold servedSum Vblaak.planServes
  congr 1
  refine List.map_congr_left fun x hx => ?_
  have := plan_sum s a x hx
  omega
section
variable {P : Program} {w : World} {K : PySem.W.Frag} {mg : Str → Option Value} {base : Heap} {CL CD CS CU CT : Addr}
/-! tight -/
abbrev sA6 : Stmt := top 51
theorem scA6 : FnScope ["stock", "given", "article", "days", "asked", "left"] ["stock", "given"] (defScope sA6) := ⟨rfl, rfl, rfl, by decide +kernel, rfl, by decide +kernel, by decide +kernel⟩
theorem ok_a6 (h : Has K mg "answer_tight" sA6 ["stock", "given"]) (T : Txt K mg CL CD CS) (TB : TxtB K mg CU CT) (GA : Ok P w K mg base 1 "is_article" ["number"] (spBt 1 8)) (GS : OkM P w K mg base CT 6 "shares_of" ["self", "article"] (spSo CL CD CS CU CT)) (GM : Ok P w K mg base 4 "days_asking_too_much" ["shares"] (spTm CL CD CS))
    (GF : OkM P w K mg base CT 1 "demands_of" ["self", "article"] (spDf CL CD CU CT)) (GO : Ok P w K mg base 1 "doses_asked_on" ["demands", "days"] (spAo CD)) (GL : OkM P w K mg base CT 1 "lots_of" ["self", "article"] (spLo CL CD CU CT)) (GE : Ok P w K mg base 3 "doses_left_for" ["lots", "days"] (spLf CL)) :
    Ok P w K mg base 7 "answer_tight" ["stock", "given"] (spAns CL CD CU CT mkTight) := by
  refine h.ok scA6 (fun vs H Q E h => ?_) (fun f cdv A outer s H vs Q E hr h => ?_)
  · obtain ⟨S, E, s, g, args, c, rfl, _⟩ := h
    rfl
  · obtain ⟨S, E, st, g, args, c, rfl, hS, hg, hmk, hu, k⟩ := h
    have hr1 : Room 1 _ := hr.mono (by decide)
    have hr3 : Room 3 _ := hr.mono (by decide)
    have hr4 : Room 4 _ := hr.mono (by decide)
    refine ⟨_, pss_cons (ps_set (i := 2) scA6.nd rfl (Or.inl rfl) (pe_ix ix_list (pv 1) pe_int (fun _ _ => rfl))) <|
      pss_cons (ps_if (pt_not (pt_val (pe_ok GA hr1 (pa_cons (pv 2) pa_nil)))) (pss_one (ps_ret (pe_lst (pa_cons (pe_gi (TB.gi ("OUT_OF_RANGE", -1) (by decide))) pa_nil)))) pss_nil) <|
      pss_cons (ps_set (i := 3) scA6.nd rfl (Or.inl rfl) (pe_ok GM hr4 (pa_cons (pe_okM GS TB.stk.cl hr (pv 0) (pa_cons (pv 2) pa_nil)) pa_nil))) <|
      pss_cons (ps_set (i := 4) scA6.nd rfl (Or.inl rfl) (pe_ok GO hr1 (pa_cons (pe_okM GF TB.stk.cl hr1 (pv 0) (pa_cons (pv 2) pa_nil)) (pa_cons (pv 3) pa_nil)))) <|
      pss_cons (ps_set (i := 5) scA6.nd rfl (Or.inl rfl) (pe_ok GE hr3 (pa_cons (pe_okM GL TB.stk.cl hr1 (pv 0) (pa_cons (pv 2) pa_nil)) (pa_cons (pv 3) pa_nil)))) <|
      pss_one (ps_ret (pe_op op_cat (pe_op op_cat (pe_lst (pa_cons (pe_callB call_len_seq (by rfl) (T.blt _ (by decide)) PySem.boot_len (pa_cons (pv 3) pa_nil)) pa_nil)) (pv 3)) (pe_lst (pa_cons (pv 4) (pa_cons (pv 5) pa_nil))))), ?_⟩
    obtain ⟨dx, hobj⟩ := hS.obj
    obtain ⟨a, rfl, rfl⟩ := mk1 hmk
    have hstep : Vblaak.step st (.tight a) = if isArticle a = false then (st, [-1]) else (st, Vblaak.ints ((Vblaak.tight st a.toNat).length :: (Vblaak.tight st a.toNat ++ [Vblaak.askedOn st a.toNat (Vblaak.tight st a.toNat), Vblaak.thereFor st a.toNat (Vblaak.tight st a.toNat)]))) := rfl
    refine ⟨_, rfl, g, _, _, _, rfl, rfl, SqL.of hg, at_of (j := 0) (v := .int a) rfl rfl, ?_⟩
    refine ⟨_, rfl, a, rfl, _, rfl, ?_⟩
    cases hc : between a 1 8 with
    | false => exact iteT ⟨(by show 1 ≤ sizeLine; decide), fun p hp => k.no hS (xs := [-1]) (by rw [hstep, if_pos (show isArticle a = false from hc)]) (Same.refl _) hp⟩
    | true =>
      refine iteF ?_
      rw [if_neg (by show ¬ between a 1 8 = false; rw [hc]; simp)] at hstep
      obtain ⟨a', rfl⟩ := nat_of hc (by decide)
      have hw := hS.wf
      have hd40 := hw.demN
      have hl40 := hw.lotsN
      obtain ⟨pl1, pl2⟩ := plan_len st a' hw
      refine ⟨_, rfl, S, dx, _, rfl, hobj, rfl, _, rfl, S, E, st, a', rfl, hS, fun H1 t1 s1 ht1 hsh => ?_⟩
      refine ⟨t1, E.pa, _, st.lots, rfl, hsh, pl1, fun x hx => ⟨by have := (pl2 x hx).1; omega, fun e he => (hS.lotAt ((pl2 x hx).2 e he)).same s1⟩, fun H2 t2 T s2 ht2 hT1 hT2 hT3 hT4 hT5 => ?_⟩
      have eT : T = Vblaak.tight st a' := Vb.tight_of st a' (by omega) hT1 hT2 hT3 hT4
      subst eT
      have hTl := tight_len st a' hw
      have s02 := s1.trans s2
      have hfl := List.length_filter_le (fun x : Demand => x.article == a') st.demands
      have hix := ixOf_len st.lots a'
      refine ⟨_, rfl, S, dx, _, rfl, s02 _ _ hobj, rfl, _, rfl, S, E, st, a', rfl, hS.same s02, fun H3 t3 s3 ht3 hdm => ?_⟩
      refine ⟨_, rfl, t3, t2, _, _, rfl, hdm, by omega, s3 _ _ hT5, fun H4 s4 => ?_⟩
      have s04 := (s02.trans s3).trans s4
      refine ⟨_, rfl, S, dx, _, rfl, s04 _ _ hobj, rfl, _, rfl, S, E, st, a', rfl, hS.same s04, fun H5 t5 s5 ht5 hlo => ?_⟩
      have hT6 := s5 _ _ (s4 _ _ (s3 _ _ hT5))
      refine ⟨_, rfl, t5, t2, E.pa, st.lots, _, _, rfl, hlo, by omega, hT6, by omega, fun H6 s6 => ?_⟩
      have hT7 := s6 _ _ hT6
      have s06 := (s04.trans s5).trans s6
      rw [asked_eq, there_eq]
      refine ⟨_, rfl, t2, _, rfl, .inl (SqL.of hT7), (by show 1 ≤ sizeLine; decide), fun p hp => ?_⟩
      rw [List.length_map]
      refine ⟨_, rfl, p, t2, _, _, rfl, rfl, upd_same, (upd_ne (ne_of_none hT7 hp)).trans hT7, Nat.le_of_lt (small1000 (by rw [List.length_map, List.length_singleton]; omega)), fun p2 hp2 => ?_⟩
      refine ⟨_, rfl, _, rfl, (by show 2 ≤ sizeLine; decide), fun p3 hp3 => ?_⟩
      refine ⟨p2, p3, _, _, rfl, rfl, (upd_ne (ne_of_none upd_same hp3)).trans upd_same, upd_same, Nat.le_of_lt (small1000 (by rw [List.length_append, List.length_map, List.length_singleton]; show _ + 2 ≤ 1000; omega)), fun p4 hp4 => ?_⟩
      have sf := ((s06.trans (same_new hp)).trans (same_new hp2)).trans (same_new (o := .lst [V.int (Vblaak.askedOn st a' (Vblaak.tight st a') : Nat), V.int (Vblaak.thereFor st a' (Vblaak.tight st a') : Nat)]) hp3)
      have := k.no hS (xs := Vblaak.ints ((Vblaak.tight st a').length :: (Vblaak.tight st a' ++ [Vblaak.askedOn st a' (Vblaak.tight st a'), Vblaak.thereFor st a' (Vblaak.tight st a')]))) (p := p4) (by rw [hstep]; rfl) sf hp4
      rw [← nats_ints] at this
      have e : nats ((Vblaak.tight st a').length :: (Vblaak.tight st a' ++ [Vblaak.askedOn st a' (Vblaak.tight st a'), Vblaak.thereFor st a' (Vblaak.tight st a')])) = ([V.int ((Vblaak.tight st a').length : Nat)] ++ (Vblaak.tight st a').map fun (n : Nat) => V.int n) ++ [V.int (Vblaak.askedOn st a' (Vblaak.tight st a') : Nat), V.int (Vblaak.thereFor st a' (Vblaak.tight st a') : Nat)] := by
        unfold nats
        simp
      rw [e] at this
      exact this
/-! plan -/
abbrev sA4 : Stmt := top 49
theorem scA4 : FnScope ["stock", "given", "shares", "numbers", "share"] ["stock", "given"] (defScope sA4) := ⟨rfl, rfl, rfl, by decide +kernel, rfl, by decide +kernel, by decide +kernel⟩
abbrev planRow (p : List Sh) : List Nat := p.flatMap fun x => [x.1.num, x.2.2] ++ Vblaak.tookRow x.2.1
theorem took_len (ts : List (Nat × Nat)) : (Vblaak.tookRow ts).length = 1 + 2 * ts.length := by
  unfold Vblaak.tookRow
  rw [List.length_cons, List.length_flatMap]
  have : (ts.map fun e => [e.1, e.2].length) = ts.map fun _ => 2 := rfl
  rw [this, List.map_const', List.sum_replicate_nat]
  omega
theorem planRow_len : ∀ (p : List Sh), (∀ x ∈ p, x.2.1.length ≤ 40) → (planRow p).length ≤ 83 * p.length
  | [], _ => by simp [planRow]
  | x :: r, h => by
    have h1 := planRow_len r fun y hy => h y (.tail _ hy)
    have h2 := h x (by simp)
    have e : planRow (x :: r) = ([x.1.num, x.2.2] ++ Vblaak.tookRow x.2.1) ++ planRow r := by unfold planRow; rw [List.flatMap_cons]
    rw [e, List.length_append, List.length_append, took_len, List.length_cons]
    simp only [List.length_cons, List.length_nil]
    omega
theorem ok_a4 (h : Has K mg "answer_plan" sA4 ["stock", "given"]) (T : Txt K mg CL CD CS) (TB : TxtB K mg CU CT) (GA : Ok P w K mg base 1 "is_article" ["number"] (spBt 1 8)) (GS : OkM P w K mg base CT 6 "shares_of" ["self", "article"] (spSo CL CD CS CU CT)) (GV : Ok P w K mg base 2 "doses_served" ["shares"] (spSv CS CD))
    (GT : Ok P w K mg base 1 "tell_taken" ["taken"] (spTel CL)) : Ok P w K mg base 7 "answer_plan" ["stock", "given"] (spAns CL CD CU CT mkPlan) := by
  refine h.ok scA4 (fun vs H Q E h => ?_) (fun f cdv A outer s H vs Q E hr h => ?_)
  · obtain ⟨S, E, s, g, args, c, rfl, _⟩ := h
    rfl
  · obtain ⟨S, E, st, g, args, c, rfl, hS, hg, hmk, hu, k⟩ := h
    have hr1 : Room 1 _ := hr.mono (by decide)
    have hr2 : Room 2 _ := hr.mono (by decide)
    refine ⟨_, pss_cons (ps_if (pt_not (pt_val (pe_ok GA hr1 (pa_cons (pe_ix ix_list (pv 1) pe_int (fun _ _ => rfl)) pa_nil)))) (pss_one (ps_ret (pe_lst (pa_cons (pe_gi (TB.gi ("OUT_OF_RANGE", -1) (by decide))) pa_nil)))) pss_nil) <|
      pss_cons (ps_set (i := 2) scA4.nd rfl (Or.inl rfl) (pe_okM GS TB.stk.cl hr (pv 0) (pa_cons (pe_ix ix_list (pv 1) pe_int (fun _ _ => rfl)) pa_nil))) <|
      pss_cons (ps_set (i := 3) scA4.nd rfl (Or.inl rfl) (pe_lst (pa_cons (pe_callB call_len_seq (by rfl) (T.blt _ (by decide)) PySem.boot_len (pa_cons (pv 2) pa_nil)) (pa_cons (pe_ok GV hr2 (pa_cons (pv 2) pa_nil)) pa_nil)))) <|
      pss_cons (ps_for PassesOwn.never rfl (pi_list (pv 2)) (pg_name (i := 4) scA4.nd rfl (Or.inl rfl))
        (pss_cons (ps_expr (pe_bm PySem.F.plainAttrs_list PySem.F.slot_list_extend PySem.F.type_list_extend mt_extend (pv 3) (pa_cons (pe_lst (pa_cons (pe_fld (pe_fld (pv 4) rfl) rfl) (pa_cons (pe_fld (pv 4) rfl) pa_nil))) pa_nil)))
        (pss_one (ps_expr (pe_bm PySem.F.plainAttrs_list PySem.F.slot_list_extend PySem.F.type_list_extend mt_extend (pv 3) (pa_cons (pe_ok GT hr1 (pa_cons (pe_fld (pv 4) rfl) pa_nil)) pa_nil)))))) <|
      pss_one (ps_ret (pv 3)), ?_⟩
    obtain ⟨dx, hobj⟩ := hS.obj
    obtain ⟨a, rfl, rfl⟩ := mk1 hmk
    have hstep : Vblaak.step st (.plan a) = if isArticle a = false then (st, [-1]) else (st, Vblaak.ints ((Vblaak.plan st a.toNat).length :: Vblaak.planServes st a.toNat :: planRow (Vblaak.plan st a.toNat))) := rfl
    refine ⟨_, rfl, g, _, _, _, rfl, rfl, SqL.of hg, at_of (j := 0) (v := .int a) rfl rfl, a, rfl, _, rfl, ?_⟩
    cases hc : between a 1 8 with
    | false => exact iteT ⟨(by show 1 ≤ sizeLine; decide), fun p hp => k.no hS (xs := [-1]) (by rw [hstep, if_pos (show isArticle a = false from hc)]) (Same.refl _) hp⟩
    | true =>
      refine iteF ?_
      rw [if_neg (by show ¬ between a 1 8 = false; rw [hc]; simp)] at hstep
      obtain ⟨a', rfl⟩ := nat_of hc (by decide)
      simp only [Int.toNat_natCast] at hstep
      have hw := hS.wf
      obtain ⟨pl1, pl2⟩ := plan_len st a' hw
      refine ⟨_, rfl, S, dx, _, rfl, hobj, rfl, _, rfl, g, _, _, _, rfl, rfl, SqL.of hg, at_of (j := 0) (v := .int a') rfl rfl, S, E, st, a', rfl, hS, fun H1 t1 s1 ht1 hsh => ?_⟩
      obtain ⟨zs, z1, z2, z3⟩ := id hsh
      have hzl : zs.length = (Vblaak.plan st a').length := by rw [← z2, List.length_map]
      refine ⟨_, rfl, t1, _, rfl, .inl (SqL.of z1), _, rfl, t1, E.pa, _, rfl, hsh, by omega, fun x hx => by have := (pl2 x hx).1; omega, fun H2 s2 => ⟨(by show 2 ≤ sizeLine; decide), fun n hn => ?_⟩⟩
      rw [List.length_map, hzl, serves_eq]
      have s02 := s1.trans s2
      have hnH : H n = none := s02.free hn
      have s3 : Same H2 _ := same_new (o := .lst [V.int ((Vblaak.plan st a').length : Nat), V.int (Vblaak.planServes st a' : Nat)]) hn
      have hlots : ∀ x ∈ Vblaak.plan st a', LotsIn CL H E.pa st.lots x.2.1 := fun x hx e he => hS.lotAt ((pl2 x hx).2 e he)
      have z1' := s3 _ _ (s2 _ _ z1)
      have htn : t1 ≠ n := ne_of_none (s2 _ _ z1) hn
      refine ⟨_, rfl, t1, rfl, ⟨_, SqL.of z1'⟩, for_list (K := K) (a := t1) (xs := zs.map fun z => V.ref z.1)
        (fun j σ H' => ∃ v4, σ = [some (.ref S), some (.ref g), some (.ref t1), some (.ref n), v4] ∧ Same H2 H' ∧ H' n = some (.lst (nats ((Vblaak.plan st a').length :: Vblaak.planServes st a' :: planRow ((Vblaak.plan st a').take j)))))
        ⟨none, rfl, s3, by rw [upd_same]; rfl⟩ (fun j σ H' _ ⟨_, _, s4, _⟩ => SqL.of (s4 _ _ (s2 _ _ z1))) ?_ ?_⟩
      · rintro j y σ H' hj ⟨v4, rfl, s4, hn4⟩
        obtain ⟨z, hzj, rfl⟩ := map_get hj
        have hzm : z ∈ zs := List.mem_of_getElem? hzj
        have hpj : (Vblaak.plan st a')[j]? = some z.2.2 := by rw [← z2, List.getElem?_map, hzj]; rfl
        have hpm := List.mem_of_getElem? hpj
        obtain ⟨sdx, dp, g1, ⟨ddx, g2⟩, g3⟩ := ((z3 z hzm).2.same s2).same s4
        have hrl := planRow_len ((Vblaak.plan st a').take j) fun x hx => (pl2 x (List.mem_of_mem_take hx)).1
        have htl : ((Vblaak.plan st a').take j).length ≤ 40 := by rw [List.length_take]; omega
        have hnl : (nats ((Vblaak.plan st a').length :: Vblaak.planServes st a' :: planRow ((Vblaak.plan st a').take j))).length ≤ 3322 := by
          rw [List.length_map, List.length_cons, List.length_cons]
          omega
        have hzl2 := (pl2 z.2.2 hpm).1
        refine ⟨_, rfl, .inl ⟨rfl, _, SqL.of hn4⟩, _, rfl, z.1, CS, sdx, _, _, rfl, g1, T.sha.cl, T.sha.no _ (by decide), rfl, dp, CD, ddx, _, _, rfl, g2, T.dem.cl, T.dem.no _ (by decide), rfl, _, rfl, z.1, CS, sdx, _, _, rfl, g1, T.sha.cl, T.sha.no _ (by decide), rfl, (by show 2 ≤ sizeLine; decide), fun q hq => ?_⟩
        refine ⟨n, q, _, _, rfl, rfl, (upd_ne (ne_of_none hn4 hq)).trans hn4, upd_same, Nat.le_of_lt (small1000' (by show _ + 2 ≤ _; omega)), ?_⟩
        have s5 : Same H2 (upd (upd H' q (.lst [V.int (z.2.2.1.num : Nat), V.int (z.2.2.2.2 : Nat)])) n (.lst (nats ((Vblaak.plan st a').length :: Vblaak.planServes st a' :: planRow ((Vblaak.plan st a').take j)) ++ [V.int (z.2.2.1.num : Nat), V.int (z.2.2.2.2 : Nat)]))) := fun b o e => by
          rw [upd_ne (ne_of_none e hn), upd_ne (ne_of_none (s4 _ _ e) hq)]
          exact s4 _ _ e
        obtain ⟨sdx', dp', g1', ⟨ddx', g2'⟩, g3'⟩ := ((z3 z hzm).2.same s2).same s5
        refine ⟨_, rfl, .inl ⟨rfl, _, SqL.of upd_same⟩, _, rfl, z.1, CS, sdx', _, _, rfl, g1', T.sha.cl, T.sha.no _ (by decide), rfl, z.2.1, E.pa, st.lots, z.2.2.2.1, rfl, g3', by omega, (hlots _ hpm).same (s02.trans s5), fun H6 t6 s6 ht6 h6 => ?_⟩
        have hn6 := s6 _ _ (upd_same (H := upd H' q (.lst [V.int (z.2.2.1.num : Nat), V.int (z.2.2.2.2 : Nat)])) (a := n) (o := .lst (nats ((Vblaak.plan st a').length :: Vblaak.planServes st a' :: planRow ((Vblaak.plan st a').take j)) ++ [V.int (z.2.2.1.num : Nat), V.int (z.2.2.2.2 : Nat)])))
        refine ⟨n, t6, _, _, rfl, rfl, hn6, h6, Nat.le_of_lt (small1000' ?_), ?_⟩
        · rw [List.length_append, List.length_map (as := Vblaak.tookRow _), took_len]
          show _ + 2 + _ ≤ _
          omega
        · refine ⟨_, rfl, fun b o e => by rw [upd_ne (ne_of_none e hn)]; exact s6 _ _ (s5 _ _ e), ?_⟩
          rw [upd_same, List.take_add_one, hpj]
          congr 2
          unfold nats planRow
          simp
      · rintro σ H' ⟨v4, rfl, s4, hn4⟩
        rw [List.length_map, hzl, List.take_length, nats_ints] at hn4
        exact ⟨_, rfl, k.ro hS hstep (s02.trans s4) hnH hn4⟩
/-! used from -/
abbrev sA13 : Stmt := top 58
theorem scA13 : FnScope ["stock", "given", "lot", "use", "uses", "numbers"] ["stock", "given"] (defScope sA13) := ⟨rfl, rfl, rfl, by decide +kernel, rfl, by decide +kernel, by decide +kernel⟩
/-- how many doses a use took of the lot i -/
abbrev dfrom (i : Nat) (u : Use) : Nat := tsum (u.took.filter fun e => e.1 == i)
theorem dfrom_eq {i : Nat} {ts : List (Nat × Nat)} (hn : (ts.map Prod.fst).Nodup) : (ts.filter fun e => e.1 == i) = (ts.find? fun e => e.1 == i).toList := by
  induction ts with
  | nil => rfl
  | cons e r ih =>
    rw [List.map_cons, List.nodup_cons] at hn
    rw [List.filter_cons, List.find?_cons]
    cases h : e.1 == i with
    | false => simp [ih hn.2]
    | true =>
      have he : e.1 = i := by simpa using h
      have : (r.filter fun e => e.1 == i) = [] := List.filter_eq_nil_iff.mpr fun x hx z => hn.1 (by
        have : x.1 = i := by simpa using z
        rw [he, ← this]
        exact List.mem_map.mpr ⟨x, hx, rfl⟩)
      simp [this]
theorem used_row (i : Nat) (us : List Use) (h : ∀ u ∈ us, (u.took.map Prod.fst).Nodup ∧ ∀ e ∈ u.took, 0 < e.2) : ∀ (n : Nat),
    ((List.range' n us.length).zip us).filterMap (fun u => (u.2.took.find? fun e => e.1 == i).map fun e => [u.1, u.2.day, e.2]) = (((List.range' n us.length).zip us).filter fun u => decide (0 < dfrom i u.2)).map fun u => [u.1, u.2.day, dfrom i u.2] := by
  induction us with
  | nil => intro n; rfl
  | cons u r ih =>
    intro n
    have ih' := ih (fun v hv => h v (.tail _ hv)) (n + 1)
    obtain ⟨h1, h2⟩ := h u (by simp)
    have e1 : List.range' n (u :: r).length = n :: List.range' (n + 1) r.length := by rw [List.length_cons, List.range'_succ]
    rw [e1, List.zip_cons_cons, List.filterMap_cons, List.filter_cons]
    have hd := dfrom_eq (i := i) h1
    cases hf : u.took.find? fun e => e.1 == i with
    | none =>
      rw [hf] at hd
      have : dfrom i u = 0 := by unfold dfrom; rw [hd]; rfl
      simp only [Option.map_none]
      rw [this, ih']
      simp
    | some e =>
      rw [hf] at hd
      have hde : dfrom i u = e.2 := by unfold dfrom; rw [hd]; simp [tsum]
      have : 0 < e.2 := h2 e (List.mem_of_find?_eq_some hf)
      simp only [Option.map_some]
      rw [hde, ih']
      simp [this, hde]
end
end Rs
end
section
set_option maxHeartbeats 2000000
namespace Rs
open PySem PySem.Spec PyProof.Rows L2
open Vblaak (Lot Demand Stock Use lotAt between isArticle isDay isLot inOrder demandsOf lessened)
abbrev izip {α : Type} (zs : List α) : List (Nat × α) := (List.range zs.length).zip zs
theorem izip_snd {α : Type} (zs : List α) : (izip zs).map Prod.snd = zs := List.map_snd_zip (by simp)
theorem izip_get {α : Type} {zs : List α} {j : Nat} {z : α} (h : (j, z) ∈ izip zs) : zs[j]? = some z := by
  obtain ⟨i, hi⟩ := List.mem_iff_getElem?.mp h
  rw [List.getElem?_zip_eq_some] at hi
  obtain ⟨h1, h2⟩ := hi
  have h1' : (List.range zs.length)[i]? = some j := h1
  have : i = j := by
    obtain ⟨hl, e⟩ := List.getElem?_eq_some_iff.mp h1'
    rw [List.getElem_range] at e
    exact e
  rw [← this]
  exact h2
theorem izip_len {α : Type} (zs : List α) : (izip zs).length = zs.length := by simp
theorem izip_map {α β : Type} (f : α → β) (zs : List α) : izip (zs.map f) = (izip zs).map fun y => (y.1, f y.2) := by
  unfold izip
  rw [List.length_map, List.zip_map_right]
  rfl
section
variable {P : Program} {w : World} {K : PySem.W.Frag} {mg : Str → Option Value} {base : Heap} {CL CD CS CU CT : Addr}
abbrev urow (i : Nat) (y : Nat × Addr × Addr × Use) : List Nat := [y.1, y.2.2.2.day, dfrom i y.2.2.2]
theorem flat3_len {α : Type} (g : α → List Nat) (h : ∀ x, (g x).length = 3) : ∀ (l : List α), (l.flatMap g).length = 3 * l.length
  | [] => rfl
  | x :: r => by rw [List.flatMap_cons, List.length_append, h, flat3_len g h r, List.length_cons]; omega
theorem ok_a13 (h : Has K mg "answer_used_from" sA13 ["stock", "given"]) (T : Txt K mg CL CD CS) (TB : TxtB K mg CU CT) (GI' : Ok P w K mg base 1 "is_lot" ["stock", "number"] (spIL CL CD CU CT)) (GF : OkM P w K mg base CU 2 "doses_from" ["self", "lot"] (spUf CL CU)) : Ok P w K mg base 3 "answer_used_from" ["stock", "given"] (spAns CL CD CU CT mkUsedFrom) := by
  refine h.ok scA13 (fun vs H Q E h => ?_) (fun f cdv A outer s H vs Q E hr h => ?_)
  · obtain ⟨S, E, s, g, args, c, rfl, _⟩ := h
    rfl
  · obtain ⟨S, E, st, g, args, c, rfl, hS, hg, hmk, hu, k⟩ := h
    have hr1 : Room 1 _ := hr.mono (by decide)
    refine ⟨_, pss_cons (ps_if (pt_not (pt_val (pe_ok GI' hr1 (pa_cons (pv 0) (pa_cons (pe_ix ix_list (pv 1) pe_int (fun _ _ => rfl)) pa_nil))))) (pss_one (ps_ret (pe_lst (pa_cons (pe_gi (TB.gi ("OUT_OF_RANGE", -1) (by decide))) pa_nil)))) pss_nil) <|
      pss_cons (ps_set (i := 2) scA13.nd rfl (Or.inr rfl) (pe_ix ix_list (pe_fld (pv 0) rfl) (pe_ix ix_list (pv 1) pe_int (fun _ _ => rfl)) (fun _ _ => rfl))) <|
      pss_cons (ps_setLc' (i := 4) [("use", 3)] (gName 3) rfl scA13.nd rfl rfl (pi_list (pe_fld (pv 0) rfl)) rfl
        (fun s H C cl fp => pg_name (i := 3) scA13.nd rfl (Or.inl rfl) (Or.inr rfl)) (fun s H C cl fp => pts_one (pt_cmpR op_gt (pe_okM GF TB.use.cl hr (pv 3) (pa_cons (pv 2) pa_nil)) pe_int (nomark _))) (fun s H C cl fp => pv 3)) <|
      pss_cons (ps_set (i := 5) scA13.nd rfl (Or.inl rfl) (pe_lst (pa_cons (pe_callB call_len_seq (by rfl) (T.blt _ (by decide)) PySem.boot_len (pa_cons (pv 4) pa_nil)) pa_nil))) <|
      pss_cons (ps_for PassesOwn.never rfl (pi_list (pv 4)) (pg_name (i := 3) scA13.nd rfl (Or.inl rfl))
        (pss_one (ps_expr (pe_bm PySem.F.plainAttrs_list PySem.F.slot_list_extend PySem.F.type_list_extend mt_extend (pv 5) (pa_cons (pe_lst (pa_cons (pe_fld (pv 3) rfl) (pa_cons (pe_fld (pv 3) rfl) (pa_cons (pe_okM GF TB.use.cl hr (pv 3) (pa_cons (pv 2) pa_nil)) pa_nil)))) pa_nil))))) <|
      pss_one (ps_ret (pv 5)), ?_⟩
    obtain ⟨dx, hobj⟩ := hS.obj
    obtain ⟨i, rfl, rfl⟩ := mk1 hmk
    refine ⟨_, rfl, _, rfl, g, _, _, _, rfl, rfl, SqL.of hg, at_of (j := 0) (v := .int i) rfl rfl, S, E, st, i, rfl, hS, _, rfl, ?_⟩
    cases hl : isLot st i with
    | false =>
      refine iteT ⟨(by show 1 ≤ sizeLine; decide), fun p hp => k.no hS (xs := [-1]) ?_ (Same.refl _) hp⟩
      show (if isLot st i = false then _ else _) = _
      rw [if_pos hl]
    | true =>
      refine iteF ?_
      obtain ⟨n, rfl, hn⟩ := isLot_lt hl
      refine ⟨_, rfl, S, CT, dx, _, _, rfl, hobj, TB.stk.cl, TB.stk.no _ (by decide), rfl, _, rfl, g, _, _, _, rfl, rfl, SqL.of hg, at_of (j := 0) (v := .int n) rfl rfl, E.la, _, _, _, rfl, rfl, SqL.of hS.lots.1, at_of (j := n) (v := .ref (E.pa n)) rfl (by rw [List.getElem?_map, List.getElem?_range hn]; rfl), ?_⟩
      obtain ⟨zs, u1, u2, u3⟩ := hS.uses
      have hzl : zs.length = st.uses.length := by have := congrArg List.length u2; rwa [List.length_map] at this
      have hl40 := hS.wf.lotsN
      have hmem : ∀ {j : Nat} {z : Addr × Addr × Use}, zs[j]? = some z → z.2.2 ∈ st.uses := fun {j z} e => by rw [← u2]; exact List.mem_map.mpr ⟨z, List.mem_of_getElem? e, rfl⟩
      have htl : ∀ {j : Nat} {z : Addr × Addr × Use}, zs[j]? = some z → z.2.2.took.length ≤ 100 := fun {j z} e => by
        obtain ⟨w1, w2⟩ := hS.wf.useW _ (hmem e)
        have := nodup_len (z.2.2.took.map Prod.fst) (List.range st.lots.length) w1 fun i hi => by
          obtain ⟨x, hx, rfl⟩ := List.mem_map.mp hi
          exact List.mem_range.mpr (w2 x hx).1
        rw [List.length_map, List.length_range] at this
        omega
      have hlin : ∀ {j : Nat} {z : Addr × Addr × Use} {H' : Hp}, zs[j]? = some z → Same H H' → LotsIn CL H' E.pa st.lots z.2.2.took := fun {j z H'} e s1 x hx => (hS.lotAt ((hS.wf.useW _ (hmem e)).2 x hx).1).same s1
      have eiz : (izip zs).map (fun y => V.ref y.2.1) = zs.map fun z => V.ref z.1 := by
        conv => rhs; rw [← izip_snd zs]
        rw [List.map_map]; rfl
      have u1' : H E.ua = some (.lst ((izip zs).map fun y => V.ref y.2.1)) := by rw [eiz]; exact u1
      refine ⟨_, rfl, S, CT, dx, _, _, rfl, hobj, TB.stk.cl, TB.stk.no _ (by decide), rfl, E.ua, rfl, ⟨_, SqL.of u1'⟩, fun D hD => ?_⟩
      refine lc_l (izip zs) (fun y => V.ref y.2.1) (fun y => if decide (0 < dfrom n y.2.2.2) = true then some (V.ref y.2.1) else none) hD (SqL.of u1') (by rw [izip_len]; exact small1000 (by omega)) (fun y H' Nx hy s1 kp kn => ?_) (fun H1 s1 hl1 => ?_)
      · have hyj := izip_get (show (y.1, y.2) ∈ izip zs from hy)
        obtain ⟨⟨udx, g1⟩, g2⟩ := (u3 _ _ hyj).2.2.same s1
        refine ⟨rfl, _, rfl, y.2.1, udx, _, rfl, g1, rfl, _, rfl, y.2.1, y.2.2.1, E.pa, st.lots, E.pa n, y.1, n, y.2.2.2, _, rfl, ⟨⟨udx, g1⟩, g2⟩, htl hyj, hlin hyj s1, (hS.lotAt hn).same s1, fun H2 s2 => ⟨_, _, rfl, rfl, _, rfl, ?_⟩⟩
        have e0 : decide ((0 : Int) < ((dfrom n y.2.2.2 : Nat) : Int)) = decide (0 < dfrom n y.2.2.2) := decide_eq_decide.mpr ⟨fun h => by omega, fun h => by omega⟩
        rw [e0]
        refine ite2 (fun hc => ?_) fun hc => ?_
        · exact ⟨_, rfl, kp H2 _ s2 (if_pos hc)⟩
        · exact kn H2 s2 (if_neg hc)
      rw [fm_filter'] at hl1
      generalize hys : (izip zs).filter (fun y => decide (0 < dfrom n y.2.2.2)) = ys at hl1
      have hym : ∀ y ∈ ys, zs[y.1]? = some y.2 := fun y hy => by
        rw [← hys] at hy
        exact izip_get (List.mem_filter.mp hy).1
      have hyl : ys.length ≤ 900 := by
        rw [← hys]
        have := List.length_filter_le (fun y : Nat × Addr × Addr × Use => decide (0 < dfrom n y.2.2.2)) (izip zs)
        rw [izip_len] at this
        omega
      refine ⟨_, rfl, D, _, rfl, .inl (SqL.of hl1), (by show 1 ≤ sizeLine; decide), fun q hq => ?_⟩
      rw [List.length_map]
      have hqH : H q = none := s1.free hq
      have s2 : Same H1 _ := same_new (o := .lst [V.int (ys.length : Nat)]) hq
      have hDq : D ≠ q := ne_of_none hl1 hq
      refine ⟨_, rfl, D, rfl, ⟨_, SqL.of (s2 _ _ hl1)⟩, for_list (K := K) (a := D) (xs := ys.map fun y => V.ref y.2.1)
        (fun j σ H' => ∃ v3, σ = [some (.ref S), some (.ref g), some (.ref (E.pa n)), v3, some (.ref D), some (.ref q)] ∧ Same H1 H' ∧ H' q = some (.lst (nats (ys.length :: (ys.take j).flatMap (urow n)))))
        ⟨none, rfl, s2, by rw [upd_same]; rfl⟩ (fun j σ H' _ ⟨_, _, s3, _⟩ => SqL.of (s3 _ _ hl1)) ?_ ?_⟩
      · rintro j y σ H' hj ⟨v3, rfl, s3, hq3⟩
        obtain ⟨y, hyj, rfl⟩ := map_get hj
        have hz := hym y (List.mem_of_getElem? hyj)
        have s03 := s1.trans s3
        obtain ⟨⟨udx, g1⟩, g2⟩ := (u3 _ _ hz).2.2.same s03
        have hlen : (nats (ys.length :: (ys.take j).flatMap (urow n))).length ≤ 2701 := by
          rw [List.length_map, List.length_cons, flat3_len (urow n) (fun _ => rfl), List.length_take]
          omega
        refine ⟨_, rfl, .inl ⟨rfl, _, SqL.of hq3⟩, _, rfl, y.2.1, CU, udx, _, _, rfl, g1, TB.use.cl, TB.use.no _ (by decide), rfl, _, rfl, y.2.1, CU, udx, _, _, rfl, g1, TB.use.cl, TB.use.no _ (by decide), rfl, _, rfl, y.2.1, udx, _, rfl, g1, rfl, _, rfl, y.2.1, y.2.2.1, E.pa, st.lots, E.pa n, y.1, n, y.2.2.2, _, rfl, ⟨⟨udx, g1⟩, g2⟩, htl hz, hlin hz s03, (hS.lotAt hn).same s03, fun H4 s4 => ⟨(by show 3 ≤ sizeLine; decide), fun r hr5 => ?_⟩⟩
        have hq4 := s4 _ _ hq3
        refine ⟨q, r, _, _, rfl, rfl, (upd_ne (ne_of_none hq4 hr5)).trans hq4, upd_same, Nat.le_of_lt (small1000' (by show _ + 3 ≤ _; omega)), ?_⟩
        refine ⟨_, rfl, fun b o e => by rw [upd_ne (ne_of_none e hq), upd_ne (ne_of_none (s4 _ _ (s3 _ _ e)) hr5)]; exact s4 _ _ (s3 _ _ e), ?_⟩
        rw [upd_same, List.take_add_one, hyj]
        congr 2
        unfold nats
        simp
      · rintro σ H' ⟨v3, rfl, s3, hq3⟩
        rw [List.length_map, List.take_length, nats_ints] at hq3
        refine ⟨_, rfl, k.ro hS ?_ (s1.trans s3) hqH hq3⟩
        show (if isLot st (n : Int) = false then _ else _) = _
        rw [if_neg (by rw [hl]; simp)]
        show (st, Vblaak.rows (((List.range st.uses.length).zip st.uses).filterMap fun u => (u.2.took.find? fun e => e.1 == n).map fun e => [u.1, u.2.day, e.2])) = _
        have hr := used_row n st.uses (fun u hu => ⟨(hS.wf.useW u hu).1, fun e he => ((hS.wf.useW u hu).2 e he).2⟩) 0
        rw [List.range_eq_range', hr, ← List.range_eq_range']
        have ez : (List.range st.uses.length).zip st.uses = (izip zs).map fun y => (y.1, y.2.2.2) := by
          have := izip_map (fun z : Addr × Addr × Use => z.2.2) zs
          rw [u2] at this
          exact this
        rw [ez, List.filter_map, List.map_map]
        have ef : (izip zs).filter ((fun u : Nat × Use => decide (0 < dfrom n u.2)) ∘ fun y => (y.1, y.2.2.2)) = ys := hys
        rw [ef]
        unfold Vblaak.rows
        rw [List.length_map, List.flatMap]
        rfl
end
end Rs
end
section
set_option maxHeartbeats 2000000
namespace Rs
open PySem PySem.Spec PyProof.Rows L2
open Vblaak (Lot Demand Stock Use lotAt between isArticle isDay isLot inOrder demandsOf lessened)
open Vb (chunk mplan mleft subs sub1 cvr lf lotLt demLt lastOf Sh ordOf lackSum)
/-! ### a call of the line -/
def mkAt : Nat → List Int → Option Vblaak.Call
  | 0 => mkClear
  | 1 => mkLot
  | 2 => mkDemand
  | 3 => mkCancel
  | 4 => mkPlan
  | 5 => mkTold
  | 6 => mkTight
  | 7 => mkBears
  | 8 => mkSpare
  | 9 => mkTake
  | 10 => mkUse
  | 11 => mkToday
  | 12 => mkWithdraw
  | 13 => mkUsedFrom
  | 14 => mkWaste
  | 15 => mkVials
  | 16 => mkCounts
  | _ => fun _ => none
abbrev WH : List Nat := [0, 4, 3, 1, 1, 1, 1, 3, 2, 1, 2, 1, 1, 1, 1, 2, 0]
theorem shape_inv {p : Int} {n k : Nat} (h : PyVblaak.shape p = some (n, k)) : ∃ j : Nat, j < 17 ∧ p = (j : Int) ∧ WH[j]? = some n ∧ k = (if j = 15 then 1 else 0) := by
  unfold PyVblaak.shape at h
  by_cases h0 : p = 0
  · rw [if_pos h0] at h; cases h; exact ⟨0, by decide, h0, rfl, rfl⟩
  rw [if_neg h0] at h
  by_cases h1 : p = 1
  · rw [if_pos h1] at h; cases h; exact ⟨1, by decide, h1, rfl, rfl⟩
  rw [if_neg h1] at h
  by_cases h2 : p = 2
  · rw [if_pos h2] at h; cases h; exact ⟨2, by decide, h2, rfl, rfl⟩
  rw [if_neg h2] at h
  by_cases h3 : p = 3
  · rw [if_pos h3] at h; cases h; exact ⟨3, by decide, h3, rfl, rfl⟩
  rw [if_neg h3] at h
  by_cases h4 : p = 4
  · rw [if_pos h4] at h; cases h; exact ⟨4, by decide, h4, rfl, rfl⟩
  rw [if_neg h4] at h
  by_cases h5 : p = 5
  · rw [if_pos h5] at h; cases h; exact ⟨5, by decide, h5, rfl, rfl⟩
  rw [if_neg h5] at h
  by_cases h6 : p = 6
  · rw [if_pos h6] at h; cases h; exact ⟨6, by decide, h6, rfl, rfl⟩
  rw [if_neg h6] at h
  by_cases h7 : p = 7
  · rw [if_pos h7] at h; cases h; exact ⟨7, by decide, h7, rfl, rfl⟩
  rw [if_neg h7] at h
  by_cases h8 : p = 8
  · rw [if_pos h8] at h; cases h; exact ⟨8, by decide, h8, rfl, rfl⟩
  rw [if_neg h8] at h
  by_cases h9 : p = 9
  · rw [if_pos h9] at h; cases h; exact ⟨9, by decide, h9, rfl, rfl⟩
  rw [if_neg h9] at h
  by_cases h10 : p = 10
  · rw [if_pos h10] at h; cases h; exact ⟨10, by decide, h10, rfl, rfl⟩
  rw [if_neg h10] at h
  by_cases h11 : p = 11
  · rw [if_pos h11] at h; cases h; exact ⟨11, by decide, h11, rfl, rfl⟩
  rw [if_neg h11] at h
  by_cases h12 : p = 12
  · rw [if_pos h12] at h; cases h; exact ⟨12, by decide, h12, rfl, rfl⟩
  rw [if_neg h12] at h
  by_cases h13 : p = 13
  · rw [if_pos h13] at h; cases h; exact ⟨13, by decide, h13, rfl, rfl⟩
  rw [if_neg h13] at h
  by_cases h14 : p = 14
  · rw [if_pos h14] at h; cases h; exact ⟨14, by decide, h14, rfl, rfl⟩
  rw [if_neg h14] at h
  by_cases h15 : p = 15
  · rw [if_pos h15] at h; cases h; exact ⟨15, by decide, h15, rfl, rfl⟩
  rw [if_neg h15] at h
  by_cases h16 : p = 16
  · rw [if_pos h16] at h; cases h; exact ⟨16, by decide, h16, rfl, rfl⟩
  rw [if_neg h16] at h
  cases h
theorem whole_id {c : List (List Int)} (h : PyFlat.okCall PyVblaak.shape c) : PyVblaak.whole c = c := by
  obtain ⟨p, a, xs, rfl, hs⟩ := h
  obtain ⟨j, hj, rfl, hn, hk⟩ := shape_inv hs
  match j, hj, hn, hk with
  | 0, _, hn, hk => match a, xs, hn, hk with
    | [], [], _, _ => rfl
  | 1, _, hn, hk => match a, xs, hn, hk with
    | [a, b, c, d], [], _, _ => rfl
  | 2, _, hn, hk => match a, xs, hn, hk with
    | [a, b, c], [], _, _ => rfl
  | 3, _, hn, hk => match a, xs, hn, hk with
    | [a], [], _, _ => rfl
  | 4, _, hn, hk => match a, xs, hn, hk with
    | [a], [], _, _ => rfl
  | 5, _, hn, hk => match a, xs, hn, hk with
    | [a], [], _, _ => rfl
  | 6, _, hn, hk => match a, xs, hn, hk with
    | [a], [], _, _ => rfl
  | 7, _, hn, hk => match a, xs, hn, hk with
    | [a, b, c], [], _, _ => rfl
  | 8, _, hn, hk => match a, xs, hn, hk with
    | [a, b], [], _, _ => rfl
  | 9, _, hn, hk => match a, xs, hn, hk with
    | [a], [], _, _ => rfl
  | 10, _, hn, hk => match a, xs, hn, hk with
    | [a, b], [], _, _ => rfl
  | 11, _, hn, hk => match a, xs, hn, hk with
    | [a], [], _, _ => rfl
  | 12, _, hn, hk => match a, xs, hn, hk with
    | [a], [], _, _ => rfl
  | 13, _, hn, hk => match a, xs, hn, hk with
    | [a], [], _, _ => rfl
  | 14, _, hn, hk => match a, xs, hn, hk with
    | [a], [], _, _ => rfl
  | 15, _, hn, hk => match a, xs, hn, hk with
    | [a, b], [r], _, _ => rfl
  | 16, _, hn, hk => match a, xs, hn, hk with
    | [], [], _, _ => rfl
/-- a call of the line, as the program has it: its place, its numbers -/
def flatC (c : List (List Int)) : Int × List Int := match c with
  | (p :: a) :: xs => (p, a ++ xs.flatten)
  | _ => (0, [])
theorem call_mk {c : List (List Int)} (h : PyFlat.okCall PyVblaak.shape c) (ha : VblaakNeutral.asked1 c = true) : ∃ (j : Nat) (x : Vblaak.Call), j < 17 ∧ (flatC c).1 = (j : Int) ∧ mkAt j (flatC c).2 = some x ∧ VblaakNeutral.callOf c = some x := by
  obtain ⟨p, a, xs, rfl, hs⟩ := h
  obtain ⟨j, hj, rfl, hn, hk⟩ := shape_inv hs
  have go : ∀ (n k : Nat), a.length = n → xs.length = k → (n = a.length ∧ k = xs.length) := fun n k h1 h2 => ⟨h1.symm, h2.symm⟩
  match j, hj, hn, hk with
  | 0, _, hn, hk =>
    match a, xs, hn, hk with
    | [], [], _, _ => exact ⟨0, .clear, by decide, rfl, rfl, rfl⟩
  | 1, _, hn, hk =>
    match a, xs, hn, hk with
    | [a, b, c, d], [], _, _ => exact ⟨1, .lot a b c d, by decide, rfl, rfl, rfl⟩
  | 2, _, hn, hk =>
    match a, xs, hn, hk with
    | [a, b, c], [], _, _ => exact ⟨2, .demand a b c, by decide, rfl, rfl, rfl⟩
  | 3, _, hn, hk =>
    match a, xs, hn, hk with
    | [a], [], _, _ => exact ⟨3, .cancel a, by decide, rfl, rfl, rfl⟩
  | 4, _, hn, hk =>
    match a, xs, hn, hk with
    | [a], [], _, _ => exact ⟨4, .plan a, by decide, rfl, rfl, rfl⟩
  | 5, _, hn, hk =>
    match a, xs, hn, hk with
    | [a], [], _, _ => exact ⟨5, .told a, by decide, rfl, rfl, rfl⟩
  | 6, _, hn, hk =>
    match a, xs, hn, hk with
    | [a], [], _, _ => exact ⟨6, .tight a, by decide, rfl, rfl, rfl⟩
  | 7, _, hn, hk =>
    match a, xs, hn, hk with
    | [a, b, c], [], _, _ => exact ⟨7, .bears a b c, by decide, rfl, rfl, rfl⟩
  | 8, _, hn, hk =>
    match a, xs, hn, hk with
    | [a, b], [], _, _ => exact ⟨8, .spare a b, by decide, rfl, rfl, rfl⟩
  | 9, _, hn, hk =>
    match a, xs, hn, hk with
    | [a], [], _, _ => exact ⟨9, .take a, by decide, rfl, rfl, rfl⟩
  | 10, _, hn, hk =>
    match a, xs, hn, hk with
    | [a, b], [], _, _ => exact ⟨10, .use a b, by decide, rfl, rfl, rfl⟩
  | 11, _, hn, hk =>
    match a, xs, hn, hk with
    | [a], [], _, _ => exact ⟨11, .today a, by decide, rfl, rfl, rfl⟩
  | 12, _, hn, hk =>
    match a, xs, hn, hk with
    | [a], [], _, _ => exact ⟨12, .withdraw a, by decide, rfl, rfl, rfl⟩
  | 13, _, hn, hk =>
    match a, xs, hn, hk with
    | [a], [], _, _ => exact ⟨13, .usedFrom a, by decide, rfl, rfl, rfl⟩
  | 14, _, hn, hk =>
    match a, xs, hn, hk with
    | [a], [], _, _ => exact ⟨14, .waste a, by decide, rfl, rfl, rfl⟩
  | 15, _, hn, hk =>
    match a, xs, hn, hk with
    | [m, l], [r], _, _ =>
      have hr : r.length ≤ 50 := by
        have h1 : (VblaakNeutral.whole64 m && VblaakNeutral.whole64 l && r.all (fun (z : Int) => VblaakNeutral.whole64 z) && decide (r.length ≤ 50)) = true := ha
        rw [Bool.and_eq_true] at h1
        exact of_decide_eq_true h1.2
      refine ⟨15, .vials m l r, by decide, rfl, ?_, rfl⟩
      show mkVials (m :: l :: (r ++ [])) = _
      rw [List.append_nil]
      show (if r.length ≤ 50 then some (Vblaak.Call.vials m l r) else none) = _
      rw [if_pos hr]
  | 16, _, hn, hk =>
    match a, xs, hn, hk with
    | [], [], _, _ => exact ⟨16, .counts, by decide, rfl, rfl, rfl⟩
/-! ### how long an answer is -/
theorem doses_len (m life day : Nat) : ∀ (n : Nat) (o : List Vblaak.Vial) (op : List Nat), (Vblaak.doses m life day n o op).2.length ≤ op.length + n
  | 0, o, op => Nat.le_refl _
  | n + 1, [], op => by
    have := doses_len m life day n (if m = 1 then [] else [⟨day + life - 1, m - 1⟩]) (op ++ [day])
    rw [List.length_append, List.length_singleton] at this
    show (Vblaak.doses m life day n _ (op ++ [day])).2.length ≤ _
    omega
  | n + 1, v :: r, op => by
    have := doses_len m life day n (if v.left ≤ 1 then r else ⟨v.last, v.left - 1⟩ :: r) op
    show (Vblaak.doses m life day n _ op).2.length ≤ _
    omega
theorem opening_len (m life : Nat) : ∀ (ns : List Nat) (day : Nat) (o : List Vblaak.Vial), (∀ n ∈ ns, n ≤ 100) → (Vblaak.opening m life day o ns).length ≤ 100 * ns.length
  | [], day, o, _ => by simp [Vblaak.opening]
  | n :: r, day, o, h => by
    have h1 := doses_len m life day n (o.filter fun v => decide (day ≤ v.last)) []
    have h2 := opening_len m life r (day + 1) (Vblaak.doses m life day n (o.filter fun v => decide (day ≤ v.last)) []).1 fun x hx => h x (.tail _ hx)
    have h3 := h n (by simp)
    show ((Vblaak.doses m life day n (o.filter fun v => decide (day ≤ v.last)) []).2 ++ _).length ≤ _
    rw [List.length_append, List.length_cons]
    simp only [List.length_nil] at h1
    omega
theorem ints_len (l : List Nat) : (Vblaak.ints l).length = l.length := by unfold Vblaak.ints; simp
theorem flatten3 : ∀ (l : List (List Nat)), (∀ x ∈ l, x.length = 3) → l.flatten.length = 3 * l.length
  | [], _ => rfl
  | x :: r, h => by rw [List.flatten_cons, List.length_append, h x (by simp), flatten3 r fun y hy => h y (.tail _ hy), List.length_cons]; omega
theorem step_len {s : Stock} (hw : WF s) (hu : s.uses.length < 900) (c : Vblaak.Call) : (Vblaak.step s c).2.length ≤ 5000 := by
  have one : ∀ x : Int, ([x] : List Int).length ≤ 5000 := fun x => by simp
  have tl : ∀ a n : Nat, (Vblaak.ints (Vblaak.tookRow (Vblaak.served s.lots a s.today n).2.1)).length ≤ 5000 := fun a n => by
    rw [served_now, ints_len, took_len]
    have := (tkn_ok s a n).len
    have := hw.lotsN
    show 1 + 2 * (tkn s a n).1.length ≤ 5000
    omega
  cases c with
  | clear => exact one _
  | lot a c l n =>
    show (if (isArticle a && (isDay c && (between l c 400 && between n 1 1000))) = false then (s, [-1]) else if Vblaak.LOTS ≤ s.lots.length then (s, [-2]) else if l < (s.today : Int) then (s, [-3]) else ({ s with lots := s.lots ++ [⟨a.toNat, c.toNat, l.toNat, n.toNat, n.toNat⟩] }, Vblaak.ints [s.lots.length]) : Stock × List Int).2.length ≤ 5000
    split
    · exact one _
    split
    · exact one _
    split
    · exact one _
    · simp [Vblaak.ints]
  | demand a d n =>
    show (if (isArticle a && (isDay d && between n 1 1000)) = false then (s, [-1]) else if Vblaak.DEMANDS ≤ s.demands.length then (s, [-2]) else if d < (s.today : Int) then (s, [-3]) else ({ Vblaak.withDemand s a.toNat d.toNat n.toNat with given := s.given + 1 }, [((s.given + 1 : Nat) : Int), (Vblaak.lacks (Vblaak.withDemand s a.toNat d.toNat n.toNat) a.toNat : Int)]) : Stock × List Int).2.length ≤ 5000
    split
    · exact one _
    split
    · exact one _
    split
    · exact one _
    · simp
  | cancel k =>
    show (match Vblaak.demandAt s k with | none => (s, [-4]) | some x => (Vblaak.without s x.num, Vblaak.ints [x.n]) : Stock × List Int).2.length ≤ 5000
    split
    · exact one _
    · simp [Vblaak.ints]
  | plan a =>
    show (if isArticle a = false then (s, [-1]) else (s, Vblaak.ints ((Vblaak.plan s a.toNat).length :: Vblaak.planServes s a.toNat :: planRow (Vblaak.plan s a.toNat))) : Stock × List Int).2.length ≤ 5000
    split
    · exact one _
    · rw [ints_len, List.length_cons, List.length_cons]
      obtain ⟨p1, p2⟩ := plan_len s a.toNat hw
      have := planRow_len (Vblaak.plan s a.toNat) fun x hx => (p2 x hx).1
      omega
  | told i =>
    show (if isLot s i = false then (s, [-1]) else (s, Vblaak.ints [(lotAt s.lots i.toNat).article, (lotAt s.lots i.toNat).come, (lotAt s.lots i.toNat).last, (lotAt s.lots i.toNat).left, (lotAt s.lots i.toNat).had]) : Stock × List Int).2.length ≤ 5000
    split
    · exact one _
    · simp [Vblaak.ints]
  | tight a =>
    show (if isArticle a = false then (s, [-1]) else (s, Vblaak.ints ((Vblaak.tight s a.toNat).length :: (Vblaak.tight s a.toNat ++ [Vblaak.askedOn s a.toNat (Vblaak.tight s a.toNat), Vblaak.thereFor s a.toNat (Vblaak.tight s a.toNat)]))) : Stock × List Int).2.length ≤ 5000
    split
    · exact one _
    · rw [ints_len, List.length_cons, List.length_append]
      have := tight_len s a.toNat hw
      simp only [List.length_cons, List.length_nil]
      omega
  | bears a d n =>
    show (if (isArticle a && (isDay d && between n 1 1000)) = false then (s, [-1]) else if d < (s.today : Int) then (s, [-3]) else (s, [if Vblaak.bears s a.toNat d.toNat n.toNat = true then 1 else 0]) : Stock × List Int).2.length ≤ 5000
    split
    · exact one _
    split
    · exact one _
    · exact one _
  | spare a d =>
    show (if (isArticle a && isDay d) = false then (s, [-1]) else if d < (s.today : Int) then (s, [-3]) else (s, Vblaak.ints [Vblaak.spare s a.toNat d.toNat]) : Stock × List Int).2.length ≤ 5000
    split
    · exact one _
    split
    · exact one _
    · simp [Vblaak.ints]
  | take k =>
    show (match Vblaak.demandAt s k with | none => (s, [-4]) | some x => if x.day ≠ s.today then (s, [-5]) else if 0 < (Vblaak.served s.lots x.article s.today x.n).2.2 then (s, [-7]) else (Vblaak.used (Vblaak.without s x.num) x.article (Vblaak.served s.lots x.article s.today x.n), Vblaak.ints (Vblaak.tookRow (Vblaak.served s.lots x.article s.today x.n).2.1)) : Stock × List Int).2.length ≤ 5000
    split
    · exact one _
    split
    · exact one _
    split
    · exact one _
    · exact tl _ _
  | use a n =>
    show (if (isArticle a && between n 1 1000) = false then (s, [-1]) else if 0 < (Vblaak.served s.lots a.toNat s.today n.toNat).2.2 then (s, [-7]) else if Vblaak.lacks s a.toNat < Vblaak.lacks (Vblaak.used s a.toNat (Vblaak.served s.lots a.toNat s.today n.toNat)) a.toNat then (s, [-9]) else (Vblaak.used s a.toNat (Vblaak.served s.lots a.toNat s.today n.toNat), Vblaak.ints (Vblaak.tookRow (Vblaak.served s.lots a.toNat s.today n.toNat).2.1)) : Stock × List Int).2.length ≤ 5000
    split
    · exact one _
    split
    · exact one _
    split
    · exact one _
    · exact tl _ _
  | today d =>
    show (if between d (s.today : Int) 400 = false then (s, [-1]) else (_, Vblaak.ints [_, _]) : Stock × List Int).2.length ≤ 5000
    split
    · exact one _
    · simp [Vblaak.ints]
  | withdraw i =>
    show (if isLot s i = false then (s, [-1]) else (_, Vblaak.ints [_, _]) : Stock × List Int).2.length ≤ 5000
    split
    · exact one _
    · simp [Vblaak.ints]
  | usedFrom i =>
    show (if isLot s i = false then (s, [-1]) else (s, Vblaak.rows (((List.range s.uses.length).zip s.uses).filterMap fun u => (u.2.took.find? fun e => e.1 == i.toNat).map fun e => [u.1, u.2.day, e.2])) : Stock × List Int).2.length ≤ 5000
    split
    · exact one _
    · unfold Vblaak.rows
      rw [ints_len, List.length_cons, flatten3]
      · have := List.length_filterMap_le (fun u : Nat × Use => (u.2.took.find? fun e => e.1 == i.toNat).map fun e => [u.1, u.2.day, e.2]) ((List.range s.uses.length).zip s.uses)
        rw [List.length_zip, List.length_range] at this
        omega
      · intro x hx
        obtain ⟨u, _, e⟩ := List.mem_filterMap.mp hx
        cases hf : u.2.took.find? fun e => e.1 == i.toNat with
        | none => rw [hf] at e; cases e
        | some y => rw [hf] at e; cases e; rfl
  | waste a =>
    show (if isArticle a = false then (s, [-1]) else (s, Vblaak.ints [_]) : Stock × List Int).2.length ≤ 5000
    split
    · exact one _
    · simp [Vblaak.ints]
  | vials m life r =>
    show (if (between m 1 100 && (between life 1 60 && (decide (r.length ≤ 40) && r.all fun n => between n 0 100))) = false then (s, [-1]) else (s, Vblaak.ints ((Vblaak.vials m.toNat life.toNat (r.map Int.toNat)).length :: Vblaak.vials m.toNat life.toNat (r.map Int.toNat))) : Stock × List Int).2.length ≤ 5000
    split
    · exact one _
    · rename_i h
      rw [Bool.not_eq_false, Bool.and_eq_true, Bool.and_eq_true, Bool.and_eq_true] at h
      have hl : r.length ≤ 40 := of_decide_eq_true h.2.2.1
      rw [ints_len, List.length_cons]
      have := opening_len m.toNat life.toNat (r.map Int.toNat) 0 [] fun n hn => by
        obtain ⟨z, hz, rfl⟩ := List.mem_map.mp hn
        have := betw.mp (List.all_eq_true.mp h.2.2.2 z hz)
        omega
      rw [List.length_map] at this
      unfold Vblaak.vials
      omega
  | counts => simp [Vblaak.step, Vblaak.ints]
theorem uses_step (s : Stock) (c : Vblaak.Call) : (Vblaak.step s c).1.uses.length ≤ s.uses.length + 1 := by
  cases c with
  | clear => exact Nat.zero_le _
  | lot a c l n =>
    show (if (isArticle a && (isDay c && (between l c 400 && between n 1 1000))) = false then (s, [-1]) else if Vblaak.LOTS ≤ s.lots.length then (s, [-2]) else if l < (s.today : Int) then (s, [-3]) else ({ s with lots := s.lots ++ [⟨a.toNat, c.toNat, l.toNat, n.toNat, n.toNat⟩] }, Vblaak.ints [s.lots.length]) : Stock × List Int).1.uses.length ≤ _
    split
    · exact Nat.le_succ _
    split
    · exact Nat.le_succ _
    split
    · exact Nat.le_succ _
    · exact Nat.le_succ _
  | demand a d n =>
    show (if (isArticle a && (isDay d && between n 1 1000)) = false then (s, [-1]) else if Vblaak.DEMANDS ≤ s.demands.length then (s, [-2]) else if d < (s.today : Int) then (s, [-3]) else ({ Vblaak.withDemand s a.toNat d.toNat n.toNat with given := s.given + 1 }, [((s.given + 1 : Nat) : Int), (Vblaak.lacks (Vblaak.withDemand s a.toNat d.toNat n.toNat) a.toNat : Int)]) : Stock × List Int).1.uses.length ≤ _
    split
    · exact Nat.le_succ _
    split
    · exact Nat.le_succ _
    split
    · exact Nat.le_succ _
    · exact Nat.le_succ _
  | cancel k =>
    show (match Vblaak.demandAt s k with | none => (s, [-4]) | some x => (Vblaak.without s x.num, Vblaak.ints [x.n]) : Stock × List Int).1.uses.length ≤ _
    split
    · exact Nat.le_succ _
    · exact Nat.le_succ _
  | plan a =>
    show (if isArticle a = false then (s, [-1]) else (s, _) : Stock × List Int).1.uses.length ≤ _
    split
    · exact Nat.le_succ _
    · exact Nat.le_succ _
  | told i =>
    show (if isLot s i = false then (s, [-1]) else (s, _) : Stock × List Int).1.uses.length ≤ _
    split
    · exact Nat.le_succ _
    · exact Nat.le_succ _
  | tight a =>
    show (if isArticle a = false then (s, [-1]) else (s, _) : Stock × List Int).1.uses.length ≤ _
    split
    · exact Nat.le_succ _
    · exact Nat.le_succ _
  | bears a d n =>
    show (if (isArticle a && (isDay d && between n 1 1000)) = false then (s, [-1]) else if d < (s.today : Int) then (s, [-3]) else (s, [if Vblaak.bears s a.toNat d.toNat n.toNat = true then 1 else 0]) : Stock × List Int).1.uses.length ≤ _
    split
    · exact Nat.le_succ _
    split
    · exact Nat.le_succ _
    · exact Nat.le_succ _
  | spare a d =>
    show (if (isArticle a && isDay d) = false then (s, [-1]) else if d < (s.today : Int) then (s, [-3]) else (s, Vblaak.ints [Vblaak.spare s a.toNat d.toNat]) : Stock × List Int).1.uses.length ≤ _
    split
    · exact Nat.le_succ _
    split
    · exact Nat.le_succ _
    · exact Nat.le_succ _
  | take k =>
    show (match Vblaak.demandAt s k with | none => (s, [-4]) | some x => if x.day ≠ s.today then (s, [-5]) else if 0 < (Vblaak.served s.lots x.article s.today x.n).2.2 then (s, [-7]) else (Vblaak.used (Vblaak.without s x.num) x.article (Vblaak.served s.lots x.article s.today x.n), Vblaak.ints (Vblaak.tookRow (Vblaak.served s.lots x.article s.today x.n).2.1)) : Stock × List Int).1.uses.length ≤ _
    split
    · exact Nat.le_succ _
    split
    · exact Nat.le_succ _
    split
    · exact Nat.le_succ _
    · simp [Vblaak.used, Vblaak.without]
  | use a n =>
    show (if (isArticle a && between n 1 1000) = false then (s, [-1]) else if 0 < (Vblaak.served s.lots a.toNat s.today n.toNat).2.2 then (s, [-7]) else if Vblaak.lacks s a.toNat < Vblaak.lacks (Vblaak.used s a.toNat (Vblaak.served s.lots a.toNat s.today n.toNat)) a.toNat then (s, [-9]) else (Vblaak.used s a.toNat (Vblaak.served s.lots a.toNat s.today n.toNat), Vblaak.ints (Vblaak.tookRow (Vblaak.served s.lots a.toNat s.today n.toNat).2.1)) : Stock × List Int).1.uses.length ≤ _
    split
    · exact Nat.le_succ _
    split
    · exact Nat.le_succ _
    split
    · exact Nat.le_succ _
    · simp [Vblaak.used]
  | today d =>
    show (if between d (s.today : Int) 400 = false then (s, [-1]) else ({ s with today := _, lots := _, demands := _, thrown := _ }, Vblaak.ints [_, _]) : Stock × List Int).1.uses.length ≤ _
    split
    · exact Nat.le_succ _
    · exact Nat.le_succ _
  | withdraw i =>
    show (if isLot s i = false then (s, [-1]) else ({ s with lots := _, drawn := _ }, Vblaak.ints [_, _]) : Stock × List Int).1.uses.length ≤ _
    split
    · exact Nat.le_succ _
    · exact Nat.le_succ _
  | usedFrom i =>
    show (if isLot s i = false then (s, [-1]) else (s, _) : Stock × List Int).1.uses.length ≤ _
    split
    · exact Nat.le_succ _
    · exact Nat.le_succ _
  | waste a =>
    show (if isArticle a = false then (s, [-1]) else (s, Vblaak.ints [_]) : Stock × List Int).1.uses.length ≤ _
    split
    · exact Nat.le_succ _
    · exact Nat.le_succ _
  | vials m life r =>
    show (if (between m 1 100 && (between life 1 60 && (decide (r.length ≤ 40) && r.all fun n => between n 0 100))) = false then (s, [-1]) else (s, _) : Stock × List Int).1.uses.length ≤ _
    split
    · exact Nat.le_succ _
    · exact Nat.le_succ _
  | counts => exact Nat.le_succ _
end Rs
end
section
set_option maxHeartbeats 2000000
namespace Rs
open PySem PySem.Spec PyProof.Rows L2
open Vblaak (Lot Demand Stock Use lotAt)
theorem Ok.mono {P : Program} {w : World} {K : PySem.W.Frag} {mg : Str → Option Value} {base : Heap} {j k : Nat} {x : Str} {ps : List Str} {sp : Sp} (h : Ok P w K mg base j x ps sp) (hj : j ≤ k) : Ok P w K mg base k x ps sp :=
  let ⟨f, fd, F, r⟩ := h; ⟨f, fd, F.mono hj, r⟩
theorem pe_okC0 {X : Cx} {k : Nat} {x : Str} {ps : List Str} {sp : Sp} {C : Addr} {p pos : Pos} (F : OkC X.prog X.w X.K X.mg X.base C k x ps sp) (hr : Room (k + 1) X.A) (hg : Gl X x := by rfl) (hdb : (x == ("__debug__" : Str)) = false := by decide) :
    PE X (.Call (.Name x p) [] [] pos) (tMake C sp [] E0 tNil) := by
  obtain ⟨f, fd, F, hm, hk, hb⟩ := F
  exact pe_make0 hk F hr hg hm hb .nil pass0 hdb
abbrev ANS : List Str := ["answer_clear", "answer_lot", "answer_demand", "answer_cancel", "answer_plan", "answer_told", "answer_tight", "answer_bears", "answer_spare", "answer_take", "answer_use", "answer_today", "answer_withdraw", "answer_used_from", "answer_waste", "answer_vials", "answer_counts"]
structure TabOk (K : PySem.W.Frag) (mg : Str → Option Value) : Prop where
  ans : ∃ (t : Addr) (o : Obj) (its : Array Value) (n : Nat) (fs : List Addr), mg "ANSWERING" = some (.ref t) ∧ K.lookup t = some o ∧ o.cls = .type "tuple" ∧ o.data = .seq its n ∧ its.toList = fs.map Value.ref ∧ fs.length = 17 ∧ ∀ (j : Nat) (x : Str) (f : Addr), ANS[j]? = some x → fs[j]? = some f → mg x = some (.ref f)
  whn : ∃ (t : Addr) (o : Obj) (its : Array Value) (n : Nat), mg "WHOLE_NUMBERS" = some (.ref t) ∧ K.lookup t = some o ∧ o.cls = .type "tuple" ∧ o.data = .seq its n ∧ Vals (WH.map fun (n : Nat) => V.int n) its.toList
theorem vals_refs : ∀ (fs : List Addr), Vals (fs.map V.ref) (fs.map Value.ref)
  | [] => .nil
  | f :: r => .cons rfl (vals_refs r)
section
variable {P : Program} {w : World} {K : PySem.W.Frag} {mg : Str → Option Value} {base : Heap} {CL CD CS CU CT : Addr}
/-! answer_call -/
abbrev sCa : Stmt := top 63
def spCa (CL CD CU CT : Addr) : Sp := fun vs H Q _ => ∃ S E s g args c, ∃ j : Nat, vs = [.ref S, .int (j : Nat), .ref g] ∧ StockAt CL CD CU CT H S E s ∧ H g = some (.lst (args.map V.int)) ∧ j < 17 ∧ mkAt j args = some c ∧ s.uses.length < 900 ∧ KAns CL CD CU CT S E H s c Q
theorem scCa : FnScope ["stock", "place", "given"] ["stock", "place", "given"] (defScope sCa) := ⟨rfl, rfl, rfl, by decide +kernel, rfl, by decide +kernel, by decide +kernel⟩
theorem ok_ca (h : Has K mg "answer_call" sCa ["stock", "place", "given"]) (TT : TabOk K mg) (G : ∀ (j : Nat) (x : Str), ANS[j]? = some x → Ok P w K mg base 9 x ["stock", "given"] (spAns CL CD CU CT (mkAt j))) : Ok P w K mg base 10 "answer_call" ["stock", "place", "given"] (spCa CL CD CU CT) := by
  refine h.ok scCa (fun vs H Q E h => ?_) (fun f cdv A outer s H vs Q E hr h => ?_)
  · obtain ⟨S, E, s, g, args, c, j, rfl, _⟩ := h
    rfl
  · obtain ⟨S, E, st, g, args, c, j, rfl, hS, hg, hj, hmk, hu, k⟩ := h
    obtain ⟨t, o, its, n, fs, hmg, hlk, hcl, hda, hit, hfl, hfs⟩ := TT.ans
    refine ⟨_, pss_one (ps_ret (pe_callV (pe_ix ix_tup (pe_glob (v := .ref t) (by rfl) hmg rfl) (pv 1) (fun _ _ => rfl)) (pa_cons (pv 0) (pa_cons (pv 2) pa_nil)))), ?_⟩
    obtain ⟨x, hx⟩ : ∃ x, ANS[j]? = some x := ⟨_, List.getElem?_eq_getElem (show j < ANS.length from hj)⟩
    obtain ⟨f', hf'⟩ : ∃ f', fs[j]? = some f' := ⟨_, List.getElem?_eq_getElem (by rw [hfl]; exact hj)⟩
    obtain ⟨f2, fd, F, hm, hk, hb⟩ := G j x hx
    have ef : f2 = f' := by
      have := hfs j x f' hx hf'
      rw [hm] at this
      exact Value.ref.inj (Option.some.inj this)
    subst ef
    have hsz : its.size ≤ sizeLine := by
      have : its.size = 17 := by rw [← Array.length_toList, hit, List.length_map, hfl]
      rw [this]; decide
    have hsq : SqT K H t (fs.map V.ref) := .inr ⟨o, its, n, hlk, hcl, hda, hsz, by rw [hit]; exact vals_refs fs⟩
    exact ⟨_, rfl, t, _, _, .ref f2, rfl, rfl, hsq, at_of (j := j) rfl (by rw [List.getElem?_map, hf']; rfl), f2, fd, _, _, 9, rfl, F, hr, hk, hb, _, rfl, _, rfl, S, E, st, g, args, c, rfl, hS, hg, hmk, hu, k⟩
/-! cut_calls -/
theorem put_append (xs ys : List (List (List Int))) : PyFlat.put (xs ++ ys) = PyFlat.put xs ++ PyFlat.put ys := by
  induction xs with
  | nil => rfl
  | cons x r ih => show PyFlat.put1 x ++ PyFlat.put (r ++ ys) = (PyFlat.put1 x ++ PyFlat.put r) ++ _; rw [ih, List.append_assoc]
theorem cut_mid (pre mid suf : List Int) (lo hi : Int) (h1 : lo = (pre.length : Int)) (h2 : hi = (pre.length + mid.length : Nat)) : cutV ((pre ++ mid ++ suf).map V.int) (some lo) (some hi) = mid.map V.int := by
  subst h1 h2
  unfold cutV
  rw [HT.sIx_nat, HT.sIx_nat, List.length_map]
  have hl : (pre ++ mid ++ suf).length = pre.length + mid.length + suf.length := by simp <;> omega
  rw [hl, Nat.min_eq_left (by omega), Nat.min_eq_left (by omega), List.map_append, List.map_append, List.append_assoc, Nat.add_sub_cancel_left]
  rw [List.drop_append_of_le_length (by simp)]
  rw [List.drop_eq_nil_of_le (by simp), List.nil_append, List.take_append_of_le_length (by simp), List.take_of_length_le (by simp)]
theorem at_mid (pre suf : List Int) (x : Int) (i : Int) (h : i = (pre.length : Int)) : atI ((pre ++ x :: suf).map V.int) i = some (.int x) := by
  subst h
  refine atI_nat ?_
  rw [List.getElem?_map, List.getElem?_append_right (Nat.le_refl _), Nat.sub_self]
  rfl
def CallsAt (H0 H : Hp) (t : Addr) (ps : List (Int × List Int)) : Prop := ∃ zs : List (Addr × Addr × (Int × List Int)), H t = some (.lst (zs.map fun z => V.ref z.1)) ∧ zs.map (fun z => z.2.2) = ps ∧
  ∀ z ∈ zs, H z.1 = some (.tup [.int z.2.2.1, .ref z.2.1]) ∧ H z.2.1 = some (.lst (z.2.2.2.map V.int)) ∧ z.2.1 ≠ t ∧ H0 z.1 = none ∧ H0 z.2.1 = none
theorem CallsAt.snoc {H0 H : Hp} {t q g : Addr} {ps : List (Int × List Int)} {p : Int} {args : List Int} (h : CallsAt H0 H t ps) (hs : Same H0 H) (hg : H g = some (.lst (args.map V.int))) (hgt : g ≠ t) (hg0 : H0 g = none) (hq : H q = none) :
    ∃ xs, H t = some (.lst xs) ∧ xs.length = ps.length ∧ CallsAt H0 (upd (upd H q (.tup [.int p, .ref g])) t (.lst (xs ++ [.ref q]))) t (ps ++ [(p, args)]) := by
  obtain ⟨zs, h1, h2, h3⟩ := h
  have hqt : q ≠ t := fun e => by rw [e, h1] at hq; cases hq
  refine ⟨_, h1, by rw [List.length_map, ← h2, List.length_map], zs ++ [(q, g, (p, args))], ?_, ?_, fun z hz => ?_⟩
  · rw [upd_same, List.map_append]; rfl
  · rw [List.map_append, h2]; rfl
  · rcases List.mem_append.mp hz with m | m
    · obtain ⟨g1, g2, g3, g4, g5⟩ := h3 z m
      refine ⟨?_, ?_, g3, g4, g5⟩
      · rw [upd_ne (ne_of g1 h1 (by intro z; cases z)), upd_ne (ne_of_none g1 hq)]; exact g1
      · rw [upd_ne g3, upd_ne (ne_of_none g2 hq)]; exact g2
    · rw [List.mem_singleton.mp m]
      refine ⟨?_, ?_, hgt, hs.free hq, hg0⟩
      · rw [upd_ne hqt]; exact upd_same
      · rw [upd_ne hgt, upd_ne (ne_of_none hg hq)]; exact hg
abbrev sCut : Stmt := top 70
def spCut (K : PySem.W.Frag) : Sp := fun vs H Q _ => ∃ (a : Addr) (cs : List (List (List Int))), vs = [.ref a] ∧ SqL K H a ((PyFlat.put cs).map V.int) ∧ (PyFlat.put cs).length ≤ 16000 ∧ (∀ c ∈ cs, PyFlat.okCall PyVblaak.shape c) ∧
  ∀ H' t, Same H H' → H t = none → CallsAt H H' t (cs.map flatC) → Q (.ref t) H'
theorem scCut : FnScope ["line", "calls", "at", "place", "behind", "given", "first"] ["line"] (defScope sCut) := ⟨rfl, rfl, rfl, by decide +kernel, rfl, by decide +kernel, by decide +kernel⟩
theorem put_len : ∀ (cs : List (List (List Int))), (∀ c ∈ cs, PyFlat.okCall PyVblaak.shape c) → cs.length ≤ (PyFlat.put cs).length
  | [], _ => Nat.le_refl _
  | c :: r, h => by
    have h1 := put_len r fun x hx => h x (.tail _ hx)
    obtain ⟨p, a, xs, rfl, _⟩ := h c (by simp)
    show _ ≤ (((p :: a) ++ PyFlat.putRows xs) ++ PyFlat.put r).length
    rw [List.length_append, List.length_append, List.length_cons, List.length_cons]
    omega
theorem ok_cut (h : Has K mg "cut_calls" sCut ["line"]) (T : Txt K mg CL CD CS) (TB : TxtB K mg CU CT) (TT : TabOk K mg) : Ok P w K mg base 1 "cut_calls" ["line"] (spCut K) := by
  refine h.ok scCut (fun vs H Q E h => ?_) (fun f cdv A outer s H vs Q E hr h => ?_)
  · obtain ⟨a, cs, rfl, _⟩ := h
    rfl
  · obtain ⟨a, cs, rfl, hsq, hl16, hok, k⟩ := h
    obtain ⟨t, o, its, n, hmg, hlk, hcl, hda, hvals⟩ := TT.whn
    refine ⟨_, pss_cons (ps_set (i := 1) scCut.nd rfl (Or.inl rfl) (pe_lst pa_nil)) <| pss_cons (ps_set (i := 2) scCut.nd rfl (Or.inl rfl) pe_int) <|
      pss_cons (ps_while PassesOwn.never (pt_cmpR op_lt (pv 2) (pe_callB call_len_seq (by rfl) (T.blt _ (by decide)) PySem.boot_len (pa_cons (pv 0) pa_nil)) (nomark _))
        (pss_cons (ps_set (i := 3) scCut.nd rfl (Or.inl rfl) (pe_ix ix_list (pv 0) (pv 2) (fun _ _ => rfl))) <|
         pss_cons (ps_set (i := 4) scCut.nd rfl (Or.inl rfl) (pe_op op_add (pe_op op_add (pv 2) pe_int) (pe_ix ix_tup (pe_glob (v := .ref t) (by rfl) hmg rfl) (pv 3) (fun _ _ => rfl)))) <|
         pss_cons (ps_set (i := 5) scCut.nd rfl (Or.inl rfl) (pe_slice sl_list (pv 0) (po_some (pe_op op_add (pv 2) pe_int)) (po_some (pv 4)))) <|
         pss_cons (ps_if (pt_cmpR op_eq (pv 3) (pe_gi (TB.gi ("VIALS", 15) (by decide))) (nomark _))
           (pss_cons (ps_set (i := 6) scCut.nd rfl (Or.inl rfl) (pe_op op_add (pv 4) pe_int)) <|
            pss_cons (ps_set (i := 4) scCut.nd rfl (Or.inl rfl) (pe_op op_add (pv 6) (pe_ix ix_list (pv 0) (pv 4) (fun _ _ => rfl)))) <|
            pss_one (ps_expr (pe_bm PySem.F.plainAttrs_list PySem.F.slot_list_extend PySem.F.type_list_extend mt_extend (pv 5) (pa_cons (pe_slice sl_list (pv 0) (po_some (pv 6)) (po_some (pv 4))) pa_nil)))) pss_nil) <|
         pss_cons (ps_expr (pe_bm PySem.F.plainAttrs_list PySem.F.slot_list_append PySem.F.type_list_append mt_append (pv 1) (pa_cons (pe_tup (pa_cons (pv 3) (pa_cons (pv 5) pa_nil))) pa_nil))) <|
         pss_one (ps_set (i := 2) scCut.nd rfl (Or.inl rfl) (pv 4)))) <|
      pss_one (ps_ret (pv 1)), ?_⟩
    have hsz : its.size ≤ sizeLine := by
      have : its.size = 17 := by rw [← Array.length_toList, ← Vals.length hvals]; rfl
      rw [this]; decide
    have hwh : ∀ H', SqT K H' t (WH.map fun (n : Nat) => V.int n) := fun H' => .inr ⟨o, its, n, hlk, hcl, hda, hsz, hvals⟩
    have hcl16 := put_len cs hok
    refine ⟨Nat.zero_le _, fun cl hcl0 => ?_⟩
    have s0 : Same H (upd H cl (.lst [])) := same_new hcl0
    refine ⟨fun m σ H' => ∃ (j : Nat) (v3 v4 v5 v6 : Option V), m = cs.length - j ∧ j ≤ cs.length ∧ σ = [some (.ref a), some (.ref cl), some (.int ((PyFlat.put (cs.take j)).length : Nat)), v3, v4, v5, v6] ∧ Same H H' ∧ CallsAt H H' cl ((cs.take j).map flatC),
      ⟨_, 0, none, none, none, none, rfl, Nat.zero_le _, rfl, s0, [], upd_same, rfl, by simp⟩, ?_⟩
    rintro m σ H' ⟨j, v3, v4, v5, v6, rfl, hjl, rfl, s1, hca⟩
    refine ⟨_, rfl, _, rfl, a, _, rfl, .inl (s1.seq hsq), _, _, rfl, rfl, _, rfl, ?_⟩
    rw [List.length_map]
    by_cases hj : j < cs.length
    · obtain ⟨c, hcj⟩ : ∃ c, cs[j]? = some c := ⟨_, List.getElem?_eq_getElem hj⟩
      have hsplit := split_at hcj
      have hput : PyFlat.put cs = PyFlat.put (cs.take j) ++ PyFlat.put1 c ++ PyFlat.put (cs.drop (j + 1)) := by
        conv => lhs; rw [hsplit]
        rw [put_append, List.append_assoc]
        rfl
      have htk : cs.take (j + 1) = cs.take j ++ [c] := by rw [List.take_add_one, hcj]; rfl
      have hput2 : PyFlat.put (cs.take (j + 1)) = PyFlat.put (cs.take j) ++ PyFlat.put1 c := by
        rw [htk, put_append]
        show _ ++ (PyFlat.put1 c ++ []) = _
        rw [List.append_nil]
      obtain ⟨p, aa, xs, rfl, hshape⟩ := hok c (List.mem_of_getElem? hcj)
      obtain ⟨jj, hjj, rfl, hwj, hk⟩ := shape_inv hshape
      generalize hpre : PyFlat.put (cs.take j) = pre at hput hput2 ⊢
      generalize hsuf : PyFlat.put (cs.drop (j + 1)) = suf at hput
      have hp1 : PyFlat.put1 (((jj : Int) :: aa) :: xs) = (jj : Int) :: (aa ++ PyFlat.putRows xs) := rfl
      rw [hp1] at hput hput2
      have hlt : pre.length < (PyFlat.put cs).length := by rw [hput, List.length_append, List.length_append, List.length_cons]; omega
      have hc1 : decide ((pre.length : Int) < ((PyFlat.put cs).length : Int)) = true := decide_eq_true (by omega)
      rw [hc1]
      refine iteT ⟨fun σ H' => ∃ (v3 v4 v5 v6 : Option V), σ = [some (.ref a), some (.ref cl), some (.int ((PyFlat.put (cs.take (j + 1))).length : Nat)), v3, v4, v5, v6] ∧ Same H H' ∧ CallsAt H H' cl ((cs.take (j + 1)).map flatC), fun σ' H2 ⟨w3, w4, w5, w6, e1, e2, e3⟩ => ⟨cs.length - (j + 1), by omega, j + 1, w3, w4, w5, w6, rfl, hj, e1, e2, e3⟩, ?_⟩
      have hsq1 := s1.seq hsq
      have e1 : PyFlat.put cs = pre ++ (jj : Int) :: (aa ++ PyFlat.putRows xs ++ suf) := by rw [hput]; simp
      refine ⟨_, rfl, _, rfl, a, _, _, _, rfl, rfl, hsq1, by rw [e1]; exact at_mid pre _ (jj : Int) _ rfl, ?_⟩
      refine ⟨_, rfl, _, _, rfl, rfl, _, rfl, t, _, _, _, rfl, rfl, hwh H', at_of (j := jj) (v := .int (aa.length : Nat)) rfl (by rw [List.getElem?_map, hwj]; rfl), _, _, rfl, rfl, ?_⟩
      refine ⟨_, rfl, _, rfl, _, _, rfl, rfl, _, rfl, _, rfl, _, rfl, a, _, rfl, hsq1, fun g hg => ?_⟩
      have ecut : cutV ((PyFlat.put cs).map V.int) (some ((pre.length : Int) + 1)) (some ((pre.length : Int) + 1 + (aa.length : Int))) = aa.map V.int := by
        have e2 : PyFlat.put cs = (pre ++ [(jj : Int)]) ++ aa ++ (PyFlat.putRows xs ++ suf) := by rw [e1]; simp
        rw [e2]
        exact cut_mid _ _ _ _ _ (by simp) (by simp <;> omega)
      have hwh' : ∀ z : Int, z = (pre.length : Int) + 1 + (aa.length : Int) → cutV ((PyFlat.put cs).map V.int) (some ((pre.length : Int) + 1)) (some z) = aa.map V.int := fun z e => by rw [e]; exact ecut
      rw [hwh' _ rfl]
      have s2 : Same H (upd H' g (.lst (aa.map V.int))) := s1.trans (same_new hg)
      have hgH : H g = none := s1.free hg
      have hgcl : g ≠ cl := fun e => by obtain ⟨zs, z1, _⟩ := hca; rw [e, z1] at hg; cases hg
      have hca2 : CallsAt H (upd H' g (.lst (aa.map V.int))) cl ((cs.take j).map flatC) := by
        obtain ⟨zs, z1, z2, z3⟩ := hca
        exact ⟨zs, same_new hg _ _ z1, z2, fun z hz => ⟨same_new hg _ _ (z3 z hz).1, same_new hg _ _ (z3 z hz).2.1, (z3 z hz).2.2⟩⟩
      refine ⟨_, rfl, rfl, _, rfl, ?_⟩
      rw [dec_int]
      by_cases h15 : jj = 15
      · -- vials
        subst h15
        have hx1 : xs.length = 1 := by rw [hk]; rfl
        obtain ⟨row, rfl⟩ : ∃ row, xs = [row] := by
          match xs, hx1 with
          | [row], _ => exact ⟨row, rfl⟩
        have epr : PyFlat.putRows [row] = (row.length : Int) :: row := by show (((row.length : Int) :: row) ++ []) = _; rw [List.append_nil]
        rw [epr] at e1 hput2
        refine iteT ?_
        refine ⟨_, rfl, _, _, rfl, rfl, ?_⟩
        have hsq2 := s2.seq hsq
        have e3 : PyFlat.put cs = (pre ++ (15 : Int) :: aa) ++ (row.length : Int) :: (row ++ suf) := by rw [e1]; simp
        refine ⟨_, rfl, _, rfl, _, rfl, a, _, _, _, rfl, rfl, hsq2, by rw [e3]; exact at_mid _ _ (row.length : Int) _ (by simp <;> omega), _, _, rfl, rfl, ?_⟩
        refine ⟨_, rfl, .inl ⟨rfl, _, SqL.of upd_same⟩, _, rfl, _, rfl, _, rfl, _, rfl, _, rfl, a, _, rfl, hsq2, fun g2 hg2 => ?_⟩
        have ecut2 : cutV ((PyFlat.put cs).map V.int) (some ((pre.length : Int) + 1 + (aa.length : Int) + 1)) (some ((pre.length : Int) + 1 + (aa.length : Int) + 1 + (row.length : Int))) = row.map V.int := by
          have e4 : PyFlat.put cs = (pre ++ (15 : Int) :: (aa ++ [(row.length : Int)])) ++ row ++ suf := by rw [e1]; simp
          rw [e4]
          exact cut_mid _ _ _ _ _ (by simp <;> omega) (by simp <;> omega)
        have hc2' : ∀ y z : Int, y = (pre.length : Int) + 1 + (aa.length : Int) + 1 → z = (pre.length : Int) + 1 + (aa.length : Int) + 1 + (row.length : Int) → cutV ((PyFlat.put cs).map V.int) (some y) (some z) = row.map V.int := fun y z e1 e2 => by rw [e1, e2]; exact ecut2
        rw [hc2' _ _ rfl rfl]
        have hlen2 : (aa.map V.int).length + (row.map V.int).length ≤ sizeLine := by
          rw [List.length_map, List.length_map]
          have : aa.length + row.length ≤ (PyFlat.put cs).length := by rw [e1]; simp; omega
          exact Nat.le_of_lt (small1000' (by omega))
        refine ⟨g, g2, _, _, rfl, rfl, (upd_ne (ne_of_none upd_same hg2)).trans upd_same, upd_same, hlen2, ?_⟩
        generalize hH4 : upd (upd (upd H' g (.lst (aa.map V.int))) g2 (.lst (row.map V.int))) g (.lst (aa.map V.int ++ row.map V.int)) = H4
        have s4 : Same H H4 := fun b o' e => by
          rw [← hH4, upd_ne (ne_of_none e hgH), upd_ne (ne_of_none (s2 _ _ e) hg2)]
          exact s2 _ _ e
        have hg4 : H4 g = some (.lst ((aa ++ row).map V.int)) := by rw [← hH4, upd_same, List.map_append]
        have hca4 : CallsAt H H4 cl ((cs.take j).map flatC) := by
          obtain ⟨zs, z1, z2, z3⟩ := hca
          have kp : ∀ b o', H' b = some o' → H4 b = some o' := fun b o' e => by
            rw [← hH4, upd_ne (ne_of_none e hg), upd_ne (ne_of_none (same_new hg _ _ e) hg2)]
            exact same_new hg _ _ e
          exact ⟨zs, kp _ _ z1, z2, fun z hz => ⟨kp _ _ (z3 z hz).1, kp _ _ (z3 z hz).2.1, (z3 z hz).2.2⟩⟩
        obtain ⟨zs, z1, z2, _⟩ := id hca4
        refine ⟨_, rfl, .inl ⟨rfl, _, SqL.of z1⟩, _, rfl, _, rfl, (by show 2 ≤ sizeLine; decide), fun q hq => ?_⟩
        obtain ⟨ys, y1, y2, y3⟩ := hca4.snoc (p := 15) s4 hg4 hgcl hgH hq
        rw [z1] at y1
        cases y1
        have hyl : (zs.map fun z => V.ref z.1).length ≤ 16000 := by
          rw [y2, List.length_map, List.length_take]
          omega
        refine ⟨cl, _, _, rfl, rfl, (upd_ne (ne_of_none z1 hq)).trans z1, small1000' (by omega), ?_⟩
        refine ⟨_, rfl, some (.int ((15 : Nat) : Int)), some (.int ((pre.length : Int) + 1 + (aa.length : Int) + 1 + (row.length : Int))), some (.ref g), some (.int ((pre.length : Int) + 1 + (aa.length : Int) + 1)), ?_, fun b o' e => ?_, ?_⟩
        · rw [hput2]
          have : ((pre ++ (15 : Int) :: (aa ++ (row.length : Int) :: row)).length : Int) = (pre.length : Int) + 1 + (aa.length : Int) + 1 + (row.length : Int) := by simp <;> omega
          have e9 : V.int (((pre ++ ((15 : Nat) : Int) :: (aa ++ (row.length : Int) :: row)).length : Nat) : Int) = V.int ((pre.length : Int) + 1 + (aa.length : Int) + 1 + (row.length : Int)) := congrArg V.int this
          rw [e9]
          rfl
        · rw [upd_ne (ne_of_none e hcl0), upd_ne (ne_of_none (s4 _ _ e) hq)]; exact s4 _ _ e
        · have ef : (cs.take (j + 1)).map flatC = (cs.take j).map flatC ++ [((15 : Int), aa ++ row)] := by
            rw [htk, List.map_append]
            show _ ++ [((15 : Int), aa ++ (row ++ []))] = _
            rw [List.append_nil]
          rw [ef]
          exact y3
      · have hx0 : xs = [] := by
          rw [if_neg h15] at hk
          exact List.eq_nil_of_length_eq_zero hk
        subst hx0
        have : ((jj : Int) == 15) = false := by
          have : ¬ (jj : Int) = 15 := by omega
          simpa using this
        rw [this]
        refine iteF ?_
        obtain ⟨zs, z1, z2, _⟩ := id hca2
        refine ⟨_, rfl, .inl ⟨rfl, _, SqL.of z1⟩, _, rfl, _, rfl, (by show 2 ≤ sizeLine; decide), fun q hq => ?_⟩
        obtain ⟨ys, y1, y2, y3⟩ := hca2.snoc (p := (jj : Int)) s2 upd_same hgcl hgH hq
        rw [z1] at y1
        cases y1
        have hyl : (zs.map fun z => V.ref z.1).length ≤ 16000 := by
          rw [y2, List.length_map, List.length_take]
          omega
        refine ⟨cl, _, _, rfl, rfl, (upd_ne (ne_of_none z1 hq)).trans z1, small1000' (by omega), ?_⟩
        refine ⟨_, rfl, some (.int (jj : Int)), some (.int ((pre.length : Int) + 1 + (aa.length : Int))), some (.ref g), v6, ?_, fun b o' e => ?_, ?_⟩
        · rw [hput2]
          have : ((pre ++ (jj : Int) :: (aa ++ PyFlat.putRows [])).length : Int) = (pre.length : Int) + 1 + (aa.length : Int) := by
            show ((pre ++ (jj : Int) :: (aa ++ [])).length : Int) = _
            simp <;> omega
          have e9 : V.int (((pre ++ (jj : Int) :: (aa ++ PyFlat.putRows [])).length : Nat) : Int) = V.int ((pre.length : Int) + 1 + (aa.length : Int)) := congrArg V.int this
          rw [e9]
          rfl
        · rw [upd_ne (ne_of_none e hcl0), upd_ne (ne_of_none (s2 _ _ e) hq)]; exact s2 _ _ e
        · have ef : (cs.take (j + 1)).map flatC = (cs.take j).map flatC ++ [((jj : Int), aa)] := by
            rw [htk, List.map_append]
            show _ ++ [((jj : Int), aa ++ [])] = _
            rw [List.append_nil]
          rw [ef]
          exact y3
    · have ej : j = cs.length := by omega
      subst ej
      rw [List.take_length] at hca ⊢
      have : decide (((PyFlat.put cs).length : Int) < ((PyFlat.put cs).length : Int)) = false := by simp
      rw [this]
      exact iteF ⟨_, rfl, k H' cl s1 hcl0 hca⟩
end
end Rs
end
section
set_option maxHeartbeats 2000000
namespace Rs
open PySem PySem.Spec PyProof.Rows L2
open Vblaak (Lot Demand Stock Use lotAt)
abbrev LCall := List (List Int)
def runS (s : Stock) (cs : List LCall) : Stock := cs.foldl (fun s c => (VblaakNeutral.step s c).1) s
theorem runS_snoc (s : Stock) (cs : List LCall) (c : LCall) : runS s (cs ++ [c]) = (VblaakNeutral.step (runS s cs) c).1 := by unfold runS; rw [List.foldl_append]; rfl
theorem played_snoc (c : LCall) : ∀ (cs : List LCall) (s : Stock), PyFlat.played VblaakNeutral.step s (cs ++ [c]) = PyFlat.played VblaakNeutral.step s cs ++ [(VblaakNeutral.step (runS s cs) c).2]
  | [], s => rfl
  | x :: r, s => by
    show (VblaakNeutral.step s x).2 :: PyFlat.played VblaakNeutral.step (VblaakNeutral.step s x).1 (r ++ [c]) = _
    rw [played_snoc c r]
    rfl
theorem told_snoc (l : List (List Int)) (a : List Int) : PyFlat.told (l ++ [a]) = PyFlat.told l ++ ((a.length : Int) :: a) := by
  unfold PyFlat.told
  rw [List.flatMap_append]
  simp
section
variable {P : Program} {w : World} {K : PySem.W.Frag} {mg : Str → Option Value} {base : Heap} {CL CD CS CU CT : Addr}
abbrev sAll : Stmt := top 71
def spAll (K : PySem.W.Frag) : Sp := fun vs H Q _ => ∃ (a : Addr) (l : List Int), vs = [.ref a] ∧ SqL K H a (l.map V.int) ∧ l.length ≤ 16000 ∧ PyVblaak.answers_asked l = true ∧ ∀ (H' : Hp) (p : Addr), H' p = some (.lst ((PyVblaak.answers l).map V.int)) → Q (.ref p) H'
theorem scAll : FnScope ["calls", "stock", "numbers", "place", "given", "answer"] ["calls"] (defScope sAll) := ⟨rfl, rfl, rfl, by decide +kernel, rfl, by decide +kernel, by decide +kernel⟩
theorem line_of {l : List Int} (h : PyVblaak.answers_asked l = true) : ∃ cs : List LCall, l = PyFlat.put cs ∧ (∀ c ∈ cs, PyFlat.okCall PyVblaak.shape c ∧ VblaakNeutral.asked1 c = true) ∧ cs.length ≤ 300 ∧ PyVblaak.answers l = PyFlat.told (PyFlat.played VblaakNeutral.step {} cs) := by
  unfold PyVblaak.answers_asked at h
  unfold PyVblaak.answers
  cases hc : PyVblaak.calls l with
  | none => rw [hc] at h; cases h
  | some cs =>
    rw [hc] at h
    have h1 : (PyFlat.atMost 300 cs && VblaakNeutral.asked cs) = true := h
    rw [Bool.and_eq_true] at h1
    have h300 : cs.length ≤ 300 := of_decide_eq_true h1.1
    have h2 : (decide (1 ≤ cs.length) && decide (cs.length ≤ 300) && cs.all VblaakNeutral.asked1) = true := h1.2
    rw [Bool.and_eq_true] at h2
    unfold PyVblaak.calls at hc
    cases hc2 : PyFlat.calls PyVblaak.shape l.length l with
    | none => rw [hc2] at hc; cases hc
    | some cs0 =>
      rw [hc2] at hc
      have e : cs0.map PyVblaak.whole = cs := Option.some.inj hc
      obtain ⟨p1, p2⟩ := PyFlat.put_calls _ _ _ hc2
      have e2 : cs0.map PyVblaak.whole = cs0 := by
        conv => rhs; rw [← List.map_id cs0]
        exact List.map_congr_left fun c hc => whole_id (p2 c hc)
      rw [e2] at e
      subst e
      exact ⟨cs0, p1, fun c hc => ⟨p2 c hc, List.all_eq_true.mp h2.2 c hc⟩, h300, rfl⟩
theorem fn_all {fa : Addr} {fd : FuncData} (h : Fun K "answers" "answers" sAll fa fd) (T : Txt K mg CL CD CS) (GS : OkC P w K mg base CT 2 "Stock" ["self"] (spSI CL CD CU CT)) (GC : Ok P w K mg base 1 "cut_calls" ["line"] (spCut K)) (GA : Ok P w K mg base 10 "answer_call" ["stock", "place", "given"] (spCa CL CD CU CT)) : FnOk P w K mg base CX0 11 fa fd ["calls"] (spAll K) := by
  refine h.ok scAll (fun vs H Q E h => ?_) (fun cdv A outer s H vs Q E hr h => ?_)
  · obtain ⟨a, l, rfl, _⟩ := h
    rfl
  · obtain ⟨a, l, rfl, hsq, hl16, hask, k⟩ := h
    have hr1 : Room 1 _ := hr.mono (by decide)
    have hr3 : Room 3 _ := hr.mono (by decide)
    refine ⟨_, pss_cons (ps_set (i := 1) scAll.nd rfl (Or.inl rfl) (pe_okC0 GS hr3)) <| pss_cons (ps_set (i := 2) scAll.nd rfl (Or.inl rfl) (pe_lst pa_nil)) <|
      pss_cons (ps_for PassesOwn.never rfl (pi_list (pe_ok GC hr1 (pa_cons (pv 0) pa_nil))) (pg_tup (n := 2) rfl (pgs_cons (pg_name (i := 3) scAll.nd rfl (Or.inl rfl)) (pgs_cons (pg_name (i := 4) scAll.nd rfl (Or.inl rfl)) pgs_nil)))
        (pss_cons (ps_set (i := 5) scAll.nd rfl (Or.inl rfl) (pe_ok GA hr (pa_cons (pv 1) (pa_cons (pv 3) (pa_cons (pv 4) pa_nil))))) <|
         pss_cons (ps_expr (pe_bm PySem.F.plainAttrs_list PySem.F.slot_list_append PySem.F.type_list_append mt_append (pv 2) (pa_cons (pe_callB call_len_seq (by rfl) (T.blt _ (by decide)) PySem.boot_len (pa_cons (pv 5) pa_nil)) pa_nil))) <|
         pss_one (ps_expr (pe_bm PySem.F.plainAttrs_list PySem.F.slot_list_extend PySem.F.type_list_extend mt_extend (pv 2) (pa_cons (pv 5) pa_nil))))) <|
      pss_one (ps_ret (pv 2)), ?_⟩
    obtain ⟨cs, rfl, hcs, h300, hans⟩ := line_of hask
    rw [hans] at k
    intro S Sdx nS ndS hne
    have s0 : Same H (upd (upd H Sdx (.own S)) S (.ins CT Sdx [])) := (same_new ndS).trans (same_new (by rw [upd_ne hne.symm]; exact nS))
    refine ⟨S, Sdx, rfl, upd_same, fun H1 E hS1 fr1 hl1 hd1 hu1 => ⟨rfl, ?_⟩⟩
    have s1 : Same H H1 := fun b o e => fr1 b o (s0 _ _ e) (ne_of_none e nS)
    refine ⟨Nat.zero_le _, fun nl hnl => ?_⟩
    have s2 : Same H1 (upd H1 nl (.lst [])) := same_new hnl
    have hS2 := hS1.same s2
    refine ⟨_, rfl, a, cs, rfl, (s1.trans s2).seq hsq, hl16, fun c hc => (hcs c hc).1, fun H3 t s3 ht hca => ⟨t, rfl, ?_⟩⟩
    obtain ⟨zs, z1, z2, z3⟩ := hca
    have hzl : zs.length = cs.length := by have := congrArg List.length z2; rwa [List.length_map, List.length_map] at this
    have hS3 := hS2.same s3
    -- what the stock owns stood ahead of the calls
    have own : ∀ b, foot S E 0 b → ∃ o, upd H1 nl (.lst []) b = some o := fun b hb => by
      obtain ⟨dx, ho⟩ := hS2.obj
      obtain ⟨qs, hq, _⟩ := hS2.dems
      obtain ⟨us, hu, _⟩ := hS2.uses
      rcases hb with z | z | z | z | ⟨i, hi, z⟩
      · rw [z]; exact ⟨_, ho⟩
      · rw [z]; exact ⟨_, hS2.lots.1⟩
      · rw [z]; exact ⟨_, hq⟩
      · rw [z]; exact ⟨_, hu⟩
      · exact (Nat.not_lt_zero _ hi).elim
    have nf : ∀ b, upd H1 nl (.lst []) b = none → ¬ foot S E 0 b := fun b hb hf => by
      obtain ⟨o, e⟩ := own b hf
      rw [hb] at e; cases e
    have nfl : ¬ foot S E 0 nl := fun hf => by
      obtain ⟨dx, ho⟩ := hS1.obj
      obtain ⟨qs, hq, _⟩ := hS1.dems
      obtain ⟨us, hu, _⟩ := hS1.uses
      rcases hf with z | z | z | z | ⟨i, hi, z⟩
      · rw [z, ho] at hnl; cases hnl
      · rw [z, hS1.lots.1] at hnl; cases hnl
      · rw [z, hq] at hnl; cases hnl
      · rw [z, hu] at hnl; cases hnl
      · exact Nat.not_lt_zero _ hi
    refine ⟨⟨_, SqL.of z1⟩, for_list (K := K) (a := t) (xs := zs.map fun z => V.ref z.1)
      (fun j σ H' => ∃ (v3 v4 v5 : Option V) (E' : Parts), σ = [some (.ref a), some (.ref S), some (.ref nl), v3, v4, v5] ∧ StockAt CL CD CU CT H' S E' (runS {} (cs.take j)) ∧ (runS {} (cs.take j)).uses.length ≤ j ∧ H' nl = some (.lst ((PyFlat.told (PyFlat.played VblaakNeutral.step {} (cs.take j))).map V.int)) ∧
        (PyFlat.told (PyFlat.played VblaakNeutral.step {} (cs.take j))).length ≤ 5001 * j ∧ H' t = some (.lst (zs.map fun z => V.ref z.1)) ∧ (∀ z ∈ zs, H' z.1 = some (.tup [.int z.2.2.1, .ref z.2.1]) ∧ H' z.2.1 = some (.lst (z.2.2.2.map V.int))) ∧
        ¬ foot S E' (runS {} (cs.take j)).lots.length nl ∧ ¬ foot S E' (runS {} (cs.take j)).lots.length t ∧ ∀ z ∈ zs, ¬ foot S E' (runS {} (cs.take j)).lots.length z.1 ∧ ¬ foot S E' (runS {} (cs.take j)).lots.length z.2.1)
      ⟨none, none, none, E, rfl, hS3, Nat.le_refl _, s3 _ _ upd_same, Nat.le_refl _, z1, fun z hz => ⟨(z3 z hz).1, (z3 z hz).2.1⟩, nfl, nf _ ht, fun z hz => ⟨nf _ (z3 z hz).2.2.2.1, nf _ (z3 z hz).2.2.2.2⟩⟩ (fun j σ H' _ ⟨_, _, _, _, _, _, _, _, _, ht', _⟩ => SqL.of ht') ?_ ?_⟩
    · rintro j y σ H' hj ⟨v3, v4, v5, E', rfl, hSj, huj, hnj, hlj, htj, hzj, fn, ft, fz⟩
      obtain ⟨z, hzz, rfl⟩ := map_get hj
      have hzm : z ∈ zs := List.mem_of_getElem? hzz
      have hjl : j < zs.length := (List.getElem?_eq_some_iff.mp hzz).1
      obtain ⟨c, hcj⟩ : ∃ c, cs[j]? = some c := ⟨_, List.getElem?_eq_getElem (by omega)⟩
      have hzc : z.2.2 = flatC c := by
        have := congrArg (fun l => l[j]?) z2
        simp only [List.getElem?_map, hzz, hcj] at this
        exact Option.some.inj this
      obtain ⟨hok, has⟩ := hcs c (List.mem_of_getElem? hcj)
      obtain ⟨jj, x, hjj, hp, hmk, hco⟩ := call_mk hok has
      have htk : cs.take (j + 1) = cs.take j ++ [c] := by rw [List.take_add_one, hcj]; rfl
      have hstep : VblaakNeutral.step (runS {} (cs.take j)) c = Vblaak.step (runS {} (cs.take j)) x := by unfold VblaakNeutral.step; rw [hco]
      have hu900 : (runS {} (cs.take j)).uses.length < 900 := by omega
      rw [← hzc] at hp hmk
      refine ⟨z.1, _, rfl, SqT.of (hzj z hzm).1, rfl, _, _, rfl, _, _, rfl, rfl, ?_⟩
      refine ⟨_, rfl, _, rfl, _, rfl, S, E', _, z.2.1, z.2.2.2, x, jj, by rw [hp]; rfl, hSj, (hzj z hzm).2, hjj, hmk, hu900, fun H4 E4 p ha4 hS4 hnew h4 => ?_⟩
      have hlen4 := step_len hSj.wf hu900 x
      have hus4 := uses_step (runS {} (cs.take j)) x
      have hn4 : H4 nl = some _ := ha4.frm _ _ hnj fn
      have hpn : nl ≠ p := hnew nl _ hnj fn
      have ng : ∀ b o, H' b = some o → ¬ foot S E' (runS {} (cs.take j)).lots.length b → ¬ foot S E4 (Vblaak.step (runS {} (cs.take j)) x).1.lots.length b := fun b o e hf hf4 => by
        rcases ha4.grow b hf4 with q | q
        · exact hf q
        · rw [e] at q; cases q
      have hnsz : ((PyFlat.told (PyFlat.played VblaakNeutral.step {} (cs.take j))).map V.int).length ≤ 1500300 := by rw [List.length_map]; omega
      refine ⟨_, rfl, .inl ⟨rfl, _, SqL.of hn4⟩, _, rfl, p, _, rfl, .inl (SqL.of h4), nl, _, _, rfl, rfl, hn4, small1000' (by omega), ?_⟩
      rw [List.length_map]
      refine ⟨_, rfl, .inl ⟨rfl, _, SqL.of upd_same⟩, _, rfl, nl, p, _, _, rfl, rfl, upd_same, (upd_ne hpn.symm).trans h4, Nat.le_of_lt (small1000' (by rw [List.length_append, List.length_map (as := (Vblaak.step _ _).2), List.length_singleton]; omega)), ?_⟩
      rw [upd_upd]
      have sb : ∀ b o, H4 b = some o → b ≠ nl → upd H4 nl (.lst ((PyFlat.told (PyFlat.played VblaakNeutral.step {} (cs.take j))).map V.int ++ [V.int ((Vblaak.step (runS {} (cs.take j)) x).2.length : Nat)] ++ (Vblaak.step (runS {} (cs.take j)) x).2.map V.int)) b = some o := fun b o e hb => by rw [upd_ne hb]; exact e
      have hnf4 := ng nl _ hnj fn
      have hsr : runS {} (cs.take (j + 1)) = (Vblaak.step (runS {} (cs.take j)) x).1 := by rw [htk, runS_snoc, hstep]
      have hpl : PyFlat.told (PyFlat.played VblaakNeutral.step {} (cs.take (j + 1))) = PyFlat.told (PyFlat.played VblaakNeutral.step {} (cs.take j)) ++ (((Vblaak.step (runS {} (cs.take j)) x).2.length : Int) :: (Vblaak.step (runS {} (cs.take j)) x).2) := by rw [htk, played_snoc, told_snoc, hstep]
      have tne : t ≠ nl := fun e => by rw [e, upd_same] at ht; cases ht
      refine ⟨_, _, _, E4, rfl, ?_, ?_, ?_, ?_, sb _ _ (ha4.frm _ _ htj ft) tne, fun z' hz' => ⟨?_, ?_⟩, ?_, ?_, fun z' hz' => ⟨?_, ?_⟩⟩
      · rw [hsr]
        -- the stock does not lean on the list of numbers
        obtain ⟨dx4, ho4⟩ := hS4.obj
        have hno : ∀ b, foot S E4 (Vblaak.step (runS {} (cs.take j)) x).1.lots.length b → b ≠ nl := fun b hb e => hnf4 (e ▸ hb)
        obtain ⟨qs, q1, q2, q3⟩ := hS4.dems
        obtain ⟨us, u1, u2, u3⟩ := hS4.uses
        refine ⟨⟨dx4, sb _ _ ho4 (hno _ (.inl rfl))⟩, ⟨sb _ _ hS4.lots.1 (hno _ (.inr (.inl rfl))), fun i hi => ?_⟩, hS4.inj, ⟨qs, sb _ _ q1 (hno _ (.inr (.inr (.inl rfl)))), q2, fun q hq => ?_⟩, ⟨us, sb _ _ u1 (hno _ (.inr (.inr (.inr (.inl rfl))))), u2, fun i u hi => ⟨(u3 i u hi).1, (u3 i u hi).2.1, ?_, ?_⟩⟩, hS4.ne, hS4.wf⟩
        · obtain ⟨ldx, g⟩ := hS4.lots.2 i hi
          exact ⟨ldx, sb _ _ g (ne_of g hn4 (by intro q; cases q))⟩
        · obtain ⟨ddx, g⟩ := q3 q hq
          exact ⟨ddx, sb _ _ g (ne_of g hn4 (by intro q; cases q))⟩
        · obtain ⟨udx, g⟩ := (u3 i u hi).2.2.1
          exact ⟨udx, sb _ _ g (ne_of g hn4 (by intro q; cases q))⟩
        · obtain ⟨ys, y1, y2, y3⟩ := (u3 i u hi).2.2.2
          have hne0 : u.2.2.took ≠ [] := hS4.wf.useN _ (by rw [← u2]; exact List.mem_map.mpr ⟨u, List.mem_of_getElem? hi, rfl⟩)
          refine ⟨ys, sb _ _ y1 fun e => ?_, y2, fun r hr => sb _ _ (y3 r hr) (ne_of (y3 r hr) hn4 (by intro q; cases q))⟩
          rw [e, hn4] at y1
          have y1' := HO.lst.inj (Option.some.inj y1)
          cases ys with
          | nil => exact hne0 (by rw [← y2]; rfl)
          | cons r rs =>
            cases hT : PyFlat.told (PyFlat.played VblaakNeutral.step {} (cs.take j)) with
            | nil => rw [hT] at y1'; cases y1'
            | cons m ms => rw [hT] at y1'; cases y1'
      · rw [hsr]; omega
      · rw [upd_same, hpl, List.map_append]
        simp
      · rw [hpl, List.length_append, List.length_cons]; omega
      · exact sb _ _ (ha4.frm _ _ (hzj z' hz').1 (fz z' hz').1) (ne_of (hzj z' hz').1 hnj (by intro q; cases q))
      · refine sb _ _ (ha4.frm _ _ (hzj z' hz').2 (fz z' hz').2) fun e => ?_
        have := (z3 z' hz').2.2.2.2
        rw [e, upd_same] at this
        cases this
      · rw [hsr]; exact hnf4
      · rw [hsr]; exact ng _ _ htj ft
      · rw [hsr]; exact ng _ _ (hzj z' hz').1 (fz z' hz').1
      · rw [hsr]; exact ng _ _ (hzj z' hz').2 (fz z' hz').2
    · rintro σ H' ⟨v3, v4, v5, E', rfl, _, _, hnj, _⟩
      rw [List.length_map, hzl, List.take_length] at hnj
      exact ⟨_, rfl, k H' nl hnj⟩
end
end Rs
end
section
set_option maxHeartbeats 2000000
/-! All defs of the text together. -/
namespace Rs
open PySem PySem.Spec PyProof.Rows L2
structure AllHas (K : PySem.W.Frag) (mg : Str → Option Value) (CL CD CS CU CT : Addr) : Prop where
  T : Txt K mg CL CD CS
  TB : TxtB K mg CU CT
  TT : TabOk K mg
  h_loI : HasC K mg CL "Lot" "Lot.__init__" sLoI ["self", "number", "article", "comes", "last", "doses"]
  h_deI : HasC K mg CD "Demand" "Demand.__init__" sDeI ["self", "number", "article", "day", "doses"]
  h_shI : HasC K mg CS "Share" "Share.__init__" sShI ["self", "demand", "taken"]
  h_usI : HasC K mg CU "Use" "Use.__init__" sUsI ["self", "number", "article", "day", "taken"]
  h_sI : HasC K mg CT "Stock" "Stock.__init__" sSI ["self"]
  h_do : Has K mg "doses_of" sDo ["taken"]
  h_good : Has K mg "is_good_on" sGood ["lot", "day"]
  h_one : Has K mg "is_good_on_one" sOne ["lot", "days"]
  h_exp : Has K mg "expiry" sExp ["lot"]
  h_turn : Has K mg "turn" sTurn ["demand"]
  h_wil : Has K mg "what_is_left" sWil ["lots"]
  h_fef : Has K mg "first_expired_first" sFef ["lots", "left", "day", "doses"]
  h_to : Has K mg "take_off" sTo ["left", "taken"]
  h_pl : Has K mg "plan_shares" sPl ["lots", "left", "demands"]
  h_sv : Has K mg "doses_served" sSv ["shares"]
  h_lk : Has K mg "doses_lacking" sLk ["shares"]
  h_dr : Has K mg "draws_on" sDr ["share", "days"]
  h_tm : Has K mg "days_asking_too_much" sTm ["shares"]
  h_ao : Has K mg "doses_asked_on" sAo ["demands", "days"]
  h_lf : Has K mg "doses_left_for" sLf ["lots", "days"]
  h_doo : Has K mg "days_of_opening" sDoo ["m", "life", "needs"]
  h_ia : Has K mg "is_article" sIA ["number"]
  h_id : Has K mg "is_day" sID ["number"]
  h_ido : Has K mg "is_doses" sIDo ["number"]
  h_il : Has K mg "is_lot" sIL ["stock", "number"]
  h_add3 : Has K mg "is_article_day_doses" sADD ["given"]
  h_row : Has K mg "is_row" sRow ["needs"]
  h_tel : Has K mg "tell_taken" sTel ["taken"]
  h_a0 : Has K mg "answer_clear" sA0 ["stock", "given"]
  h_a1 : Has K mg "answer_lot" sA1 ["stock", "given"]
  h_a2 : Has K mg "answer_demand" sA2 ["stock", "given"]
  h_a3 : Has K mg "answer_cancel" sA3 ["stock", "given"]
  h_a4 : Has K mg "answer_plan" sA4 ["stock", "given"]
  h_a5 : Has K mg "answer_told" sA5 ["stock", "given"]
  h_a6 : Has K mg "answer_tight" sA6 ["stock", "given"]
  h_a7 : Has K mg "answer_bears" sA7 ["stock", "given"]
  h_a8 : Has K mg "answer_spare" sA8 ["stock", "given"]
  h_a9 : Has K mg "answer_take" sA9 ["stock", "given"]
  h_a10 : Has K mg "answer_use" sA10 ["stock", "given"]
  h_a11 : Has K mg "answer_today" sA11 ["stock", "given"]
  h_a12 : Has K mg "answer_withdraw" sA12 ["stock", "given"]
  h_a13 : Has K mg "answer_used_from" sA13 ["stock", "given"]
  h_a14 : Has K mg "answer_waste" sA14 ["stock", "given"]
  h_a15 : Has K mg "answer_vials" sA15 ["stock", "given"]
  h_a16 : Has K mg "answer_counts" sA16 ["stock", "given"]
  h_ca : Has K mg "answer_call" sCa ["stock", "place", "given"]
  h_cut : Has K mg "cut_calls" sCut ["line"]
  h_lo : HasM K CT "lots_of" "Stock.lots_of" sLo ["self", "article"]
  h_df : HasM K CT "demands_of" "Stock.demands_of" sDf ["self", "article"]
  h_so : HasM K CT "shares_of" "Stock.shares_of" sSo ["self", "article"]
  h_li : HasM K CT "lack_if" "Stock.lack_if" sLi ["self", "article", "taken", "told"]
  h_lof : HasM K CT "lack_of" "Stock.lack_of" sLof ["self", "article"]
  h_lw : HasM K CT "lack_more_with" "Stock.lack_more_with" sLw ["self", "demand"]
  h_lwo : HasM K CT "lack_more_without" "Stock.lack_more_without" sLwo ["self", "article", "taken"]
  h_tn : HasM K CT "takeable_now" "Stock.takeable_now" sTn ["self", "article", "doses"]
  h_uf : HasM K CU "doses_from" "Use.doses_from" sUf ["self", "lot"]
  h_bg : HasM K CT "begin" "Stock.begin" sBg ["self"]
  h_al : HasM K CT "add_lot" "Stock.add_lot" sAl ["self", "article", "comes", "last", "doses"]
  h_nd : HasM K CT "next_demand" "Stock.next_demand" sNd ["self", "article", "day", "doses"]
  h_ad : HasM K CT "add_demand" "Stock.add_demand" sAd ["self", "demand"]
  h_wl : HasM K CT "withdraw_lot" "Stock.withdraw_lot" sWl ["self", "lot"]
  h_au : HasM K CT "add_use" "Stock.add_use" sAu ["self", "article", "taken"]
  h_ta : HasM K CT "throw_away_before" "Stock.throw_away_before" sTa ["self", "day"]
  h_dd : HasM K CT "drop_demands_before" "Stock.drop_demands_before" sDd ["self", "day"]
theorem AllHas.fin {P : Program} {w : World} {K : PySem.W.Frag} {mg : Str → Option Value} {base : Heap} {CL CD CS CU CT fa : Addr} {fd : FuncData} (A : AllHas K mg CL CD CS CU CT) (F : Fun K "answers" "answers" sAll fa fd) : FnOk P w K mg base CX0 11 fa fd ["calls"] (spAll K) := by
  have T := A.T
  have TB := A.TB
  have gdo := ok_do (P := P) (w := w) (base := base) A.h_do T
  have ggood := ok_good (P := P) (w := w) (base := base) A.h_good T
  have gone_ := ok_one (P := P) (w := w) (base := base) A.h_one T ggood
  have gexp := ok_exp (P := P) (w := w) (base := base) A.h_exp T
  have gturn := ok_turn (P := P) (w := w) (base := base) A.h_turn T
  have gwil := ok_wil (P := P) (w := w) (base := base) A.h_wil T
  have gfef := ok_fef (P := P) (w := w) (base := base) A.h_fef T ggood gexp
  have gto := ok_to (P := P) (w := w) (base := base) A.h_to T
  have gsh := ok_shI (P := P) (w := w) (base := base) A.h_shI T gdo
  have gpl := ok_pl (P := P) (w := w) (base := base) A.h_pl T (TB.blt _ (by decide)) gturn gfef gto gsh
  have glot := ok_loI (P := P) (w := w) (base := base) A.h_loI T
  have gdem := ok_deI (P := P) (w := w) (base := base) A.h_deI T
  have gsv := ok_sv (P := P) (w := w) (base := base) A.h_sv T gdo
  have glk := ok_lk (P := P) (w := w) (base := base) A.h_lk T
  have gdr := ok_dr (P := P) (w := w) (base := base) A.h_dr T gone_
  have gao := ok_ao (P := P) (w := w) (base := base) A.h_ao T
  have glf := ok_lf (P := P) (w := w) (base := base) A.h_lf T gone_
  have gtm := ok_tm (P := P) (w := w) (base := base) A.h_tm T gdr
  have gdoo := ok_doo (P := P) (w := w) (base := base) A.h_doo T (TB.blt _ (by decide))
  have gia := ok_ia (P := P) (w := w) (base := base) A.h_ia TB
  have gid := ok_id (P := P) (w := w) (base := base) A.h_id TB
  have gido := ok_ido (P := P) (w := w) (base := base) A.h_ido TB
  have gadd3 := ok_add3 (P := P) (w := w) (base := base) A.h_add3 gia gid gido
  have grow := ok_row (P := P) (w := w) (base := base) A.h_row T TB
  have gtel := ok_tel (P := P) (w := w) (base := base) A.h_tel T
  have gil := ok_il (P := P) (w := w) (base := base) A.h_il T TB
  have glo := ok_lo (P := P) (w := w) (base := base) A.h_lo T TB
  have gdf := ok_df (P := P) (w := w) (base := base) A.h_df T TB
  have gso := ok_so (P := P) (w := w) (base := base) A.h_so T TB glo gdf gwil gpl
  have gli := ok_li (P := P) (w := w) (base := base) A.h_li T TB glo gdf gwil gpl gto glk
  have glof := ok_lof (P := P) (w := w) (base := base) A.h_lof T TB gli
  have glw := ok_lw (P := P) (w := w) (base := base) A.h_lw T TB gli glof
  have glwo := ok_lwo (P := P) (w := w) (base := base) A.h_lwo T TB gli glof
  have gtn := ok_tn (P := P) (w := w) (base := base) A.h_tn T TB glo gwil gfef
  have gus := ok_usI (P := P) (w := w) (base := base) A.h_usI TB
  have guf := ok_uf (P := P) (w := w) (base := base) A.h_uf T TB gdo
  have gbg := ok_bg (P := P) (w := w) (base := base) (CL := CL) (CD := CD) A.h_bg TB
  have gsi := ok_sI (P := P) (w := w) (base := base) A.h_sI TB gbg
  have gal := ok_al (P := P) (w := w) (base := base) A.h_al T TB glot
  have gnd := ok_nd (P := P) (w := w) (base := base) (CL := CL) A.h_nd TB gdem
  have gad := ok_ad (P := P) (w := w) (base := base) A.h_ad T TB
  have gwl := ok_wl (P := P) (w := w) (base := base) A.h_wl T TB
  have gau := ok_au (P := P) (w := w) (base := base) A.h_au T TB gus
  have gta := ok_ta (P := P) (w := w) (base := base) A.h_ta T TB
  have gdd := ok_dd (P := P) (w := w) (base := base) A.h_dd T TB
  have g0 := ok_a0 (P := P) (w := w) (base := base) A.h_a0 TB gbg
  have g1 := ok_a1 (P := P) (w := w) (base := base) A.h_a1 T TB gia gid gido gal
  have g2 := ok_a2 (P := P) (w := w) (base := base) A.h_a2 T TB gadd3 gnd gad glof
  have g3 := ok_a3 (P := P) (w := w) (base := base) A.h_a3 T TB
  have g4 := ok_a4 (P := P) (w := w) (base := base) A.h_a4 T TB gia gso gsv gtel
  have g5 := ok_a5 (P := P) (w := w) (base := base) A.h_a5 T TB gil
  have g6 := ok_a6 (P := P) (w := w) (base := base) A.h_a6 T TB gia gso gtm gdf gao glo glf
  have g7 := ok_a7 (P := P) (w := w) (base := base) A.h_a7 T TB gadd3 gnd glw
  have g8 := ok_a8 (P := P) (w := w) (base := base) A.h_a8 T TB gia gid gnd glw
  have g9 := ok_a9 (P := P) (w := w) (base := base) A.h_a9 T TB gtn gdo gau gtel
  have g10 := ok_a10 (P := P) (w := w) (base := base) A.h_a10 T TB gia gido gtn gdo glwo gau gtel
  have g11 := ok_a11 (P := P) (w := w) (base := base) A.h_a11 T TB gid gta gdd
  have g12 := ok_a12 (P := P) (w := w) (base := base) A.h_a12 T TB gil gwl glof
  have g13 := ok_a13 (P := P) (w := w) (base := base) A.h_a13 T TB gil guf
  have g14 := ok_a14 (P := P) (w := w) (base := base) A.h_a14 T TB gia glo gso gsv
  have g15 := ok_a15 (P := P) (w := w) (base := base) (CL := CL) (CD := CD) A.h_a15 T TB grow gdoo
  have g16 := ok_a16 (P := P) (w := w) (base := base) A.h_a16 T TB
  have G : ∀ (j : Nat) (x : Str), ANS[j]? = some x → Ok P w K mg base 9 x ["stock", "given"] (spAns CL CD CU CT (mkAt j)) := fun j x hx => by
    match j, hx with
    | 0, hx => cases hx; exact g0.mono (by decide)
    | 1, hx => cases hx; exact g1.mono (by decide)
    | 2, hx => cases hx; exact g2.mono (by decide)
    | 3, hx => cases hx; exact g3.mono (by decide)
    | 4, hx => cases hx; exact g4.mono (by decide)
    | 5, hx => cases hx; exact g5.mono (by decide)
    | 6, hx => cases hx; exact g6.mono (by decide)
    | 7, hx => cases hx; exact g7.mono (by decide)
    | 8, hx => cases hx; exact g8.mono (by decide)
    | 9, hx => cases hx; exact g9.mono (by decide)
    | 10, hx => cases hx; exact g10.mono (by decide)
    | 11, hx => cases hx; exact g11.mono (by decide)
    | 12, hx => cases hx; exact g12.mono (by decide)
    | 13, hx => cases hx; exact g13.mono (by decide)
    | 14, hx => cases hx; exact g14.mono (by decide)
    | 15, hx => cases hx; exact g15.mono (by decide)
    | 16, hx => cases hx; exact g16.mono (by decide)
    | j + 17, hx => simp at hx
  exact fn_all F T gsi (ok_cut A.h_cut T TB A.TT) (ok_ca A.h_ca A.TT G)
section
variable {K : PySem.W.Frag} {mg : Str → Option Value} {h : Heap}
theorem clsF_mk {C : Addr} {fs : List Str} (pg : PySem.W.plainGet K C Str.empty = true) (hd : PySem.W.hasDictIn K C = true) (po : PySem.W.plainOver K C = true) (sa : PySem.W.findIn K (.ref C) "__setattr__" = some (some (.builtin "object.__setattr__"))) (no : ∀ f ∈ fs, NoAttr K C f) : ClsF K C fs := ⟨⟨pg, hd, po, sa⟩, no⟩
end
end Rs
end
section
set_option maxHeartbeats 2000000
/-! From what was looked at behind the top to all defs of the text. -/
namespace Rs
open PySem PySem.W PySem.Spec PyProof.Rows L2
theorem key_fn {f : FuncData} {x q : Str} {st : Stmt} {a : Arguments} {b : List Stmt} {sc : Scope} (hs : defArgs st = a ∧ defBody st = b ∧ defScope st = sc) (e : fKey f = (x, q, some (a, b, sc), mainGlobals, [], .none, builtinsNs)) : f = fnOf x q (defArgs st) (defBody st) (defScope st) .none f.kwdefaults f.doc f.pyModule f.annotations f.code f.closureTuple := by
  obtain ⟨n, q', pa, bo, sc', gl, cl, de, kw, doc, pm, an, cd, ct, bu⟩ := f
  obtain ⟨rfl, rfl, rfl⟩ := hs
  unfold fKey at e
  dsimp only at e
  cases bo with
  | stmts bs =>
    simp only [Prod.mk.injEq, Option.some.injEq] at e
    obtain ⟨rfl, rfl, ⟨rfl, rfl, rfl⟩, rfl, rfl, rfl, rfl⟩ := e
    rfl
  | _ => simp at e
abbrev isDef (st : Stmt) : Bool := match st with | .FunctionDef .. => true | _ => false
theorem key_fn' {f : FuncData} {x q : Str} {st : Stmt} (e : fKey f = wKey x q st) (hs : isDef st = true) : f = fnOf x q (defArgs st) (defBody st) (defScope st) .none f.kwdefaults f.doc f.pyModule f.annotations f.code f.closureTuple := by
  cases st with
  | FunctionDef => exact key_fn ⟨rfl, rfl, rfl⟩ e
  | _ => cases hs
theorem fnAt_is {K : Frag} {q x : Str} {st : Stmt} {v : Option (Option Value)} (hs : isDef st = true) (e : fnAt K q v = some (wKey x q st)) : ∃ f fd, v = some (some (.ref f)) ∧ Fun K x q st f fd ∧ isFn K (.ref f) = true ∧
    ∃ (kV doc pm : Value) (an : Option Addr) (cdv ct : Value), fd = fnOf x q (defArgs st) (defBody st) (defScope st) .none kV doc pm an cdv ct := by
  unfold fnAt at e
  split at e
  · rename_i f
    split at e
    · rename_i oc od fd osl ho
      split at e
      · rename_i hc
        have ek := key_fn' (Option.some.inj e) hs
        rw [Bool.and_eq_true, Bool.and_eq_true] at hc
        obtain ⟨⟨c, i⟩, k⟩ := hc
        rw [ek] at ho c
        exact ⟨f, _, rfl, fun_mk ho c k, i, _, _, _, _, _, _, rfl⟩
      · cases e
    · cases e
  · cases e
abbrev BindsBy (x q : Str) (st : Stmt) (ps : List Str) : Prop := ∀ (kV doc pm : Value) (an : Option Addr) (cdv ct : Value) (us : List Value), us.length = ps.length → bindArgs (fnOf x q (defArgs st) (defBody st) (defScope st) .none kV doc pm an cdv ct) ⟨us, []⟩ = pure (ps.zip us)
theorem map_at {A B : Type} {f g : A → B} {l : List A} (e : l.map f = l.map g) (i : Nat) {d : A} (h : l[i]? = some d) : f d = g d := List.map_inj_left.mp e d (List.mem_of_getElem? h)
theorem lenS {A : Type} {l : List A} {n : Nat} (h : l.length = n + 1) : ∃ a r, l = a :: r ∧ r.length = n := by
  cases l with
  | nil => cases h
  | cons a r => exact ⟨a, r, rfl, Nat.succ.inj h⟩
theorem len0 {A : Type} {l : List A} (h : l.length = 0) : l = [] := List.eq_nil_of_length_eq_zero h
theorem seqAt_is {K : Frag} {x : Str} {v : Value} {r : List Value} (e : seqAt K x = v :: r) : ∃ t od its n sl, nsIn K mainGlobals x = some (some (.ref t)) ∧ K.lookup t = some ⟨.type "tuple", od, .seq its n, sl⟩ ∧ its.toList = v :: r := by
  unfold seqAt at e
  split at e
  · rename_i t hn
    split at e
    · rename_i od its n sl ho
      exact ⟨t, od, its, n, sl, hn, ho, e⟩
    · cases e
  · cases e
theorem intOf_is {v : Value} {n : Int} (e : intOf v = some n) : ∃ t, v = .int n t := by
  cases v with
  | int m t => cases e; exact ⟨t, rfl⟩
  | _ => cases e
section
variable {x q : Str} {st : Stmt}
theorem b1 {p0 : Str} (e : ∀ (kV doc pm : Value) (an : Option Addr) (cdv ct v0 : Value), bindArgs (fnOf x q (defArgs st) (defBody st) (defScope st) .none kV doc pm an cdv ct) ⟨[v0], []⟩ = pure [(p0, v0)]) : BindsBy x q st [p0] := fun kV doc pm an cdv ct us hl => by
  obtain ⟨v0, u0, rfl, h0⟩ := lenS hl
  obtain rfl := len0 h0
  exact e kV doc pm an cdv ct v0
theorem b2 {p0 p1 : Str} (e : ∀ (kV doc pm : Value) (an : Option Addr) (cdv ct v0 v1 : Value), bindArgs (fnOf x q (defArgs st) (defBody st) (defScope st) .none kV doc pm an cdv ct) ⟨[v0, v1], []⟩ = pure [(p0, v0), (p1, v1)]) : BindsBy x q st [p0, p1] := fun kV doc pm an cdv ct us hl => by
  obtain ⟨v0, u0, rfl, h0⟩ := lenS hl
  obtain ⟨v1, u1, rfl, h1⟩ := lenS h0
  obtain rfl := len0 h1
  exact e kV doc pm an cdv ct v0 v1
theorem b3 {p0 p1 p2 : Str} (e : ∀ (kV doc pm : Value) (an : Option Addr) (cdv ct v0 v1 v2 : Value), bindArgs (fnOf x q (defArgs st) (defBody st) (defScope st) .none kV doc pm an cdv ct) ⟨[v0, v1, v2], []⟩ = pure [(p0, v0), (p1, v1), (p2, v2)]) : BindsBy x q st [p0, p1, p2] := fun kV doc pm an cdv ct us hl => by
  obtain ⟨v0, u0, rfl, h0⟩ := lenS hl
  obtain ⟨v1, u1, rfl, h1⟩ := lenS h0
  obtain ⟨v2, u2, rfl, h2⟩ := lenS h1
  obtain rfl := len0 h2
  exact e kV doc pm an cdv ct v0 v1 v2
theorem b4 {p0 p1 p2 p3 : Str} (e : ∀ (kV doc pm : Value) (an : Option Addr) (cdv ct v0 v1 v2 v3 : Value), bindArgs (fnOf x q (defArgs st) (defBody st) (defScope st) .none kV doc pm an cdv ct) ⟨[v0, v1, v2, v3], []⟩ = pure [(p0, v0), (p1, v1), (p2, v2), (p3, v3)]) : BindsBy x q st [p0, p1, p2, p3] := fun kV doc pm an cdv ct us hl => by
  obtain ⟨v0, u0, rfl, h0⟩ := lenS hl
  obtain ⟨v1, u1, rfl, h1⟩ := lenS h0
  obtain ⟨v2, u2, rfl, h2⟩ := lenS h1
  obtain ⟨v3, u3, rfl, h3⟩ := lenS h2
  obtain rfl := len0 h3
  exact e kV doc pm an cdv ct v0 v1 v2 v3
theorem b5 {p0 p1 p2 p3 p4 : Str} (e : ∀ (kV doc pm : Value) (an : Option Addr) (cdv ct v0 v1 v2 v3 v4 : Value), bindArgs (fnOf x q (defArgs st) (defBody st) (defScope st) .none kV doc pm an cdv ct) ⟨[v0, v1, v2, v3, v4], []⟩ = pure [(p0, v0), (p1, v1), (p2, v2), (p3, v3), (p4, v4)]) : BindsBy x q st [p0, p1, p2, p3, p4] := fun kV doc pm an cdv ct us hl => by
  obtain ⟨v0, u0, rfl, h0⟩ := lenS hl
  obtain ⟨v1, u1, rfl, h1⟩ := lenS h0
  obtain ⟨v2, u2, rfl, h2⟩ := lenS h1
  obtain ⟨v3, u3, rfl, h3⟩ := lenS h2
  obtain ⟨v4, u4, rfl, h4⟩ := lenS h3
  obtain rfl := len0 h4
  exact e kV doc pm an cdv ct v0 v1 v2 v3 v4
theorem b6 {p0 p1 p2 p3 p4 p5 : Str} (e : ∀ (kV doc pm : Value) (an : Option Addr) (cdv ct v0 v1 v2 v3 v4 v5 : Value), bindArgs (fnOf x q (defArgs st) (defBody st) (defScope st) .none kV doc pm an cdv ct) ⟨[v0, v1, v2, v3, v4, v5], []⟩ = pure [(p0, v0), (p1, v1), (p2, v2), (p3, v3), (p4, v4), (p5, v5)]) : BindsBy x q st [p0, p1, p2, p3, p4, p5] := fun kV doc pm an cdv ct us hl => by
  obtain ⟨v0, u0, rfl, h0⟩ := lenS hl
  obtain ⟨v1, u1, rfl, h1⟩ := lenS h0
  obtain ⟨v2, u2, rfl, h2⟩ := lenS h1
  obtain ⟨v3, u3, rfl, h3⟩ := lenS h2
  obtain ⟨v4, u4, rfl, h4⟩ := lenS h3
  obtain ⟨v5, u5, rfl, h5⟩ := lenS h4
  obtain rfl := len0 h5
  exact e kV doc pm an cdv ct v0 v1 v2 v3 v4 v5
end
theorem giAt_is {v : Option (Option Value)} {n : Int} (e : giAt v = some n) : ∃ t, v = some (some (.int n t)) := by
  cases v with
  | none => cases e
  | some v =>
    cases v with
    | none => cases e
    | some v =>
      obtain ⟨t, rfl⟩ := intOf_is e
      exact ⟨t, rfl⟩
theorem vals_ints : ∀ (ns : List Nat) (its : List Value), its.map intOf = ns.map (fun (n : Nat) => some (n : Int)) → Vals (ns.map fun (n : Nat) => V.int n) its
  | [], [], _ => .nil
  | [], _ :: _, e => by cases e
  | _ :: _, [], e => by cases e
  | n :: ns, v :: its, e => by
    rw [List.map_cons, List.map_cons] at e
    obtain ⟨e1, e2⟩ := List.cons.inj e
    obtain ⟨t, rfl⟩ := intOf_is e1
    exact .cons ⟨t, rfl⟩ (vals_ints ns its e2)
section
variable {K : Frag} {mg : Str → Option Value} {h : Heap}
theorem has_look (X : K.In h) (G : h.Ns mainGlobals mg) (e : DEFS.map (fun d => fnAt K d.1 (nsIn K mainGlobals d.1)) = DEFS.map (fun d => some (wKey d.1 d.1 d.2))) (i : Nat) {x : Str} {st : Stmt} {ps : List Str} (hi : DEFS[i]? = some (Da x st)) (hs : isDef st = true) (b : BindsBy x x st ps) : Has K mg x st ps := by
  obtain ⟨f, fd, ev, F, _, _⟩ := fnAt_is hs (map_at e i hi)
  exact ⟨f, fd, F, F.binds b, mg_of X G ev⟩
theorem hasM_look (e : MTHS.map (fun d => fnAt K d.2.2.1 (findIn K (.ref d.1) d.2.1)) = MTHS.map (fun d => some (wKey d.2.1 d.2.2.1 d.2.2.2))) (i : Nat) {C : Addr} {x q : Str} {st : Stmt} {ps : List Str} (hi : MTHS[i]? = some (Ma C x q st)) (hs : isDef st = true) (b : BindsBy x q st ps) : HasM K C x q st ps := by
  obtain ⟨f, fd, ev, F, i, _⟩ := fnAt_is hs (map_at e i hi)
  exact ⟨f, fd, F, F.binds b, ⟨ev, i, F.kp⟩⟩
structure ClsLook (K : Frag) (n : Str) (C : Addr) (fs : List Str) : Prop where
  a : nsIn K mainGlobals n = some (some (.ref C))
  mc : makesIn K C = true
  kc : keepIn K (.ref C) = true
  cl : ClsF K C fs
theorem cls_look (e : CLSS.map (fun d => (nsIn K mainGlobals d.1, plainGet K d.2.1 Str.empty && hasDictIn K d.2.1 && plainOver K d.2.1 && makesIn K d.2.1 && keepIn K (.ref d.2.1), findIn K (.ref d.2.1) "__setattr__", d.2.2.map fun x => findIn K (.ref d.2.1) x))
    = CLSS.map (fun d => ((some (some (.ref d.2.1)) : Option (Option Value)), true, (some (some (.builtin "object.__setattr__")) : Option (Option Value)), d.2.2.map fun _ => (some none : Option (Option Value)))))
    (i : Nat) {n : Str} {C : Addr} {fs : List Str} (hi : CLSS[i]? = some (Ca n C fs)) : ClsLook K n C fs := by
  have e := map_at e i hi
  obtain ⟨e1, e⟩ := Prod.mk.inj e
  obtain ⟨e2, e⟩ := Prod.mk.inj e
  obtain ⟨e3, e4⟩ := Prod.mk.inj e
  rw [Bool.and_eq_true, Bool.and_eq_true, Bool.and_eq_true, Bool.and_eq_true] at e2
  obtain ⟨⟨⟨⟨pg, hd⟩, po⟩, mk⟩, kc⟩ := e2
  exact ⟨e1, mk, kc, clsF_mk pg hd po e3 fun x hx => List.map_inj_left.mp e4 x hx⟩
theorem hasC_look (X : K.In h) (G : h.Ns mainGlobals mg) (e : MTHS.map (fun d => fnAt K d.2.2.1 (findIn K (.ref d.1) d.2.1)) = MTHS.map (fun d => some (wKey d.2.1 d.2.2.1 d.2.2.2))) (i : Nat) {C : Addr} {n q : Str} {st : Stmt} {ps fs : List Str} (c : ClsLook K n C fs) (hi : MTHS[i]? = some (Ma C "__init__" q st)) (hs : isDef st = true) (b : BindsBy "__init__" q st ps) : HasC K mg C n q st ps := by
  obtain ⟨f, fd, ev, F, i, _⟩ := fnAt_is hs (map_at e i hi)
  exact ⟨f, fd, F, F.binds b, ⟨c.mc, ev, i, c.kc⟩, mg_of X G c.a⟩
theorem look_all {P : Program} {w : World} {fa : Addr} (e : (lookA K, lookB K) = (wantA, wantB)) (X : K.In h) (G : h.Ns mainGlobals mg) (hfa : mg "answers" = some (.ref fa)) :
    ∃ fd : FuncData, (∀ (s : Shared) (us : List Value), us.length = (["calls"] : List Str).length → BindsTo s fd ⟨us, []⟩ ((["calls"] : List Str).zip us)) ∧ ∀ base : Heap, K.In base → base.Ns mainGlobals mg → FnOk P w K mg base CX0 11 fa fd ["calls"] (spAll K) := by
  obtain ⟨e1, e⟩ := Prod.mk.inj e
  unfold lookA wantA at e1
  unfold lookB wantB at e
  obtain ⟨e2, e⟩ := Prod.mk.inj e
  obtain ⟨e3, e⟩ := Prod.mk.inj e
  obtain ⟨e4, e⟩ := Prod.mk.inj e
  obtain ⟨e5, e⟩ := Prod.mk.inj e
  obtain ⟨e6, e⟩ := Prod.mk.inj e
  obtain ⟨e7, e8⟩ := Prod.mk.inj e
  have cL := cls_look e3 0 rfl
  have cD := cls_look e3 1 rfl
  have cS := cls_look e3 2 rfl
  have cU := cls_look e3 3 rfl
  have cT := cls_look e3 4 rfl
  have nn : ∀ x ∈ NNS, mg x = none := fun x hx => mg_none_of X G (List.map_inj_left.mp e4 x hx)
  have T : Txt K mg 31 52 73 := ⟨cL.cl, cD.cl, cS.cl, fun x hx => nn x (show x ∈ BLTS ++ BLT2 from List.mem_append.mpr (.inl hx))⟩
  have TB : TxtB K mg 367 492 := ⟨cU.cl, cT.cl, fun x hx => nn x (show x ∈ BLTS ++ BLT2 from List.mem_append.mpr (.inr hx)), fun p hp => by
    obtain ⟨t, ht⟩ := giAt_is (List.map_inj_left.mp e5 p hp)
    exact ⟨t, mg_of X G ht⟩⟩
  have TT : TabOk K mg := by
    refine ⟨?_, ?_⟩
    · obtain ⟨t, od, its, n, sl, hn, ho, hi⟩ := seqAt_is e6
      refine ⟨t, _, its, n, ANSA, mg_of X G hn, ho, rfl, rfl, hi, rfl, fun j x f hx hf => ?_⟩
      have z : (ANSN.map (fun x => nsIn K mainGlobals x))[j]? = (ANSA.map (fun a => (some (some (.ref a)) : Option (Option Value))))[j]? := congrArg (fun l => l[j]?) e7
      rw [List.getElem?_map, List.getElem?_map, show ANSN[j]? = some x from hx, hf] at z
      exact mg_of X G (Option.some.inj z)
    · cases hs : seqAt K "WHOLE_NUMBERS" with
      | nil => rw [hs] at e8; cases e8
      | cons v r =>
        obtain ⟨t, od, its, n, sl, hn, ho, hi⟩ := seqAt_is hs
        rw [hs, ← hi] at e8
        exact ⟨t, _, its, n, mg_of X G hn, ho, rfl, rfl, vals_ints _ _ e8⟩
  have AH : AllHas K mg 31 52 73 367 492 := {
    T := T, TB := TB, TT := TT
    h_loI := hasC_look X G e2 0 cL rfl rfl (b6 fun _ _ _ _ _ _ _ _ _ _ _ _ => rfl)
    h_deI := hasC_look X G e2 1 cD rfl rfl (b5 fun _ _ _ _ _ _ _ _ _ _ _ => rfl)
    h_shI := hasC_look X G e2 2 cS rfl rfl (b3 fun _ _ _ _ _ _ _ _ _ => rfl)
    h_usI := hasC_look X G e2 3 cU rfl rfl (b5 fun _ _ _ _ _ _ _ _ _ _ _ => rfl)
    h_sI := hasC_look X G e2 4 cT rfl rfl (b1 fun _ _ _ _ _ _ _ => rfl)
    h_do := has_look X G e1 0 rfl rfl (b1 fun _ _ _ _ _ _ _ => rfl)
    h_good := has_look X G e1 1 rfl rfl (b2 fun _ _ _ _ _ _ _ _ => rfl)
    h_one := has_look X G e1 2 rfl rfl (b2 fun _ _ _ _ _ _ _ _ => rfl)
    h_exp := has_look X G e1 3 rfl rfl (b1 fun _ _ _ _ _ _ _ => rfl)
    h_turn := has_look X G e1 4 rfl rfl (b1 fun _ _ _ _ _ _ _ => rfl)
    h_wil := has_look X G e1 5 rfl rfl (b1 fun _ _ _ _ _ _ _ => rfl)
    h_fef := has_look X G e1 6 rfl rfl (b4 fun _ _ _ _ _ _ _ _ _ _ => rfl)
    h_to := has_look X G e1 7 rfl rfl (b2 fun _ _ _ _ _ _ _ _ => rfl)
    h_pl := has_look X G e1 8 rfl rfl (b3 fun _ _ _ _ _ _ _ _ _ => rfl)
    h_sv := has_look X G e1 9 rfl rfl (b1 fun _ _ _ _ _ _ _ => rfl)
    h_lk := has_look X G e1 10 rfl rfl (b1 fun _ _ _ _ _ _ _ => rfl)
    h_dr := has_look X G e1 11 rfl rfl (b2 fun _ _ _ _ _ _ _ _ => rfl)
    h_tm := has_look X G e1 12 rfl rfl (b1 fun _ _ _ _ _ _ _ => rfl)
    h_ao := has_look X G e1 13 rfl rfl (b2 fun _ _ _ _ _ _ _ _ => rfl)
    h_lf := has_look X G e1 14 rfl rfl (b2 fun _ _ _ _ _ _ _ _ => rfl)
    h_doo := has_look X G e1 15 rfl rfl (b3 fun _ _ _ _ _ _ _ _ _ => rfl)
    h_ia := has_look X G e1 16 rfl rfl (b1 fun _ _ _ _ _ _ _ => rfl)
    h_id := has_look X G e1 17 rfl rfl (b1 fun _ _ _ _ _ _ _ => rfl)
    h_ido := has_look X G e1 18 rfl rfl (b1 fun _ _ _ _ _ _ _ => rfl)
    h_il := has_look X G e1 19 rfl rfl (b2 fun _ _ _ _ _ _ _ _ => rfl)
    h_add3 := has_look X G e1 20 rfl rfl (b1 fun _ _ _ _ _ _ _ => rfl)
    h_row := has_look X G e1 21 rfl rfl (b1 fun _ _ _ _ _ _ _ => rfl)
    h_tel := has_look X G e1 22 rfl rfl (b1 fun _ _ _ _ _ _ _ => rfl)
    h_a0 := has_look X G e1 23 rfl rfl (b2 fun _ _ _ _ _ _ _ _ => rfl)
    h_a1 := has_look X G e1 24 rfl rfl (b2 fun _ _ _ _ _ _ _ _ => rfl)
    h_a2 := has_look X G e1 25 rfl rfl (b2 fun _ _ _ _ _ _ _ _ => rfl)
    h_a3 := has_look X G e1 26 rfl rfl (b2 fun _ _ _ _ _ _ _ _ => rfl)
    h_a4 := has_look X G e1 27 rfl rfl (b2 fun _ _ _ _ _ _ _ _ => rfl)
    h_a5 := has_look X G e1 28 rfl rfl (b2 fun _ _ _ _ _ _ _ _ => rfl)
    h_a6 := has_look X G e1 29 rfl rfl (b2 fun _ _ _ _ _ _ _ _ => rfl)
    h_a7 := has_look X G e1 30 rfl rfl (b2 fun _ _ _ _ _ _ _ _ => rfl)
    h_a8 := has_look X G e1 31 rfl rfl (b2 fun _ _ _ _ _ _ _ _ => rfl)
    h_a9 := has_look X G e1 32 rfl rfl (b2 fun _ _ _ _ _ _ _ _ => rfl)
    h_a10 := has_look X G e1 33 rfl rfl (b2 fun _ _ _ _ _ _ _ _ => rfl)
    h_a11 := has_look X G e1 34 rfl rfl (b2 fun _ _ _ _ _ _ _ _ => rfl)
    h_a12 := has_look X G e1 35 rfl rfl (b2 fun _ _ _ _ _ _ _ _ => rfl)
    h_a13 := has_look X G e1 36 rfl rfl (b2 fun _ _ _ _ _ _ _ _ => rfl)
    h_a14 := has_look X G e1 37 rfl rfl (b2 fun _ _ _ _ _ _ _ _ => rfl)
    h_a15 := has_look X G e1 38 rfl rfl (b2 fun _ _ _ _ _ _ _ _ => rfl)
    h_a16 := has_look X G e1 39 rfl rfl (b2 fun _ _ _ _ _ _ _ _ => rfl)
    h_ca := has_look X G e1 40 rfl rfl (b3 fun _ _ _ _ _ _ _ _ _ => rfl)
    h_cut := has_look X G e1 41 rfl rfl (b1 fun _ _ _ _ _ _ _ => rfl)
    h_lo := hasM_look e2 5 rfl rfl (b2 fun _ _ _ _ _ _ _ _ => rfl)
    h_df := hasM_look e2 6 rfl rfl (b2 fun _ _ _ _ _ _ _ _ => rfl)
    h_so := hasM_look e2 7 rfl rfl (b2 fun _ _ _ _ _ _ _ _ => rfl)
    h_li := hasM_look e2 8 rfl rfl (b4 fun _ _ _ _ _ _ _ _ _ _ => rfl)
    h_lof := hasM_look e2 9 rfl rfl (b2 fun _ _ _ _ _ _ _ _ => rfl)
    h_lw := hasM_look e2 10 rfl rfl (b2 fun _ _ _ _ _ _ _ _ => rfl)
    h_lwo := hasM_look e2 11 rfl rfl (b3 fun _ _ _ _ _ _ _ _ _ => rfl)
    h_tn := hasM_look e2 12 rfl rfl (b3 fun _ _ _ _ _ _ _ _ _ => rfl)
    h_uf := hasM_look e2 13 rfl rfl (b2 fun _ _ _ _ _ _ _ _ => rfl)
    h_bg := hasM_look e2 14 rfl rfl (b1 fun _ _ _ _ _ _ _ => rfl)
    h_al := hasM_look e2 15 rfl rfl (b5 fun _ _ _ _ _ _ _ _ _ _ _ => rfl)
    h_nd := hasM_look e2 16 rfl rfl (b4 fun _ _ _ _ _ _ _ _ _ _ => rfl)
    h_ad := hasM_look e2 17 rfl rfl (b2 fun _ _ _ _ _ _ _ _ => rfl)
    h_wl := hasM_look e2 18 rfl rfl (b2 fun _ _ _ _ _ _ _ _ => rfl)
    h_au := hasM_look e2 19 rfl rfl (b3 fun _ _ _ _ _ _ _ _ _ => rfl)
    h_ta := hasM_look e2 20 rfl rfl (b2 fun _ _ _ _ _ _ _ _ => rfl)
    h_dd := hasM_look e2 21 rfl rfl (b2 fun _ _ _ _ _ _ _ _ => rfl) }
  obtain ⟨f, fd, ev, F, _, kV, doc, pm, an, cdv, ct, ed⟩ := fnAt_is (st := sAll) rfl (map_at e1 42 (d := Da "answers" sAll) rfl)
  have e := hfa.symm.trans (mg_of X G ev)
  cases e
  refine ⟨fd, fun s us hu => ?_, fun base _ _ => AH.fin F⟩
  obtain ⟨v, u1, rfl, h1⟩ := lenS hu
  obtain rfl := len0 h1
  subst ed
  exact .of_eq rfl
end
theorem walk_specE {r : OpenSpec} {k : Nat} {q : Program} {loose : List Str} {XP : (Str → Option Value) → Heap → Prop} {d : DefRec} {CX : CXT} {ps : List Str} {sp : Frag → Sp} {Good : Frag → Prop}
    (hwell : r.wellSaid = true) (hdf : d.params.defaults = []) (hlen : r.args.length = ps.length) (hr : Room k callerA)
    (F : ∀ (w : World) (K : Frag) (mg : Str → Option Value) (fa : Addr) (h : Heap), Good K → K.In h → h.Ns mainGlobals mg → mg d.name = some (.ref fa) →
      ∃ fd : FuncData, (∀ (s : Shared) (us : List Value), us.length = ps.length → BindsTo s fd ⟨us, []⟩ (ps.zip us)) ∧ ∀ base : Heap, K.In base → base.Ns mainGlobals mg → FnOk r.prog w K mg base CX k fa fd ps (sp K))
    (hsp : ∀ (K : Frag) (H : Hp) (xs : List V) (a : Codec.denoteAll r.args), OnlyF H → Codec.withinAll r.args a = true → Codec.app r.args r.asked a = true → DwAll K H xs (Codec.encAll r.args a) →
      sp K xs H (fun v H' => Dw K H' v (r.ret.enc (Codec.app r.args r.f a))) fun _ _ _ => False)
    (hCX : ∀ (H : Hp) (s : Shared) (e : Value) (s' : Shared), CX [] H s (fun _ _ _ => False) e s' → False) :
    WalkOS q loose XP (fun _ h => ∃ K : Frag, K.In h ∧ Good K) r d [] (fun f vs => PySem.call f vs) := by
  intro w s0 s1 mg mb G Y
  obtain ⟨K, hK, g⟩ := Y
  exact walk_specK (K := fun _ => K) (YP := fun _ h => K.In h) hwell hdf hlen hr (fun _ _ h => h) (fun w mg fa h _ KX G hm => F w K mg fa h g KX G hm) hsp hCX w s0 s1 mg mb G hK
end Rs
end
open PySem PySem.W PyProof.Rows
set_option maxHeartbeats 0
theorem PySem.Challenge.cw_reagentstock_s01_answers_holds : PySem.Challenge.rw_reagentstock_s01_answers.Holds := by
  refine holds_os (q := view Rs.PRG [71]) (loose := Rs.LOOSE) (Xt := fun _ => true) (XP := fun _ _ => True) (Yf := fun s => (Rs.lookA (Rs.kOf s.heap), Rs.lookB (Rs.kOf s.heap))) (Ya := fun _ => (Rs.wantA, Rs.wantB)) (YP := fun _ h => ∃ K : Frag, K.In h ∧ (Rs.lookA K, Rs.lookB K) = (Rs.wantA, Rs.wantB)) (N := 6712)
    Rs.left_top (fun w s e => ⟨Rs.kOf s.heap, Rs.kOf_in _, e⟩) (fun w h h' z k => z.imp fun K y => ⟨y.1.keeps k, y.2⟩) (fun _ _ => trivial) (fun _ _ _ _ _ => trivial) (by rfl) (by rfl) (by rfl) (fun _ _ => recFacts_nil rfl) os_shapes (by decide +kernel) (by decide +kernel) ⟨rfl, rfl, rfl, rfl, rfl, by decide +kernel⟩
    ⟨[.list [.int 0]], by decide +kernel, by decide +kernel⟩ ?_
  refine Rs.walk_specE (k := 11) (CX := L2.CX0) (ps := ["calls"]) (sp := Rs.spAll) (Good := fun K => (Rs.lookA K, Rs.lookB K) = (Rs.wantA, Rs.wantB)) (by decide +kernel) rfl rfl ⟨rfl, by decide, by decide⟩ (fun w K mg fa h e X G hm => Rs.look_all e X G hm) ?S (fun _ _ _ _ z => z)
  case S =>
    intro K H xs a hO hwi hask hx
    cases hx with
    | cons h1 h2 =>
      cases h2
      cases h1 with
      | lst hs ha =>
        have e := L2.ints_dw a.1 _ ha
        subst e
        have q : ((Codec.inLen 0 16000 a.1 && a.1.all (Codec.inInt (Int.negSucc 9223372036854775807) (Int.ofNat 9223372036854775807))) && true) = true := hwi
        rw [Bool.and_eq_true, Bool.and_eq_true] at q
        exact ⟨_, a.1, rfl, hs, (Codec.inNat_iff.mp q.1.1).2, hask, fun H' p hp => .lst (L2.SqL.of hp) (L2.dw_ints _)⟩
#print axioms PySem.Challenge.cw_reagentstock_s01_answers_holds
