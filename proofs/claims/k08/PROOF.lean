import PyProof.Rows.All
import Wide.All
import OpenK.AllK
import Wide.FinOn
import HandS.ForMost
import HandS.Wide
import HandS.IsInst
import HandS.Zip
import HandS.Walk
import HandS.NoneIn
import HandS.HotCalls
import HandS.ExcIs
import HandS.Star
import HandS.More
import HandS.ListItems
import KE.KDictList
import HandS.FStr
import HandS.Small
import PySem.Challenge.RW_dunnage_k08_yards_that_are_full
import HandS.Style
import HandS.TupMul
import KE.KStateDown
import Lean
import HandS.Defaults
import HandS.Head0
import HandS.Head1
import HandS.Head2
import HandS.HeadEnd
import HandS.HeadHook1
import HandS.HeadHook2
import HandS.HeadHook3
import HandS.HeadHook4
set_option Elab.async false
set_option linter.all false
set_option maxRecDepth 100000
set_option maxHeartbeats 8000000
section
set_option maxHeartbeats 0
noncomputable section
namespace HX
open PySem PySem.W PySem.Calls PyProof.Rows
/-! a head in parts: the top's states at some cuts are written out, each part is run by itself -/
def seg (st : SharedT → Thread → Option (SharedT × Thread)) (n0 : Nat) (ann : Option Value) : Nat → SharedT → Thread → Option (SharedT × Code × Pos)
  | 0, _, _ => none
  | m + 1, s, t => match endAt 1 t with
    | some .next => some (s, t.code, t.pos)
    | some _ => none
    | none => match stepOk n0 ann t with
      | false => none
      | true => match st s t with
        | some (u, v) => HandSHeadRun.frS u fun u => seg st n0 ann m u v
        | none => none
theorem seg_ok {p : Program} {w : World} {n0 : Nat} {ann : Option Value} : ∀ (m : Nat) {s u : SharedT} {t : Thread} {c : Code} {q : Pos},
    seg (stepT (denote treeTable) p w) n0 ann m s t = some (u, c, q) → segRun treeTable p w n0 ann 1 m s.abs t = some (.next, u.abs, c, q) := by
  intro m
  induction m with
  | zero => intro s u t c q h; cases h
  | succ m ih =>
    intro s u t c q h
    unfold seg at h
    unfold segRun
    cases he : endAt 1 t with
    | some f => cases f <;> (rw [he] at h; cases h) <;> rfl
    | none =>
      rw [he] at h
      dsimp only at h ⊢
      cases hk : stepOk n0 ann t with
      | false => rw [hk] at h; cases h
      | true =>
        rw [hk] at h
        dsimp only at h ⊢
        cases hs : stepT (denote treeTable) p w s t with
        | none => rw [hs] at h; cases h
        | some r =>
          obtain ⟨a, b⟩ := r
          rw [hs] at h
          dsimp only at h
          rw [HandSHeadRun.frS_eq] at h
          rw [stepT_spec hs]
          exact ih h
theorem part {p : Program} {w : World} {n0 m N : Nat} {ann : Option Value} {env : Env} {q pos pos' : Pos} {l rest : List Stmt} {c : Code} {s u : SharedT} {r : Shared}
    (h : seg (HandSHeadRun.stepQ (HandSHeadRun.denQ HandSHeadRun.tabQ) p w) n0 ann m s (piecesOf l env c pos [topFrame q]) = some (u, c, pos'))
    (k : topRun treeTable p w n0 ann N u.abs (restOf rest env c pos' [topFrame q]) = some r) :
    topRun treeTable p w n0 ann (m + N) s.abs (restOf (l ++ rest) env c pos [topFrame q]) = some r := by
  rw [← HandSHeadRun.stepQ_eq, ← HandSHeadRun.denQ_eq, ← HandSHeadRun.tabQ_eq] at h
  exact piece_app (seg_ok m h) k
/-- what is told of the top, by parts -/
theorem says_of {fa : List He.Fa} {fn : List He.DefD} {ts : List He.Tab} {ex : Frag → Bool} {w : World} {h : Heap} {K : Frag}
    (a : (fa.all fun f => f.ok K) = true) (b : (fn.all fun d => d.ok K) = true) (c : (fn.map fun d => He.fnW K d.at_) = fn.map He.DefD.val)
    (d : (ts.map fun t => He.dicW K (t.1 K)) = ts.map fun t => some (He.keysIn w.params t.2)) (e : ex K = true) : He.SaysX fa fn ts [] ex w h K where
  t := by
    unfold He.SaysT He.obsT He.valT He.obsD He.valD
    rw [a, b, c, d]
    rfl
  more := e
  hd := fun _ z => nomatch z
  out := fun _ z => nomatch z
  empty := fun _ z => nomatch z
theorem in_of {h : Heap} : ∀ {K : Frag}, ((K.map fun x => x.1).map h.get?) = (K.map fun x => some x.2) → K.In h
  | [], _ => fun _ _ z => nomatch z
  | (b, u) :: r, e => by
    obtain ⟨e1, e2⟩ := List.cons.inj e
    have ih := in_of e2
    intro a o z
    have z2 : (match a == b with | true => some u | false => List.lookup a r) = some o := z
    cases q : (a == b) with
    | true =>
      rw [q] at z2
      rw [← Option.some.inj z2, eq_of_beq q]
      exact e1
    | false =>
      rw [q] at z2
      exact ih a o z2
/-- the hook of a written part of the heap -/
def hook (fa : List He.Fa) (fn : List He.DefD) (ts : List He.Tab) (ex : Frag → Bool) (K : Params → Frag) (ks : List Addr) (hk : ∀ P, (K P).map (fun x => x.1) = ks) (S : ∀ w h, He.SaysX fa fn ts [] ex w h (K w.params)) : Hook where
  α := List (Option Obj)
  obs := fun s => ks.map s.heap.get?
  val := fun w => (K w.params).map fun x => some x.2
  says := fun w h => ∃ K : Frag, K.In h ∧ He.SaysX fa fn ts [] ex w h K
  of := fun w s e => ⟨K w.params, in_of (by rw [hk]; exact e), S w _⟩
  keeps := fun _ _ _ ⟨K, hK, c⟩ k => ⟨K, Frag.In.keeps hK k, ⟨c.t, c.more, c.hd, c.out, fun _ z => nomatch z⟩⟩
theorem get_eq {ks : List Addr} {s : SharedT} {v : List (Option Obj)} (e : ks.map (HandSHeadRun.getT s) = v) : ks.map s.abs.heap.get? = v := by
  rw [← e]
  exact List.map_congr_left fun a _ => (HandSHeadRun.getT_eq s a).symm
theorem all_app {α : Type} {f : α → Bool} {a b : List α} (h : a.all f = true) (k : b.all f = true) : (a ++ b).all f = true := by rw [List.all_append, h, k]; rfl
theorem map_app {α β : Type} {f g : α → β} {a b : List α} (h : a.map f = a.map g) (k : b.map f = b.map g) : (a ++ b).map f = (a ++ b).map g := by rw [List.map_append, List.map_append, h, k]
theorem and_of {a b : Bool} (h : a = true) (k : b = true) : (a && b) = true := by rw [h, k]; rfl
end HX
end
noncomputable section
namespace HX
open PySem PySem.W PySem.Calls PyProof.Rows
/-- a law by what its top leaves -/
theorem by_left {r : OpenRow} {q : Program} {H : Hook} {N : Nat} {loose : List PySem.Str} {d : DefRec}
    (left : LeftO r.prog q loose (fun s => xlAt q [] s && recOk r.toRowW.records s) H.obs H.val N true)
    (hd : defOf q r.name = some (d, [])) (hp : r.prog.theDef r.name = some (d.params, d.body, d.scope)) (hk : kwWritten? d.params.kwonlyargs d.params.kw_defaults = some [])
    (h1 : (!r.writes || r.records.isEmpty) = true) (h2 : r.wellSaid = true) (h3 : (chainsOk q && opensWell r.prog && (frees r.toRowW && r.within.isEmpty)) = true) (h4 : r.prog.bare) (h5 : r.toRowW.promised)
    (goes : WalkO q loose (XL q []) H.says r.toRowW d [] fun f vs => PySem.call f vs) : r.Holds :=
  holds_open (XP := XL q []) (YP := H.says) left H.of H.keeps (fun s z => xl_of s (He.ba z).1) XL.keeps hd hp hk (fun s z => recFacts_of (He.ba z).2) h1 h2 h3 h4 h5 goes
end HX
end
namespace HD
open PySem PySem.Spec PyProof.Rows L2
def topS (i : Nat) : Stmt := PySem.Challenge.pw_dunnage_k08_yards_that_are_full.main.body.getD i (.Pass ⟨0, 0, 0, 0⟩)
def gd (x : Str) (st : Stmt) : He.DefD := ⟨(x, none), x, x, defArgs st, defBody st, defScope st, [], []⟩
def md (c m q : Str) (st : Stmt) : He.DefD := ⟨(c, some m), m, q, defArgs st, defBody st, defScope st, [], []⟩
def fn0 : List He.DefD := [gd "check_form" (topS 23), gd "is_name" (topS 24), gd "is_number" (topS 25), gd "is_place" (topS 26), gd "is_course" (topS 27), gd "is_weight" (topS 28), gd "check_new_name" (topS 36), gd "check_course" (topS 37), gd "check_places" (topS 38), gd "check_weight" (topS 39), gd "check_count" (topS 40), gd "check_room" (topS 41), gd "check_on_board" (topS 42), gd "board_row" (topS 43), gd "board_or_trestle_row" (topS 44), gd "sack_row" (topS 45), gd "cord_row" (topS 46), gd "check_no_cord" (topS 47), gd "check_no_sack" (topS 48), gd "set_trestle" (topS 49), gd "lay_board" (topS 50), gd "take_away" (topS 51), gd "shift_along" (topS 52), gd "shift_sacks" (topS 53), gd "set_sack" (topS 54), gd "move_sack" (topS 55), gd "lift_sack" (topS 56), gd "tie_cord" (topS 57), gd "cut_cord" (topS 58), gd "rows_by_names" (topS 60)]
def fn1 : List He.DefD := [gd "_law_feed" (topS 63), gd "_law_same" (topS 64), gd "_law_names" (topS 65), gd "_law_is_name" (topS 66), gd "_law_model" (topS 67), gd "_law_thing" (topS 68), gd "_law_crowds" (topS 69), gd "_law_first" (topS 70), gd "_law_new_fault" (topS 71), gd "_law_lay_fault" (topS 72), gd "_law_corded" (topS 73), gd "_law_shift_fault" (topS 74), gd "_law_off" (topS 75), gd "_law_sack_fault" (topS 76), gd "_law_cord_fault" (topS 77), gd "_law_fault" (topS 78), gd "_law_step" (topS 79), gd "_law_rows" (topS 80), gd "_law_yard_is" (topS 81), gd "_law_do" (topS 82), gd "_law_kin" (topS 83), gd "_law_turn" (topS 84), gd "_law_filling" (topS 85), gd "law" (topS 86), md "Yard" "__init__" "Yard.__init__" (inClass (topS 61) 0), md "Yard" "do" "Yard.do" (inClass (topS 61) 1), md "Yard" "boards" "Yard.boards" (inClass (topS 61) 2), md "Yard" "trestles" "Yard.trestles" (inClass (topS 61) 3), md "Yard" "sacks" "Yard.sacks" (inClass (topS 61) 4), md "Yard" "cords" "Yard.cords" (inClass (topS 61) 5)]
def fn2 : List He.DefD := [md "Yard" "twin" "Yard.twin" (inClass (topS 61) 6)]
def fn : List He.DefD := fn0 ++ fn1 ++ fn2
def fa0 : List He.Fa := [.glo "_wall", .glo "check_form", .glo "is_name", .glo "is_number", .glo "is_place", .glo "is_course", .glo "is_weight", .glo "check_new_name", .glo "check_course", .glo "check_places", .glo "check_weight", .glo "check_count", .glo "check_room", .glo "check_on_board", .glo "board_row", .glo "board_or_trestle_row", .glo "sack_row", .glo "cord_row", .glo "check_no_cord", .glo "check_no_sack", .glo "set_trestle", .glo "lay_board", .glo "take_away", .glo "shift_along", .glo "shift_sacks", .glo "set_sack", .glo "move_sack", .glo "lift_sack", .glo "tie_cord", .glo "cut_cord"]
def fa1 : List He.Fa := [.glo "rows_by_names", .glo "_law_feed", .glo "_law_same", .glo "_law_names", .glo "_law_is_name", .glo "_law_model", .glo "_law_thing", .glo "_law_crowds", .glo "_law_first", .glo "_law_new_fault", .glo "_law_lay_fault", .glo "_law_corded", .glo "_law_shift_fault", .glo "_law_off", .glo "_law_sack_fault", .glo "_law_cord_fault", .glo "_law_fault", .glo "_law_step", .glo "_law_rows", .glo "_law_yard_is", .glo "_law_do", .glo "_law_kin", .glo "_law_turn", .glo "_law_filling", .glo "law", .glo "YardError", .glo "BadName", .glo "Taken", .glo "BadCourse", .glo "BadPlace"]
def fa2 : List He.Fa := [.glo "BadWeight", .glo "Full", .glo "Crowded", .glo "NoThing", .glo "InUse", .glo "NoSack", .glo "NoCord", .glo "BadCord", .glo "BadDeed", .glo "Yard", .glo "DEED_THINGS", .glo "ACTIONS", .glo "BEAM_ROW", .free "ValueError", .free "all", .free "any", .free "bool", .free "dict", .free "int", .free "isinstance", .free "len", .free "list", .free "max", .free "min", .free "range", .free "sorted", .free "str", .free "tuple", .free "zip", .int "LONGEST_NAME" 8]
def fa3 : List He.Fa := [.int "FARTHEST_PLACE" 1000000, .int "HIGHEST_COURSE" 9, .int "GREATEST_WEIGHT" 1000000000, .int "MOST_BOARDS" 6, .int "MOST_TRESTLES" 6, .int "MOST_SACKS" 8, .int "MOST_CORDS" 4, .str "LETTERS" "abcdefghijklmnopqrstuvwxyz", .str "BEAM" "", .exc "YardError", .exc "BadName", .exc "Taken", .exc "BadCourse", .exc "BadPlace", .exc "BadWeight", .exc "Full", .exc "Crowded", .exc "NoThing", .exc "InUse", .exc "NoSack", .exc "NoCord", .exc "BadCord", .exc "BadDeed", .exm "YardError" "YardError" true, .exm "BadName" "YardError" true, .exm "Taken" "YardError" true, .exm "BadCourse" "YardError" true, .exm "BadPlace" "YardError" true, .exm "BadWeight" "YardError" true, .exm "Full" "YardError" true]
def fa4 : List He.Fa := [.exm "Crowded" "YardError" true, .exm "NoThing" "YardError" true, .exm "InUse" "YardError" true, .exm "NoSack" "YardError" true, .exm "NoCord" "YardError" true, .exm "BadCord" "YardError" true, .exm "BadDeed" "YardError" true, .cls "Yard", .mkr "Yard", .noat "Yard" "board_rows", .noat "Yard" "trestle_rows", .noat "Yard" "sack_rows", .noat "Yard" "cord_rows", .meth "Yard" "do", .meth "Yard" "boards", .meth "Yard" "trestles", .meth "Yard" "sacks", .meth "Yard" "cords", .meth "Yard" "twin"]
def fa : List He.Fa := fa0 ++ fa1 ++ fa2 ++ fa3 ++ fa4
def ts : List He.Tab := [(fun K => He.ga K "DEED_THINGS", ["trestle", "board", "away", "along", "sack", "move", "lift", "cord", "cut"]), (fun K => He.ga K "ACTIONS", ["trestle", "board", "away", "along", "sack", "move", "lift", "cord", "cut"])]
def tupAt (K : PySem.W.Frag) (t : Addr) (l : List He.Dv) : Bool := match K.lookup t with
  | some ⟨.type c, _, .seq xs _, _⟩ => (decide (c = "tuple") && decide (xs.size ≤ sizeLine)) && He.relAll (l.map (He.Dv.v K)) xs.toList
  | _ => false
def tabB (K : PySem.W.Frag) (a : Addr) (l : List (Str × List He.Dv)) : Bool := l.all fun p => match PySem.W.nsIn K a p.1 with
  | some (some (.ref t)) => tupAt K t p.2
  | _ => false
theorem tupAt_ok {K : PySem.W.Frag} {t : Addr} {l : List He.Dv} (h : tupAt K t l = true) (H : Hp) : SqT K H t (l.map (He.Dv.v K)) := by
  unfold tupAt at h
  cases q : K.lookup t with
  | none => rw [q] at h; cases h
  | some o =>
    obtain ⟨oc, od, dt, osl⟩ := o
    rw [q] at h
    cases oc with
    | type c =>
      cases dt with
      | seq xs n =>
        obtain ⟨h1, h2⟩ := He.ba (show ((decide (c = "tuple") && decide (xs.size ≤ sizeLine)) && He.relAll (l.map (He.Dv.v K)) xs.toList) = true from h)
        obtain ⟨h3, h4⟩ := He.ba h1
        exact .inr ⟨_, xs, n, q, congrArg Value.type (of_decide_eq_true h3), rfl, of_decide_eq_true h4, He.relAll_ok h2⟩
      | _ => cases h
    | _ => cases dt <;> cases h
theorem tabB_ok {K : PySem.W.Frag} {a : Addr} {l : List (Str × List He.Dv)} (h : tabB K a l = true) {p : Str × List He.Dv} (hp : p ∈ l) : ∃ (u : Value) (t : Addr) (xs : List V), PySem.W.nsIn K a p.1 = some (some u) ∧ RelV (.ref t) u ∧ xs.length = p.2.length ∧ ∀ H : Hp, SqT K H t xs := by
  have h2 := List.all_eq_true.mp h p hp
  cases e : PySem.W.nsIn K a p.1 with
  | none => rw [e] at h2; cases h2
  | some r =>
    rw [e] at h2
    cases r with
    | none => cases h2
    | some u =>
      cases u with
      | ref t => exact ⟨_, t, p.2.map (He.Dv.v K), rfl, He.relB_ok (v := .ref t) (u := .ref t) (decide_eq_true rfl), List.length_map .., fun H => tupAt_ok h2 H⟩
      | _ => cases h2
def isB (K : PySem.W.Frag) (c d : Str) (b : Bool) : Bool := decide (PySem.W.kitOne K (.ref (He.ga K c)) (.ref (He.ga K d)) = some b)
def isT (K : PySem.W.Frag) (c : Str) : Bool := decide (PySem.W.kitOne K (.ref (He.ga K c)) (.type "ValueError") = some true)
def excC (K : PySem.W.Frag) (x : Str) : Bool := He.eqO (PySem.W.findIn K (.ref (He.ga K x)) "__getattribute__") (some (some (.builtin "BaseException.__getattribute__"))) && (He.eqO (PySem.W.findIn K (.ref (He.ga K x)) "__getattr__") (some none) && (PySem.W.hasDictIn K (He.ga K x) && (He.eqO (PySem.W.findIn K (.ref (He.ga K x)) "__class__") (some (some (.builtin "object.__class__"))) && (He.eqO (PySem.W.specialIn K (.builtin "object.__class__") "__get__") (some (some (.builtin "getset_descriptor.__get__"))) && (decide (PySem.W.takesIn K (.builtin "object.__class__") = some true) && decide (PySem.W.mroIn K (He.ga K x) (.type "object") = some true))))))
def errs : List Str := ["BadName", "Taken", "BadCourse", "BadPlace", "BadWeight", "Full", "Crowded", "NoThing", "InUse", "NoSack", "NoCord", "BadCord", "BadDeed"]
def ex (K : PySem.W.Frag) : Bool := (tabB K (He.ga K "DEED_THINGS") [("trestle", [.str "name", .str "number", .str "number", .str "number"]), ("board", [.str "name", .str "number", .str "number", .str "number", .str "number"]), ("away", [.str "name"]), ("along", [.str "name", .str "number"]), ("sack", [.str "name", .str "name", .str "number", .str "number"]), ("move", [.str "name", .str "name", .str "number"]), ("lift", [.str "name"]), ("cord", [.str "name", .str "upper", .str "name", .str "number"]), ("cut", [.str "name"])]) && (He.valsB K (He.ga K "ACTIONS") [("trestle", .glo "set_trestle"), ("board", .glo "lay_board"), ("away", .glo "take_away"), ("along", .glo "shift_along"), ("sack", .glo "set_sack"), ("move", .glo "move_sack"), ("lift", .glo "lift_sack"), ("cord", .glo "tie_cord"), ("cut", .glo "cut_cord")]) && (errs.all (fun c => isT K c && (excC K c && errs.all fun d => isB K c d (decide (c = d))))) && (He.tupB K "BEAM_ROW" [.str "", .int 10, .int (-1000000), .int 1000000])
abbrev R : PySem.W.OpenRow := PySem.W.OpenLaw.row PySem.Challenge.rw_dunnage_k08_yards_that_are_full
def loose0 : List PySem.Str := ["_wall", "YardError", "BadName", "Taken", "BadCourse", "BadPlace", "BadWeight", "Full", "Crowded", "NoThing", "InUse", "NoSack", "NoCord", "BadCord", "BadDeed", "LETTERS", "LONGEST_NAME", "FARTHEST_PLACE", "HIGHEST_COURSE", "GREATEST_WEIGHT", "DEED_THINGS", "check_form", "is_name", "is_number", "is_place", "is_course", "is_weight", "MOST_BOARDS", "MOST_TRESTLES", "MOST_SACKS"]
def loose1 : List PySem.Str := ["MOST_CORDS", "BEAM", "BEAM_ROW", "check_new_name", "check_course", "check_places", "check_weight", "check_count", "check_room", "check_on_board", "board_row", "board_or_trestle_row", "sack_row", "cord_row", "check_no_cord", "check_no_sack", "set_trestle", "lay_board", "take_away", "shift_along", "shift_sacks", "set_sack", "move_sack", "lift_sack", "tie_cord", "cut_cord", "ACTIONS", "rows_by_names", "Yard", "_law_feed"]
def loose2 : List PySem.Str := ["_law_same", "_law_names", "_law_is_name", "_law_model", "_law_thing", "_law_crowds", "_law_first", "_law_new_fault", "_law_lay_fault", "_law_corded", "_law_shift_fault", "_law_off", "_law_sack_fault", "_law_cord_fault", "_law_fault", "_law_step", "_law_rows", "_law_yard_is", "_law_do", "_law_kin", "_law_turn", "_law_filling"]
def loose : List PySem.Str := loose0 ++ loose1 ++ loose2

/-! the states at the cuts -/
section
open PySem.W PySem.Calls
noncomputable section
abbrev N : Value := .none
abbrev r (a : Nat) : Value := .ref a
abbrev q (x : String) : Str := Str.ofString x
abbrev s (x : String) (t : Nat) : Value := .str (q x) t
abbrev i (k : Int) (t : Nat) : Value := .int k t
abbrev T (x : String) : Value := .type x
abbrev B (x : String) : Value := .builtin x
abbrev z : PySem.W.BT := .nil
abbrev n (o : Obj) (a b : PySem.W.BT) : PySem.W.BT := .node o a b
abbrev e (P : Params) (x : String) (t : Nat) (v : Value) : DictEntry := ⟨PyData.keyHash P (q x), s x t, v⟩
abbrev F (nm qn : String) (st : Stmt) (g : Nat) (cl : List (Str × Addr)) (df kd dc pm : Value) (an : Option Addr) (cd ct : Value) (b : Nat) : FuncData := ⟨q nm, q qn, defArgs st, .stmts (defBody st), defScope st, g, cl, df, kd, dc, pm, an, cd, ct, b⟩
def o11_0 (P : Params) : Obj := ⟨(T "tuple"), none, (.seq [].toArray 0), [].toArray⟩
def o12_0 (P : Params) : Obj := ⟨N, none, (.fields [].toArray), [].toArray⟩
def o13_0 (P : Params) : Obj := ⟨(T "code"), none, (.fields [(s "<module>" 182), (s "<module>" 183), (s "/claim/cut.py" 184), (i (1) 0), (i (0) 0), (i (0) 0), (i (0) 0), (i (0) 0), (r 11), (.bool false), (i (181) 0), (r 12), N, N, N, N, (i (185) 0), (i (1) 0), (s "/claim/cut.py" 186)].toArray), [].toArray⟩
def o14_0 (P : Params) : Obj := ⟨(T "frame"), none, .plain, [(some (r 13)), (some (r 3)), (some (r 3)), none, (some (s "__main__" 164)), none, (some (r 0))].toArray⟩
def tree0 (P : Params) : PySem.W.BT := (n (PySem.W.boot_o_0 P) (n (PySem.W.boot_o_1 P) (n (PySem.W.boot_o_3 P) (n (PySem.W.boot_o_7 P) z z) (n (o11_0 P) z z)) (n (PySem.W.boot_o_5 P) (n (PySem.W.boot_o_9 P) z z) (n (o13_0 P) z z))) (n (PySem.W.boot_o_2 P) (n (PySem.W.boot_o_4 P) (n (PySem.W.boot_o_8 P) z z) (n (o12_0 P) z z)) (n (PySem.W.boot_o_6 P) (n (PySem.W.boot_o_10 P) z z) (n (o14_0 P) z z))))
def o3_1 (P : Params) : Obj := ⟨(T "dict"), none, (.dict [e P "__name__" 165 (s "dunnage.deeds" 422), e P "__doc__" 166 N, e P "__package__" 167 N, e P "__loader__" 168 (B "__main__.__loader__#opaque"), e P "__spec__" 169 N, e P "__annotations__" 170 (r 6), e P "__builtins__" 171 (r 4), e P "__file__" 173 (s "/claim/cut.py" 172), e P "__cached__" 174 N, e P "_wall" 193 (r 21), e P "YardError" 213 (r 31), e P "BadName" 229 (r 44), e P "Taken" 245 (r 56), e P "BadCourse" 261 (r 68), e P "BadPlace" 277 (r 80), e P "BadWeight" 293 (r 92), e P "Full" 309 (r 104), e P "Crowded" 325 (r 116), e P "NoThing" 341 (r 128), e P "InUse" 357 (r 140), e P "NoSack" 373 (r 152), e P "NoCord" 389 (r 164), e P "BadCord" 405 (r 176), e P "BadDeed" 421 (r 188), e P "LETTERS" 425 (s "abcdefghijklmnopqrstuvwxyz" 424), e P "LONGEST_NAME" 427 (i (8) 426), e P "FARTHEST_PLACE" 429 (i (1000000) 428), e P "HIGHEST_COURSE" 431 (i (9) 430), e P "GREATEST_WEIGHT" 433 (i (1000000000) 432)].toArray 29), [].toArray⟩
def o12_1 (P : Params) : Obj := ⟨N, none, (.fields [(i (1) 0), (i (0) 0), (r 20), (i (5) 0), (i (0) 0), (r 27), (i (7) 0), (i (0) 0), (r 40), (i (9) 0), (i (0) 0), (r 52), (i (11) 0), (i (0) 0), (r 64), (i (13) 0), (i (0) 0), (r 76), (i (15) 0), (i (0) 0), (r 88), (i (17) 0), (i (0) 0), (r 100), (i (19) 0), (i (0) 0), (r 112), (i (21) 0), (i (0) 0), (r 124), (i (23) 0), (i (0) 0), (r 136), (i (25) 0), (i (0) 0), (r 148), (i (27) 0), (i (0) 0), (r 160), (i (29) 0), (i (0) 0), (r 172), (i (31) 0), (i (0) 0), (r 184)].toArray), [].toArray⟩
def o15_1 (P : Params) : Obj := ⟨(T "tuple"), none, (.seq [].toArray 0), [].toArray⟩
def o16_1 (P : Params) : Obj := ⟨N, none, (.fields [].toArray), [].toArray⟩
def o17_1 (P : Params) : Obj := ⟨(T "tuple"), none, (.seq [(s "k" 190)].toArray 0), [].toArray⟩
def o18_1 (P : Params) : Obj := ⟨(T "tuple"), none, (.seq [].toArray 0), [].toArray⟩
def o19_1 (P : Params) : Obj := ⟨N, none, (.func (F "_wall" "_wall" (topS 0) 0 [] N N N N none N N 0)), [].toArray⟩
def o20_1 (P : Params) : Obj := ⟨(T "code"), none, (.fields [(s "_wall" 187), (s "_wall" 188), (s "/claim/cut.py" 189), (i (1) 0), (i (1) 0), (i (0) 0), (i (0) 0), (i (3) 0), (r 15), (.bool true), (i (181) 0), (r 16), N, (r 17), (r 18), (r 19), (i (191) 0), (i (1) 0), (s "/claim/cut.py" 192)].toArray), [].toArray⟩
def o21_1 (P : Params) : Obj := ⟨(T "function"), none, (.func (F "_wall" "_wall" (topS 0) 3 [] N N N (s "__main__" 164) none (r 20) N 0)), [].toArray⟩
def o22_1 (P : Params) : Obj := ⟨(T "tuple"), none, (.seq [(T "ValueError")].toArray 0), [].toArray⟩
def o23_1 (P : Params) : Obj := ⟨(T "builtin_function_or_method"), none, (.fields [(B "type.__prepare__"), (T "type")].toArray), [].toArray⟩
def o24_1 (P : Params) : Obj := ⟨(T "dict"), none, (.dict [e P "__module__" 203 (s "dunnage.errors" 194), e P "__qualname__" 205 (s "YardError" 204), e P "__firstlineno__" 207 (i (5) 206), e P "__static_attributes__" 208 (r 29)].toArray 4), [].toArray⟩
def o25_1 (P : Params) : Obj := ⟨(T "tuple"), none, (.seq [].toArray 0), [].toArray⟩
def o26_1 (P : Params) : Obj := ⟨N, none, (.fields [].toArray), [].toArray⟩
def o27_1 (P : Params) : Obj := ⟨(T "code"), none, (.fields [(s "YardError" 198), (s "YardError" 199), (s "/claim/cut.py" 200), (i (5) 0), (i (0) 0), (i (0) 0), (i (0) 0), (i (0) 0), (r 25), (.bool false), (i (181) 0), (r 26), N, N, N, N, (i (201) 0), (i (5) 0), (s "/claim/cut.py" 202)].toArray), [].toArray⟩
def o28_1 (P : Params) : Obj := ⟨(T "frame"), none, .plain, [(some (r 27)), (some (r 3)), (some (r 24)), none, (some (s "dunnage.errors" 194)), none, (some (r 0))].toArray⟩
def o29_1 (P : Params) : Obj := ⟨(T "tuple"), none, (.seq [].toArray 0), [].toArray⟩
def o30_1 (P : Params) : Obj := ⟨(T "dict"), none, (.dict [e P "__module__" 203 (s "dunnage.errors" 194), e P "__firstlineno__" 207 (i (5) 206), e P "__static_attributes__" 208 (r 29), e P "__weakref__" 210 (r 32), e P "__doc__" 211 N].toArray 3), [].toArray⟩
def o31_1 (P : Params) : Obj := ⟨(T "type"), none, (.cls ⟨(q "YardError"), [(T "ValueError")], [(r 31), (T "ValueError"), (T "Exception"), (T "BaseException"), (T "object")], 30, (q "YardError"), true, [], [(r 44), (r 56), (r 68), (r 80), (r 92), (r 104), (r 116), (r 128), (r 140), (r 152), (r 164), (r 176), (r 188)], false, none, false⟩), [(some (r 22)), none, (some (s "YardError" 196)), (some (s "YardError" 204)), (some (B "ValueError.__new__")), (some (.bool true))].toArray⟩
def o32_1 (P : Params) : Obj := ⟨(T "getset_descriptor"), none, (.fields [(s "__weakref__" 209), (r 31), (B "ExceptionGroup.__weakref__"), N].toArray), [].toArray⟩
def o33_1 (P : Params) : Obj := ⟨(T "super"), none, (.fields [(r 31), (r 31), (r 31)].toArray), [].toArray⟩
def o34_1 (P : Params) : Obj := ⟨(T "builtin_function_or_method"), none, (.fields [(B "object.__init_subclass__"), (r 31)].toArray), [].toArray⟩
def o35_1 (P : Params) : Obj := ⟨(T "tuple"), none, (.seq [(r 31)].toArray 0), [].toArray⟩
def o36_1 (P : Params) : Obj := ⟨(T "builtin_function_or_method"), none, (.fields [(B "type.__prepare__"), (T "type")].toArray), [].toArray⟩
def o37_1 (P : Params) : Obj := ⟨(T "dict"), none, (.dict [e P "__module__" 221 (s "dunnage.errors" 194), e P "__qualname__" 223 (s "BadName" 222), e P "__firstlineno__" 225 (i (7) 224), e P "__static_attributes__" 226 (r 42)].toArray 4), [].toArray⟩
def o38_1 (P : Params) : Obj := ⟨(T "tuple"), none, (.seq [].toArray 0), [].toArray⟩
def o39_1 (P : Params) : Obj := ⟨N, none, (.fields [].toArray), [].toArray⟩
def o40_1 (P : Params) : Obj := ⟨(T "code"), none, (.fields [(s "BadName" 216), (s "BadName" 217), (s "/claim/cut.py" 218), (i (7) 0), (i (0) 0), (i (0) 0), (i (0) 0), (i (0) 0), (r 38), (.bool false), (i (181) 0), (r 39), N, N, N, N, (i (219) 0), (i (7) 0), (s "/claim/cut.py" 220)].toArray), [].toArray⟩
def o41_1 (P : Params) : Obj := ⟨(T "frame"), none, .plain, [(some (r 40)), (some (r 3)), (some (r 37)), none, (some (s "dunnage.errors" 194)), none, (some (r 0))].toArray⟩
def o42_1 (P : Params) : Obj := ⟨(T "tuple"), none, (.seq [].toArray 0), [].toArray⟩
def o43_1 (P : Params) : Obj := ⟨(T "dict"), none, (.dict [e P "__module__" 221 (s "dunnage.errors" 194), e P "__firstlineno__" 225 (i (7) 224), e P "__static_attributes__" 226 (r 42), e P "__doc__" 227 N].toArray 2), [].toArray⟩
def o44_1 (P : Params) : Obj := ⟨(T "type"), none, (.cls ⟨(q "BadName"), [(r 31)], [(r 44), (r 31), (T "ValueError"), (T "Exception"), (T "BaseException"), (T "object")], 43, (q "BadName"), true, [], [], false, none, false⟩), [(some (r 35)), none, (some (s "BadName" 214)), (some (s "BadName" 222)), (some (B "ValueError.__new__")), (some (.bool true))].toArray⟩
def o45_1 (P : Params) : Obj := ⟨(T "super"), none, (.fields [(r 44), (r 44), (r 44)].toArray), [].toArray⟩
def o46_1 (P : Params) : Obj := ⟨(T "builtin_function_or_method"), none, (.fields [(B "object.__init_subclass__"), (r 44)].toArray), [].toArray⟩
def o47_1 (P : Params) : Obj := ⟨(T "tuple"), none, (.seq [(r 31)].toArray 0), [].toArray⟩
def o48_1 (P : Params) : Obj := ⟨(T "builtin_function_or_method"), none, (.fields [(B "type.__prepare__"), (T "type")].toArray), [].toArray⟩
def o49_1 (P : Params) : Obj := ⟨(T "dict"), none, (.dict [e P "__module__" 237 (s "dunnage.errors" 194), e P "__qualname__" 239 (s "Taken" 238), e P "__firstlineno__" 241 (i (9) 240), e P "__static_attributes__" 242 (r 54)].toArray 4), [].toArray⟩
def o50_1 (P : Params) : Obj := ⟨(T "tuple"), none, (.seq [].toArray 0), [].toArray⟩
def o51_1 (P : Params) : Obj := ⟨N, none, (.fields [].toArray), [].toArray⟩
def o52_1 (P : Params) : Obj := ⟨(T "code"), none, (.fields [(s "Taken" 232), (s "Taken" 233), (s "/claim/cut.py" 234), (i (9) 0), (i (0) 0), (i (0) 0), (i (0) 0), (i (0) 0), (r 50), (.bool false), (i (181) 0), (r 51), N, N, N, N, (i (235) 0), (i (9) 0), (s "/claim/cut.py" 236)].toArray), [].toArray⟩
def o53_1 (P : Params) : Obj := ⟨(T "frame"), none, .plain, [(some (r 52)), (some (r 3)), (some (r 49)), none, (some (s "dunnage.errors" 194)), none, (some (r 0))].toArray⟩
def o54_1 (P : Params) : Obj := ⟨(T "tuple"), none, (.seq [].toArray 0), [].toArray⟩
def o55_1 (P : Params) : Obj := ⟨(T "dict"), none, (.dict [e P "__module__" 237 (s "dunnage.errors" 194), e P "__firstlineno__" 241 (i (9) 240), e P "__static_attributes__" 242 (r 54), e P "__doc__" 243 N].toArray 2), [].toArray⟩
def o56_1 (P : Params) : Obj := ⟨(T "type"), none, (.cls ⟨(q "Taken"), [(r 31)], [(r 56), (r 31), (T "ValueError"), (T "Exception"), (T "BaseException"), (T "object")], 55, (q "Taken"), true, [], [], false, none, false⟩), [(some (r 47)), none, (some (s "Taken" 230)), (some (s "Taken" 238)), (some (B "ValueError.__new__")), (some (.bool true))].toArray⟩
def o57_1 (P : Params) : Obj := ⟨(T "super"), none, (.fields [(r 56), (r 56), (r 56)].toArray), [].toArray⟩
def o58_1 (P : Params) : Obj := ⟨(T "builtin_function_or_method"), none, (.fields [(B "object.__init_subclass__"), (r 56)].toArray), [].toArray⟩
def o59_1 (P : Params) : Obj := ⟨(T "tuple"), none, (.seq [(r 31)].toArray 0), [].toArray⟩
def o60_1 (P : Params) : Obj := ⟨(T "builtin_function_or_method"), none, (.fields [(B "type.__prepare__"), (T "type")].toArray), [].toArray⟩
def o61_1 (P : Params) : Obj := ⟨(T "dict"), none, (.dict [e P "__module__" 253 (s "dunnage.errors" 194), e P "__qualname__" 255 (s "BadCourse" 254), e P "__firstlineno__" 257 (i (11) 256), e P "__static_attributes__" 258 (r 66)].toArray 4), [].toArray⟩
def o62_1 (P : Params) : Obj := ⟨(T "tuple"), none, (.seq [].toArray 0), [].toArray⟩
def o63_1 (P : Params) : Obj := ⟨N, none, (.fields [].toArray), [].toArray⟩
def o64_1 (P : Params) : Obj := ⟨(T "code"), none, (.fields [(s "BadCourse" 248), (s "BadCourse" 249), (s "/claim/cut.py" 250), (i (11) 0), (i (0) 0), (i (0) 0), (i (0) 0), (i (0) 0), (r 62), (.bool false), (i (181) 0), (r 63), N, N, N, N, (i (251) 0), (i (11) 0), (s "/claim/cut.py" 252)].toArray), [].toArray⟩
def o65_1 (P : Params) : Obj := ⟨(T "frame"), none, .plain, [(some (r 64)), (some (r 3)), (some (r 61)), none, (some (s "dunnage.errors" 194)), none, (some (r 0))].toArray⟩
def o66_1 (P : Params) : Obj := ⟨(T "tuple"), none, (.seq [].toArray 0), [].toArray⟩
def o67_1 (P : Params) : Obj := ⟨(T "dict"), none, (.dict [e P "__module__" 253 (s "dunnage.errors" 194), e P "__firstlineno__" 257 (i (11) 256), e P "__static_attributes__" 258 (r 66), e P "__doc__" 259 N].toArray 2), [].toArray⟩
def o68_1 (P : Params) : Obj := ⟨(T "type"), none, (.cls ⟨(q "BadCourse"), [(r 31)], [(r 68), (r 31), (T "ValueError"), (T "Exception"), (T "BaseException"), (T "object")], 67, (q "BadCourse"), true, [], [], false, none, false⟩), [(some (r 59)), none, (some (s "BadCourse" 246)), (some (s "BadCourse" 254)), (some (B "ValueError.__new__")), (some (.bool true))].toArray⟩
def o69_1 (P : Params) : Obj := ⟨(T "super"), none, (.fields [(r 68), (r 68), (r 68)].toArray), [].toArray⟩
def o70_1 (P : Params) : Obj := ⟨(T "builtin_function_or_method"), none, (.fields [(B "object.__init_subclass__"), (r 68)].toArray), [].toArray⟩
def o71_1 (P : Params) : Obj := ⟨(T "tuple"), none, (.seq [(r 31)].toArray 0), [].toArray⟩
def o72_1 (P : Params) : Obj := ⟨(T "builtin_function_or_method"), none, (.fields [(B "type.__prepare__"), (T "type")].toArray), [].toArray⟩
def o73_1 (P : Params) : Obj := ⟨(T "dict"), none, (.dict [e P "__module__" 269 (s "dunnage.errors" 194), e P "__qualname__" 271 (s "BadPlace" 270), e P "__firstlineno__" 273 (i (13) 272), e P "__static_attributes__" 274 (r 78)].toArray 4), [].toArray⟩
def o74_1 (P : Params) : Obj := ⟨(T "tuple"), none, (.seq [].toArray 0), [].toArray⟩
def o75_1 (P : Params) : Obj := ⟨N, none, (.fields [].toArray), [].toArray⟩
def o76_1 (P : Params) : Obj := ⟨(T "code"), none, (.fields [(s "BadPlace" 264), (s "BadPlace" 265), (s "/claim/cut.py" 266), (i (13) 0), (i (0) 0), (i (0) 0), (i (0) 0), (i (0) 0), (r 74), (.bool false), (i (181) 0), (r 75), N, N, N, N, (i (267) 0), (i (13) 0), (s "/claim/cut.py" 268)].toArray), [].toArray⟩
def o77_1 (P : Params) : Obj := ⟨(T "frame"), none, .plain, [(some (r 76)), (some (r 3)), (some (r 73)), none, (some (s "dunnage.errors" 194)), none, (some (r 0))].toArray⟩
def o78_1 (P : Params) : Obj := ⟨(T "tuple"), none, (.seq [].toArray 0), [].toArray⟩
def o79_1 (P : Params) : Obj := ⟨(T "dict"), none, (.dict [e P "__module__" 269 (s "dunnage.errors" 194), e P "__firstlineno__" 273 (i (13) 272), e P "__static_attributes__" 274 (r 78), e P "__doc__" 275 N].toArray 2), [].toArray⟩
def o80_1 (P : Params) : Obj := ⟨(T "type"), none, (.cls ⟨(q "BadPlace"), [(r 31)], [(r 80), (r 31), (T "ValueError"), (T "Exception"), (T "BaseException"), (T "object")], 79, (q "BadPlace"), true, [], [], false, none, false⟩), [(some (r 71)), none, (some (s "BadPlace" 262)), (some (s "BadPlace" 270)), (some (B "ValueError.__new__")), (some (.bool true))].toArray⟩
def o81_1 (P : Params) : Obj := ⟨(T "super"), none, (.fields [(r 80), (r 80), (r 80)].toArray), [].toArray⟩
def o82_1 (P : Params) : Obj := ⟨(T "builtin_function_or_method"), none, (.fields [(B "object.__init_subclass__"), (r 80)].toArray), [].toArray⟩
def o83_1 (P : Params) : Obj := ⟨(T "tuple"), none, (.seq [(r 31)].toArray 0), [].toArray⟩
def o84_1 (P : Params) : Obj := ⟨(T "builtin_function_or_method"), none, (.fields [(B "type.__prepare__"), (T "type")].toArray), [].toArray⟩
def o85_1 (P : Params) : Obj := ⟨(T "dict"), none, (.dict [e P "__module__" 285 (s "dunnage.errors" 194), e P "__qualname__" 287 (s "BadWeight" 286), e P "__firstlineno__" 289 (i (15) 288), e P "__static_attributes__" 290 (r 90)].toArray 4), [].toArray⟩
def o86_1 (P : Params) : Obj := ⟨(T "tuple"), none, (.seq [].toArray 0), [].toArray⟩
def o87_1 (P : Params) : Obj := ⟨N, none, (.fields [].toArray), [].toArray⟩
def o88_1 (P : Params) : Obj := ⟨(T "code"), none, (.fields [(s "BadWeight" 280), (s "BadWeight" 281), (s "/claim/cut.py" 282), (i (15) 0), (i (0) 0), (i (0) 0), (i (0) 0), (i (0) 0), (r 86), (.bool false), (i (181) 0), (r 87), N, N, N, N, (i (283) 0), (i (15) 0), (s "/claim/cut.py" 284)].toArray), [].toArray⟩
def o89_1 (P : Params) : Obj := ⟨(T "frame"), none, .plain, [(some (r 88)), (some (r 3)), (some (r 85)), none, (some (s "dunnage.errors" 194)), none, (some (r 0))].toArray⟩
def o90_1 (P : Params) : Obj := ⟨(T "tuple"), none, (.seq [].toArray 0), [].toArray⟩
def o91_1 (P : Params) : Obj := ⟨(T "dict"), none, (.dict [e P "__module__" 285 (s "dunnage.errors" 194), e P "__firstlineno__" 289 (i (15) 288), e P "__static_attributes__" 290 (r 90), e P "__doc__" 291 N].toArray 2), [].toArray⟩
def o92_1 (P : Params) : Obj := ⟨(T "type"), none, (.cls ⟨(q "BadWeight"), [(r 31)], [(r 92), (r 31), (T "ValueError"), (T "Exception"), (T "BaseException"), (T "object")], 91, (q "BadWeight"), true, [], [], false, none, false⟩), [(some (r 83)), none, (some (s "BadWeight" 278)), (some (s "BadWeight" 286)), (some (B "ValueError.__new__")), (some (.bool true))].toArray⟩
def o93_1 (P : Params) : Obj := ⟨(T "super"), none, (.fields [(r 92), (r 92), (r 92)].toArray), [].toArray⟩
def o94_1 (P : Params) : Obj := ⟨(T "builtin_function_or_method"), none, (.fields [(B "object.__init_subclass__"), (r 92)].toArray), [].toArray⟩
def o95_1 (P : Params) : Obj := ⟨(T "tuple"), none, (.seq [(r 31)].toArray 0), [].toArray⟩
def o96_1 (P : Params) : Obj := ⟨(T "builtin_function_or_method"), none, (.fields [(B "type.__prepare__"), (T "type")].toArray), [].toArray⟩
def o97_1 (P : Params) : Obj := ⟨(T "dict"), none, (.dict [e P "__module__" 301 (s "dunnage.errors" 194), e P "__qualname__" 303 (s "Full" 302), e P "__firstlineno__" 305 (i (17) 304), e P "__static_attributes__" 306 (r 102)].toArray 4), [].toArray⟩
def o98_1 (P : Params) : Obj := ⟨(T "tuple"), none, (.seq [].toArray 0), [].toArray⟩
def o99_1 (P : Params) : Obj := ⟨N, none, (.fields [].toArray), [].toArray⟩
def o100_1 (P : Params) : Obj := ⟨(T "code"), none, (.fields [(s "Full" 296), (s "Full" 297), (s "/claim/cut.py" 298), (i (17) 0), (i (0) 0), (i (0) 0), (i (0) 0), (i (0) 0), (r 98), (.bool false), (i (181) 0), (r 99), N, N, N, N, (i (299) 0), (i (17) 0), (s "/claim/cut.py" 300)].toArray), [].toArray⟩
def o101_1 (P : Params) : Obj := ⟨(T "frame"), none, .plain, [(some (r 100)), (some (r 3)), (some (r 97)), none, (some (s "dunnage.errors" 194)), none, (some (r 0))].toArray⟩
def o102_1 (P : Params) : Obj := ⟨(T "tuple"), none, (.seq [].toArray 0), [].toArray⟩
def o103_1 (P : Params) : Obj := ⟨(T "dict"), none, (.dict [e P "__module__" 301 (s "dunnage.errors" 194), e P "__firstlineno__" 305 (i (17) 304), e P "__static_attributes__" 306 (r 102), e P "__doc__" 307 N].toArray 2), [].toArray⟩
def o104_1 (P : Params) : Obj := ⟨(T "type"), none, (.cls ⟨(q "Full"), [(r 31)], [(r 104), (r 31), (T "ValueError"), (T "Exception"), (T "BaseException"), (T "object")], 103, (q "Full"), true, [], [], false, none, false⟩), [(some (r 95)), none, (some (s "Full" 294)), (some (s "Full" 302)), (some (B "ValueError.__new__")), (some (.bool true))].toArray⟩
def o105_1 (P : Params) : Obj := ⟨(T "super"), none, (.fields [(r 104), (r 104), (r 104)].toArray), [].toArray⟩
def o106_1 (P : Params) : Obj := ⟨(T "builtin_function_or_method"), none, (.fields [(B "object.__init_subclass__"), (r 104)].toArray), [].toArray⟩
def o107_1 (P : Params) : Obj := ⟨(T "tuple"), none, (.seq [(r 31)].toArray 0), [].toArray⟩
def o108_1 (P : Params) : Obj := ⟨(T "builtin_function_or_method"), none, (.fields [(B "type.__prepare__"), (T "type")].toArray), [].toArray⟩
def o109_1 (P : Params) : Obj := ⟨(T "dict"), none, (.dict [e P "__module__" 317 (s "dunnage.errors" 194), e P "__qualname__" 319 (s "Crowded" 318), e P "__firstlineno__" 321 (i (19) 320), e P "__static_attributes__" 322 (r 114)].toArray 4), [].toArray⟩
def o110_1 (P : Params) : Obj := ⟨(T "tuple"), none, (.seq [].toArray 0), [].toArray⟩
def o111_1 (P : Params) : Obj := ⟨N, none, (.fields [].toArray), [].toArray⟩
def o112_1 (P : Params) : Obj := ⟨(T "code"), none, (.fields [(s "Crowded" 312), (s "Crowded" 313), (s "/claim/cut.py" 314), (i (19) 0), (i (0) 0), (i (0) 0), (i (0) 0), (i (0) 0), (r 110), (.bool false), (i (181) 0), (r 111), N, N, N, N, (i (315) 0), (i (19) 0), (s "/claim/cut.py" 316)].toArray), [].toArray⟩
def o113_1 (P : Params) : Obj := ⟨(T "frame"), none, .plain, [(some (r 112)), (some (r 3)), (some (r 109)), none, (some (s "dunnage.errors" 194)), none, (some (r 0))].toArray⟩
def o114_1 (P : Params) : Obj := ⟨(T "tuple"), none, (.seq [].toArray 0), [].toArray⟩
def o115_1 (P : Params) : Obj := ⟨(T "dict"), none, (.dict [e P "__module__" 317 (s "dunnage.errors" 194), e P "__firstlineno__" 321 (i (19) 320), e P "__static_attributes__" 322 (r 114), e P "__doc__" 323 N].toArray 2), [].toArray⟩
def o116_1 (P : Params) : Obj := ⟨(T "type"), none, (.cls ⟨(q "Crowded"), [(r 31)], [(r 116), (r 31), (T "ValueError"), (T "Exception"), (T "BaseException"), (T "object")], 115, (q "Crowded"), true, [], [], false, none, false⟩), [(some (r 107)), none, (some (s "Crowded" 310)), (some (s "Crowded" 318)), (some (B "ValueError.__new__")), (some (.bool true))].toArray⟩
def o117_1 (P : Params) : Obj := ⟨(T "super"), none, (.fields [(r 116), (r 116), (r 116)].toArray), [].toArray⟩
def o118_1 (P : Params) : Obj := ⟨(T "builtin_function_or_method"), none, (.fields [(B "object.__init_subclass__"), (r 116)].toArray), [].toArray⟩
def o119_1 (P : Params) : Obj := ⟨(T "tuple"), none, (.seq [(r 31)].toArray 0), [].toArray⟩
def o120_1 (P : Params) : Obj := ⟨(T "builtin_function_or_method"), none, (.fields [(B "type.__prepare__"), (T "type")].toArray), [].toArray⟩
def o121_1 (P : Params) : Obj := ⟨(T "dict"), none, (.dict [e P "__module__" 333 (s "dunnage.errors" 194), e P "__qualname__" 335 (s "NoThing" 334), e P "__firstlineno__" 337 (i (21) 336), e P "__static_attributes__" 338 (r 126)].toArray 4), [].toArray⟩
def o122_1 (P : Params) : Obj := ⟨(T "tuple"), none, (.seq [].toArray 0), [].toArray⟩
def o123_1 (P : Params) : Obj := ⟨N, none, (.fields [].toArray), [].toArray⟩
def o124_1 (P : Params) : Obj := ⟨(T "code"), none, (.fields [(s "NoThing" 328), (s "NoThing" 329), (s "/claim/cut.py" 330), (i (21) 0), (i (0) 0), (i (0) 0), (i (0) 0), (i (0) 0), (r 122), (.bool false), (i (181) 0), (r 123), N, N, N, N, (i (331) 0), (i (21) 0), (s "/claim/cut.py" 332)].toArray), [].toArray⟩
def o125_1 (P : Params) : Obj := ⟨(T "frame"), none, .plain, [(some (r 124)), (some (r 3)), (some (r 121)), none, (some (s "dunnage.errors" 194)), none, (some (r 0))].toArray⟩
def o126_1 (P : Params) : Obj := ⟨(T "tuple"), none, (.seq [].toArray 0), [].toArray⟩
def o127_1 (P : Params) : Obj := ⟨(T "dict"), none, (.dict [e P "__module__" 333 (s "dunnage.errors" 194), e P "__firstlineno__" 337 (i (21) 336), e P "__static_attributes__" 338 (r 126), e P "__doc__" 339 N].toArray 2), [].toArray⟩
def o128_1 (P : Params) : Obj := ⟨(T "type"), none, (.cls ⟨(q "NoThing"), [(r 31)], [(r 128), (r 31), (T "ValueError"), (T "Exception"), (T "BaseException"), (T "object")], 127, (q "NoThing"), true, [], [], false, none, false⟩), [(some (r 119)), none, (some (s "NoThing" 326)), (some (s "NoThing" 334)), (some (B "ValueError.__new__")), (some (.bool true))].toArray⟩
def o129_1 (P : Params) : Obj := ⟨(T "super"), none, (.fields [(r 128), (r 128), (r 128)].toArray), [].toArray⟩
def o130_1 (P : Params) : Obj := ⟨(T "builtin_function_or_method"), none, (.fields [(B "object.__init_subclass__"), (r 128)].toArray), [].toArray⟩
def o131_1 (P : Params) : Obj := ⟨(T "tuple"), none, (.seq [(r 31)].toArray 0), [].toArray⟩
def o132_1 (P : Params) : Obj := ⟨(T "builtin_function_or_method"), none, (.fields [(B "type.__prepare__"), (T "type")].toArray), [].toArray⟩
def o133_1 (P : Params) : Obj := ⟨(T "dict"), none, (.dict [e P "__module__" 349 (s "dunnage.errors" 194), e P "__qualname__" 351 (s "InUse" 350), e P "__firstlineno__" 353 (i (23) 352), e P "__static_attributes__" 354 (r 138)].toArray 4), [].toArray⟩
def o134_1 (P : Params) : Obj := ⟨(T "tuple"), none, (.seq [].toArray 0), [].toArray⟩
def o135_1 (P : Params) : Obj := ⟨N, none, (.fields [].toArray), [].toArray⟩
def o136_1 (P : Params) : Obj := ⟨(T "code"), none, (.fields [(s "InUse" 344), (s "InUse" 345), (s "/claim/cut.py" 346), (i (23) 0), (i (0) 0), (i (0) 0), (i (0) 0), (i (0) 0), (r 134), (.bool false), (i (181) 0), (r 135), N, N, N, N, (i (347) 0), (i (23) 0), (s "/claim/cut.py" 348)].toArray), [].toArray⟩
def o137_1 (P : Params) : Obj := ⟨(T "frame"), none, .plain, [(some (r 136)), (some (r 3)), (some (r 133)), none, (some (s "dunnage.errors" 194)), none, (some (r 0))].toArray⟩
def o138_1 (P : Params) : Obj := ⟨(T "tuple"), none, (.seq [].toArray 0), [].toArray⟩
def o139_1 (P : Params) : Obj := ⟨(T "dict"), none, (.dict [e P "__module__" 349 (s "dunnage.errors" 194), e P "__firstlineno__" 353 (i (23) 352), e P "__static_attributes__" 354 (r 138), e P "__doc__" 355 N].toArray 2), [].toArray⟩
def o140_1 (P : Params) : Obj := ⟨(T "type"), none, (.cls ⟨(q "InUse"), [(r 31)], [(r 140), (r 31), (T "ValueError"), (T "Exception"), (T "BaseException"), (T "object")], 139, (q "InUse"), true, [], [], false, none, false⟩), [(some (r 131)), none, (some (s "InUse" 342)), (some (s "InUse" 350)), (some (B "ValueError.__new__")), (some (.bool true))].toArray⟩
def o141_1 (P : Params) : Obj := ⟨(T "super"), none, (.fields [(r 140), (r 140), (r 140)].toArray), [].toArray⟩
def o142_1 (P : Params) : Obj := ⟨(T "builtin_function_or_method"), none, (.fields [(B "object.__init_subclass__"), (r 140)].toArray), [].toArray⟩
def o143_1 (P : Params) : Obj := ⟨(T "tuple"), none, (.seq [(r 31)].toArray 0), [].toArray⟩
def o144_1 (P : Params) : Obj := ⟨(T "builtin_function_or_method"), none, (.fields [(B "type.__prepare__"), (T "type")].toArray), [].toArray⟩
def o145_1 (P : Params) : Obj := ⟨(T "dict"), none, (.dict [e P "__module__" 365 (s "dunnage.errors" 194), e P "__qualname__" 367 (s "NoSack" 366), e P "__firstlineno__" 369 (i (25) 368), e P "__static_attributes__" 370 (r 150)].toArray 4), [].toArray⟩
def o146_1 (P : Params) : Obj := ⟨(T "tuple"), none, (.seq [].toArray 0), [].toArray⟩
def o147_1 (P : Params) : Obj := ⟨N, none, (.fields [].toArray), [].toArray⟩
def o148_1 (P : Params) : Obj := ⟨(T "code"), none, (.fields [(s "NoSack" 360), (s "NoSack" 361), (s "/claim/cut.py" 362), (i (25) 0), (i (0) 0), (i (0) 0), (i (0) 0), (i (0) 0), (r 146), (.bool false), (i (181) 0), (r 147), N, N, N, N, (i (363) 0), (i (25) 0), (s "/claim/cut.py" 364)].toArray), [].toArray⟩
def o149_1 (P : Params) : Obj := ⟨(T "frame"), none, .plain, [(some (r 148)), (some (r 3)), (some (r 145)), none, (some (s "dunnage.errors" 194)), none, (some (r 0))].toArray⟩
def o150_1 (P : Params) : Obj := ⟨(T "tuple"), none, (.seq [].toArray 0), [].toArray⟩
def o151_1 (P : Params) : Obj := ⟨(T "dict"), none, (.dict [e P "__module__" 365 (s "dunnage.errors" 194), e P "__firstlineno__" 369 (i (25) 368), e P "__static_attributes__" 370 (r 150), e P "__doc__" 371 N].toArray 2), [].toArray⟩
def o152_1 (P : Params) : Obj := ⟨(T "type"), none, (.cls ⟨(q "NoSack"), [(r 31)], [(r 152), (r 31), (T "ValueError"), (T "Exception"), (T "BaseException"), (T "object")], 151, (q "NoSack"), true, [], [], false, none, false⟩), [(some (r 143)), none, (some (s "NoSack" 358)), (some (s "NoSack" 366)), (some (B "ValueError.__new__")), (some (.bool true))].toArray⟩
def o153_1 (P : Params) : Obj := ⟨(T "super"), none, (.fields [(r 152), (r 152), (r 152)].toArray), [].toArray⟩
def o154_1 (P : Params) : Obj := ⟨(T "builtin_function_or_method"), none, (.fields [(B "object.__init_subclass__"), (r 152)].toArray), [].toArray⟩
def o155_1 (P : Params) : Obj := ⟨(T "tuple"), none, (.seq [(r 31)].toArray 0), [].toArray⟩
def o156_1 (P : Params) : Obj := ⟨(T "builtin_function_or_method"), none, (.fields [(B "type.__prepare__"), (T "type")].toArray), [].toArray⟩
def o157_1 (P : Params) : Obj := ⟨(T "dict"), none, (.dict [e P "__module__" 381 (s "dunnage.errors" 194), e P "__qualname__" 383 (s "NoCord" 382), e P "__firstlineno__" 385 (i (27) 384), e P "__static_attributes__" 386 (r 162)].toArray 4), [].toArray⟩
def o158_1 (P : Params) : Obj := ⟨(T "tuple"), none, (.seq [].toArray 0), [].toArray⟩
def o159_1 (P : Params) : Obj := ⟨N, none, (.fields [].toArray), [].toArray⟩
def o160_1 (P : Params) : Obj := ⟨(T "code"), none, (.fields [(s "NoCord" 376), (s "NoCord" 377), (s "/claim/cut.py" 378), (i (27) 0), (i (0) 0), (i (0) 0), (i (0) 0), (i (0) 0), (r 158), (.bool false), (i (181) 0), (r 159), N, N, N, N, (i (379) 0), (i (27) 0), (s "/claim/cut.py" 380)].toArray), [].toArray⟩
def o161_1 (P : Params) : Obj := ⟨(T "frame"), none, .plain, [(some (r 160)), (some (r 3)), (some (r 157)), none, (some (s "dunnage.errors" 194)), none, (some (r 0))].toArray⟩
def o162_1 (P : Params) : Obj := ⟨(T "tuple"), none, (.seq [].toArray 0), [].toArray⟩
def o163_1 (P : Params) : Obj := ⟨(T "dict"), none, (.dict [e P "__module__" 381 (s "dunnage.errors" 194), e P "__firstlineno__" 385 (i (27) 384), e P "__static_attributes__" 386 (r 162), e P "__doc__" 387 N].toArray 2), [].toArray⟩
def o164_1 (P : Params) : Obj := ⟨(T "type"), none, (.cls ⟨(q "NoCord"), [(r 31)], [(r 164), (r 31), (T "ValueError"), (T "Exception"), (T "BaseException"), (T "object")], 163, (q "NoCord"), true, [], [], false, none, false⟩), [(some (r 155)), none, (some (s "NoCord" 374)), (some (s "NoCord" 382)), (some (B "ValueError.__new__")), (some (.bool true))].toArray⟩
def o165_1 (P : Params) : Obj := ⟨(T "super"), none, (.fields [(r 164), (r 164), (r 164)].toArray), [].toArray⟩
def o166_1 (P : Params) : Obj := ⟨(T "builtin_function_or_method"), none, (.fields [(B "object.__init_subclass__"), (r 164)].toArray), [].toArray⟩
def o167_1 (P : Params) : Obj := ⟨(T "tuple"), none, (.seq [(r 31)].toArray 0), [].toArray⟩
def o168_1 (P : Params) : Obj := ⟨(T "builtin_function_or_method"), none, (.fields [(B "type.__prepare__"), (T "type")].toArray), [].toArray⟩
def o169_1 (P : Params) : Obj := ⟨(T "dict"), none, (.dict [e P "__module__" 397 (s "dunnage.errors" 194), e P "__qualname__" 399 (s "BadCord" 398), e P "__firstlineno__" 401 (i (29) 400), e P "__static_attributes__" 402 (r 174)].toArray 4), [].toArray⟩
def o170_1 (P : Params) : Obj := ⟨(T "tuple"), none, (.seq [].toArray 0), [].toArray⟩
def o171_1 (P : Params) : Obj := ⟨N, none, (.fields [].toArray), [].toArray⟩
def o172_1 (P : Params) : Obj := ⟨(T "code"), none, (.fields [(s "BadCord" 392), (s "BadCord" 393), (s "/claim/cut.py" 394), (i (29) 0), (i (0) 0), (i (0) 0), (i (0) 0), (i (0) 0), (r 170), (.bool false), (i (181) 0), (r 171), N, N, N, N, (i (395) 0), (i (29) 0), (s "/claim/cut.py" 396)].toArray), [].toArray⟩
def o173_1 (P : Params) : Obj := ⟨(T "frame"), none, .plain, [(some (r 172)), (some (r 3)), (some (r 169)), none, (some (s "dunnage.errors" 194)), none, (some (r 0))].toArray⟩
def o174_1 (P : Params) : Obj := ⟨(T "tuple"), none, (.seq [].toArray 0), [].toArray⟩
def o175_1 (P : Params) : Obj := ⟨(T "dict"), none, (.dict [e P "__module__" 397 (s "dunnage.errors" 194), e P "__firstlineno__" 401 (i (29) 400), e P "__static_attributes__" 402 (r 174), e P "__doc__" 403 N].toArray 2), [].toArray⟩
def o176_1 (P : Params) : Obj := ⟨(T "type"), none, (.cls ⟨(q "BadCord"), [(r 31)], [(r 176), (r 31), (T "ValueError"), (T "Exception"), (T "BaseException"), (T "object")], 175, (q "BadCord"), true, [], [], false, none, false⟩), [(some (r 167)), none, (some (s "BadCord" 390)), (some (s "BadCord" 398)), (some (B "ValueError.__new__")), (some (.bool true))].toArray⟩
def o177_1 (P : Params) : Obj := ⟨(T "super"), none, (.fields [(r 176), (r 176), (r 176)].toArray), [].toArray⟩
def o178_1 (P : Params) : Obj := ⟨(T "builtin_function_or_method"), none, (.fields [(B "object.__init_subclass__"), (r 176)].toArray), [].toArray⟩
def o179_1 (P : Params) : Obj := ⟨(T "tuple"), none, (.seq [(r 31)].toArray 0), [].toArray⟩
def o180_1 (P : Params) : Obj := ⟨(T "builtin_function_or_method"), none, (.fields [(B "type.__prepare__"), (T "type")].toArray), [].toArray⟩
def o181_1 (P : Params) : Obj := ⟨(T "dict"), none, (.dict [e P "__module__" 413 (s "dunnage.errors" 194), e P "__qualname__" 415 (s "BadDeed" 414), e P "__firstlineno__" 417 (i (31) 416), e P "__static_attributes__" 418 (r 186)].toArray 4), [].toArray⟩
def o182_1 (P : Params) : Obj := ⟨(T "tuple"), none, (.seq [].toArray 0), [].toArray⟩
def o183_1 (P : Params) : Obj := ⟨N, none, (.fields [].toArray), [].toArray⟩
def o184_1 (P : Params) : Obj := ⟨(T "code"), none, (.fields [(s "BadDeed" 408), (s "BadDeed" 409), (s "/claim/cut.py" 410), (i (31) 0), (i (0) 0), (i (0) 0), (i (0) 0), (i (0) 0), (r 182), (.bool false), (i (181) 0), (r 183), N, N, N, N, (i (411) 0), (i (31) 0), (s "/claim/cut.py" 412)].toArray), [].toArray⟩
def o185_1 (P : Params) : Obj := ⟨(T "frame"), none, .plain, [(some (r 184)), (some (r 3)), (some (r 181)), none, (some (s "dunnage.errors" 194)), none, (some (r 0))].toArray⟩
def o186_1 (P : Params) : Obj := ⟨(T "tuple"), none, (.seq [].toArray 0), [].toArray⟩
def o187_1 (P : Params) : Obj := ⟨(T "dict"), none, (.dict [e P "__module__" 413 (s "dunnage.errors" 194), e P "__firstlineno__" 417 (i (31) 416), e P "__static_attributes__" 418 (r 186), e P "__doc__" 419 N].toArray 2), [].toArray⟩
def o188_1 (P : Params) : Obj := ⟨(T "type"), none, (.cls ⟨(q "BadDeed"), [(r 31)], [(r 188), (r 31), (T "ValueError"), (T "Exception"), (T "BaseException"), (T "object")], 187, (q "BadDeed"), true, [], [], false, none, false⟩), [(some (r 179)), none, (some (s "BadDeed" 406)), (some (s "BadDeed" 414)), (some (B "ValueError.__new__")), (some (.bool true))].toArray⟩
def o189_1 (P : Params) : Obj := ⟨(T "super"), none, (.fields [(r 188), (r 188), (r 188)].toArray), [].toArray⟩
def o190_1 (P : Params) : Obj := ⟨(T "builtin_function_or_method"), none, (.fields [(B "object.__init_subclass__"), (r 188)].toArray), [].toArray⟩
def tree1 (P : Params) : PySem.W.BT := (n (PySem.W.boot_o_0 P) (n (PySem.W.boot_o_1 P) (n (o3_1 P) (n (PySem.W.boot_o_7 P) (n (o15_1 P) (n (o31_1 P) (n (o63_1 P) (n (o127_1 P) z z) z) (n (o95_1 P) (n (o159_1 P) z z) z)) (n (o47_1 P) (n (o79_1 P) (n (o143_1 P) z z) z) (n (o111_1 P) (n (o175_1 P) z z) z))) (n (o23_1 P) (n (o39_1 P) (n (o71_1 P) (n (o135_1 P) z z) z) (n (o103_1 P) (n (o167_1 P) z z) z)) (n (o55_1 P) (n (o87_1 P) (n (o151_1 P) z z) z) (n (o119_1 P) (n (o183_1 P) z z) z)))) (n (o11_0 P) (n (o19_1 P) (n (o35_1 P) (n (o67_1 P) (n (o131_1 P) z z) z) (n (o99_1 P) (n (o163_1 P) z z) z)) (n (o51_1 P) (n (o83_1 P) (n (o147_1 P) z z) z) (n (o115_1 P) (n (o179_1 P) z z) z))) (n (o27_1 P) (n (o43_1 P) (n (o75_1 P) (n (o139_1 P) z z) z) (n (o107_1 P) (n (o171_1 P) z z) z)) (n (o59_1 P) (n (o91_1 P) (n (o155_1 P) z z) z) (n (o123_1 P) (n (o187_1 P) z z) z))))) (n (PySem.W.boot_o_5 P) (n (PySem.W.boot_o_9 P) (n (o17_1 P) (n (o33_1 P) (n (o65_1 P) (n (o129_1 P) z z) z) (n (o97_1 P) (n (o161_1 P) z z) z)) (n (o49_1 P) (n (o81_1 P) (n (o145_1 P) z z) z) (n (o113_1 P) (n (o177_1 P) z z) z))) (n (o25_1 P) (n (o41_1 P) (n (o73_1 P) (n (o137_1 P) z z) z) (n (o105_1 P) (n (o169_1 P) z z) z)) (n (o57_1 P) (n (o89_1 P) (n (o153_1 P) z z) z) (n (o121_1 P) (n (o185_1 P) z z) z)))) (n (o13_0 P) (n (o21_1 P) (n (o37_1 P) (n (o69_1 P) (n (o133_1 P) z z) z) (n (o101_1 P) (n (o165_1 P) z z) z)) (n (o53_1 P) (n (o85_1 P) (n (o149_1 P) z z) z) (n (o117_1 P) (n (o181_1 P) z z) z))) (n (o29_1 P) (n (o45_1 P) (n (o77_1 P) (n (o141_1 P) z z) z) (n (o109_1 P) (n (o173_1 P) z z) z)) (n (o61_1 P) (n (o93_1 P) (n (o157_1 P) z z) z) (n (o125_1 P) (n (o189_1 P) z z) z)))))) (n (PySem.W.boot_o_2 P) (n (PySem.W.boot_o_4 P) (n (PySem.W.boot_o_8 P) (n (o16_1 P) (n (o32_1 P) (n (o64_1 P) (n (o128_1 P) z z) z) (n (o96_1 P) (n (o160_1 P) z z) z)) (n (o48_1 P) (n (o80_1 P) (n (o144_1 P) z z) z) (n (o112_1 P) (n (o176_1 P) z z) z))) (n (o24_1 P) (n (o40_1 P) (n (o72_1 P) (n (o136_1 P) z z) z) (n (o104_1 P) (n (o168_1 P) z z) z)) (n (o56_1 P) (n (o88_1 P) (n (o152_1 P) z z) z) (n (o120_1 P) (n (o184_1 P) z z) z)))) (n (o12_1 P) (n (o20_1 P) (n (o36_1 P) (n (o68_1 P) (n (o132_1 P) z z) z) (n (o100_1 P) (n (o164_1 P) z z) z)) (n (o52_1 P) (n (o84_1 P) (n (o148_1 P) z z) z) (n (o116_1 P) (n (o180_1 P) z z) z))) (n (o28_1 P) (n (o44_1 P) (n (o76_1 P) (n (o140_1 P) z z) z) (n (o108_1 P) (n (o172_1 P) z z) z)) (n (o60_1 P) (n (o92_1 P) (n (o156_1 P) z z) z) (n (o124_1 P) (n (o188_1 P) z z) z))))) (n (PySem.W.boot_o_6 P) (n (PySem.W.boot_o_10 P) (n (o18_1 P) (n (o34_1 P) (n (o66_1 P) (n (o130_1 P) z z) z) (n (o98_1 P) (n (o162_1 P) z z) z)) (n (o50_1 P) (n (o82_1 P) (n (o146_1 P) z z) z) (n (o114_1 P) (n (o178_1 P) z z) z))) (n (o26_1 P) (n (o42_1 P) (n (o74_1 P) (n (o138_1 P) z z) z) (n (o106_1 P) (n (o170_1 P) z z) z)) (n (o58_1 P) (n (o90_1 P) (n (o154_1 P) z z) z) (n (o122_1 P) (n (o186_1 P) z z) z)))) (n (o14_0 P) (n (o22_1 P) (n (o38_1 P) (n (o70_1 P) (n (o134_1 P) z z) z) (n (o102_1 P) (n (o166_1 P) z z) z)) (n (o54_1 P) (n (o86_1 P) (n (o150_1 P) z z) z) (n (o118_1 P) (n (o182_1 P) z z) z))) (n (o30_1 P) (n (o46_1 P) (n (o78_1 P) (n (o142_1 P) z z) z) (n (o110_1 P) (n (o174_1 P) z z) z)) (n (o62_1 P) (n (o94_1 P) (n (o158_1 P) z z) z) (n (o126_1 P) (n (o190_1 P) z z) z)))))))
def o3_2 (P : Params) : Obj := ⟨(T "dict"), none, (.dict [e P "__name__" 165 (s "dunnage.deeds" 422), e P "__doc__" 166 N, e P "__package__" 167 N, e P "__loader__" 168 (B "__main__.__loader__#opaque"), e P "__spec__" 169 N, e P "__annotations__" 170 (r 6), e P "__builtins__" 171 (r 4), e P "__file__" 173 (s "/claim/cut.py" 172), e P "__cached__" 174 N, e P "_wall" 193 (r 21), e P "YardError" 213 (r 31), e P "BadName" 229 (r 44), e P "Taken" 245 (r 56), e P "BadCourse" 261 (r 68), e P "BadPlace" 277 (r 80), e P "BadWeight" 293 (r 92), e P "Full" 309 (r 104), e P "Crowded" 325 (r 116), e P "NoThing" 341 (r 128), e P "InUse" 357 (r 140), e P "NoSack" 373 (r 152), e P "NoCord" 389 (r 164), e P "BadCord" 405 (r 176), e P "BadDeed" 421 (r 188), e P "LETTERS" 425 (s "abcdefghijklmnopqrstuvwxyz" 424), e P "LONGEST_NAME" 427 (i (8) 426), e P "FARTHEST_PLACE" 429 (i (1000000) 428), e P "HIGHEST_COURSE" 431 (i (9) 430), e P "GREATEST_WEIGHT" 433 (i (1000000000) 432), e P "DEED_THINGS" 477 (r 191)].toArray 30), [].toArray⟩
def o191_2 (P : Params) : Obj := ⟨(T "dict"), none, (.dict [e P "trestle" 434 (r 192), e P "board" 439 (r 193), e P "away" 445 (r 194), e P "along" 447 (r 195), e P "sack" 450 (r 196), e P "move" 455 (r 197), e P "lift" 459 (r 198), e P "cord" 461 (r 199), e P "cut" 466 (r 200)].toArray 9), [].toArray⟩
def o192_2 (P : Params) : Obj := ⟨(T "tuple"), none, (.seq [(s "name" 435), (s "number" 436), (s "number" 437), (s "number" 438)].toArray 0), [].toArray⟩
def o193_2 (P : Params) : Obj := ⟨(T "tuple"), none, (.seq [(s "name" 440), (s "number" 441), (s "number" 442), (s "number" 443), (s "number" 444)].toArray 0), [].toArray⟩
def o194_2 (P : Params) : Obj := ⟨(T "tuple"), none, (.seq [(s "name" 446)].toArray 0), [].toArray⟩
def o195_2 (P : Params) : Obj := ⟨(T "tuple"), none, (.seq [(s "name" 448), (s "number" 449)].toArray 0), [].toArray⟩
def o196_2 (P : Params) : Obj := ⟨(T "tuple"), none, (.seq [(s "name" 451), (s "name" 452), (s "number" 453), (s "number" 454)].toArray 0), [].toArray⟩
def o197_2 (P : Params) : Obj := ⟨(T "tuple"), none, (.seq [(s "name" 456), (s "name" 457), (s "number" 458)].toArray 0), [].toArray⟩
def o198_2 (P : Params) : Obj := ⟨(T "tuple"), none, (.seq [(s "name" 460)].toArray 0), [].toArray⟩
def o199_2 (P : Params) : Obj := ⟨(T "tuple"), none, (.seq [(s "name" 462), (s "upper" 463), (s "name" 464), (s "number" 465)].toArray 0), [].toArray⟩
def o200_2 (P : Params) : Obj := ⟨(T "tuple"), none, (.seq [(s "name" 467)].toArray 0), [].toArray⟩
def tree2 (P : Params) : PySem.W.BT := (n (PySem.W.boot_o_0 P) (n (PySem.W.boot_o_1 P) (n (o3_2 P) (n (PySem.W.boot_o_7 P) (n (o15_1 P) (n (o31_1 P) (n (o63_1 P) (n (o127_1 P) z z) (n (o191_2 P) z z)) (n (o95_1 P) (n (o159_1 P) z z) z)) (n (o47_1 P) (n (o79_1 P) (n (o143_1 P) z z) z) (n (o111_1 P) (n (o175_1 P) z z) z))) (n (o23_1 P) (n (o39_1 P) (n (o71_1 P) (n (o135_1 P) z z) (n (o199_2 P) z z)) (n (o103_1 P) (n (o167_1 P) z z) z)) (n (o55_1 P) (n (o87_1 P) (n (o151_1 P) z z) z) (n (o119_1 P) (n (o183_1 P) z z) z)))) (n (o11_0 P) (n (o19_1 P) (n (o35_1 P) (n (o67_1 P) (n (o131_1 P) z z) (n (o195_2 P) z z)) (n (o99_1 P) (n (o163_1 P) z z) z)) (n (o51_1 P) (n (o83_1 P) (n (o147_1 P) z z) z) (n (o115_1 P) (n (o179_1 P) z z) z))) (n (o27_1 P) (n (o43_1 P) (n (o75_1 P) (n (o139_1 P) z z) z) (n (o107_1 P) (n (o171_1 P) z z) z)) (n (o59_1 P) (n (o91_1 P) (n (o155_1 P) z z) z) (n (o123_1 P) (n (o187_1 P) z z) z))))) (n (PySem.W.boot_o_5 P) (n (PySem.W.boot_o_9 P) (n (o17_1 P) (n (o33_1 P) (n (o65_1 P) (n (o129_1 P) z z) (n (o193_2 P) z z)) (n (o97_1 P) (n (o161_1 P) z z) z)) (n (o49_1 P) (n (o81_1 P) (n (o145_1 P) z z) z) (n (o113_1 P) (n (o177_1 P) z z) z))) (n (o25_1 P) (n (o41_1 P) (n (o73_1 P) (n (o137_1 P) z z) z) (n (o105_1 P) (n (o169_1 P) z z) z)) (n (o57_1 P) (n (o89_1 P) (n (o153_1 P) z z) z) (n (o121_1 P) (n (o185_1 P) z z) z)))) (n (o13_0 P) (n (o21_1 P) (n (o37_1 P) (n (o69_1 P) (n (o133_1 P) z z) (n (o197_2 P) z z)) (n (o101_1 P) (n (o165_1 P) z z) z)) (n (o53_1 P) (n (o85_1 P) (n (o149_1 P) z z) z) (n (o117_1 P) (n (o181_1 P) z z) z))) (n (o29_1 P) (n (o45_1 P) (n (o77_1 P) (n (o141_1 P) z z) z) (n (o109_1 P) (n (o173_1 P) z z) z)) (n (o61_1 P) (n (o93_1 P) (n (o157_1 P) z z) z) (n (o125_1 P) (n (o189_1 P) z z) z)))))) (n (PySem.W.boot_o_2 P) (n (PySem.W.boot_o_4 P) (n (PySem.W.boot_o_8 P) (n (o16_1 P) (n (o32_1 P) (n (o64_1 P) (n (o128_1 P) z z) (n (o192_2 P) z z)) (n (o96_1 P) (n (o160_1 P) z z) z)) (n (o48_1 P) (n (o80_1 P) (n (o144_1 P) z z) z) (n (o112_1 P) (n (o176_1 P) z z) z))) (n (o24_1 P) (n (o40_1 P) (n (o72_1 P) (n (o136_1 P) z z) (n (o200_2 P) z z)) (n (o104_1 P) (n (o168_1 P) z z) z)) (n (o56_1 P) (n (o88_1 P) (n (o152_1 P) z z) z) (n (o120_1 P) (n (o184_1 P) z z) z)))) (n (o12_1 P) (n (o20_1 P) (n (o36_1 P) (n (o68_1 P) (n (o132_1 P) z z) (n (o196_2 P) z z)) (n (o100_1 P) (n (o164_1 P) z z) z)) (n (o52_1 P) (n (o84_1 P) (n (o148_1 P) z z) z) (n (o116_1 P) (n (o180_1 P) z z) z))) (n (o28_1 P) (n (o44_1 P) (n (o76_1 P) (n (o140_1 P) z z) z) (n (o108_1 P) (n (o172_1 P) z z) z)) (n (o60_1 P) (n (o92_1 P) (n (o156_1 P) z z) z) (n (o124_1 P) (n (o188_1 P) z z) z))))) (n (PySem.W.boot_o_6 P) (n (PySem.W.boot_o_10 P) (n (o18_1 P) (n (o34_1 P) (n (o66_1 P) (n (o130_1 P) z z) (n (o194_2 P) z z)) (n (o98_1 P) (n (o162_1 P) z z) z)) (n (o50_1 P) (n (o82_1 P) (n (o146_1 P) z z) z) (n (o114_1 P) (n (o178_1 P) z z) z))) (n (o26_1 P) (n (o42_1 P) (n (o74_1 P) (n (o138_1 P) z z) z) (n (o106_1 P) (n (o170_1 P) z z) z)) (n (o58_1 P) (n (o90_1 P) (n (o154_1 P) z z) z) (n (o122_1 P) (n (o186_1 P) z z) z)))) (n (o14_0 P) (n (o22_1 P) (n (o38_1 P) (n (o70_1 P) (n (o134_1 P) z z) (n (o198_2 P) z z)) (n (o102_1 P) (n (o166_1 P) z z) z)) (n (o54_1 P) (n (o86_1 P) (n (o150_1 P) z z) z) (n (o118_1 P) (n (o182_1 P) z z) z))) (n (o30_1 P) (n (o46_1 P) (n (o78_1 P) (n (o142_1 P) z z) z) (n (o110_1 P) (n (o174_1 P) z z) z)) (n (o62_1 P) (n (o94_1 P) (n (o158_1 P) z z) z) (n (o126_1 P) (n (o190_1 P) z z) z)))))))
def o3_3 (P : Params) : Obj := ⟨(T "dict"), none, (.dict [e P "__name__" 165 (s "dunnage.yard" 519), e P "__doc__" 166 N, e P "__package__" 167 N, e P "__loader__" 168 (B "__main__.__loader__#opaque"), e P "__spec__" 169 N, e P "__annotations__" 170 (r 6), e P "__builtins__" 171 (r 4), e P "__file__" 173 (s "/claim/cut.py" 172), e P "__cached__" 174 N, e P "_wall" 193 (r 21), e P "YardError" 213 (r 31), e P "BadName" 229 (r 44), e P "Taken" 245 (r 56), e P "BadCourse" 261 (r 68), e P "BadPlace" 277 (r 80), e P "BadWeight" 293 (r 92), e P "Full" 309 (r 104), e P "Crowded" 325 (r 116), e P "NoThing" 341 (r 128), e P "InUse" 357 (r 140), e P "NoSack" 373 (r 152), e P "NoCord" 389 (r 164), e P "BadCord" 405 (r 176), e P "BadDeed" 421 (r 188), e P "LETTERS" 425 (s "abcdefghijklmnopqrstuvwxyz" 424), e P "LONGEST_NAME" 427 (i (8) 426), e P "FARTHEST_PLACE" 429 (i (1000000) 428), e P "HIGHEST_COURSE" 431 (i (9) 430), e P "GREATEST_WEIGHT" 433 (i (1000000000) 432), e P "DEED_THINGS" 477 (r 191), e P "check_form" 484 (r 207), e P "is_name" 490 (r 212), e P "is_number" 497 (r 219), e P "is_place" 504 (r 226), e P "is_course" 511 (r 233), e P "is_weight" 518 (r 240), e P "MOST_BOARDS" 522 (i (6) 521), e P "MOST_TRESTLES" 524 (i (6) 523), e P "MOST_SACKS" 526 (i (8) 525), e P "MOST_CORDS" 528 (i (4) 527), e P "BEAM" 530 (s "" 529), e P "BEAM_ROW" 536 (r 241), e P "check_new_name" 545 (r 248), e P "check_course" 552 (r 255), e P "check_places" 560 (r 262), e P "check_weight" 567 (r 269), e P "check_count" 575 (r 276), e P "check_room" 587 (r 283), e P "check_on_board" 595 (r 290), e P "board_row" 603 (r 297), e P "board_or_trestle_row" 611 (r 304), e P "sack_row" 619 (r 311), e P "cord_row" 627 (r 318), e P "check_no_cord" 636 (r 325), e P "check_no_sack" 645 (r 332), e P "set_trestle" 656 (r 339), e P "lay_board" 668 (r 346), e P "take_away" 676 (r 353), e P "shift_along" 689 (r 360), e P "shift_sacks" 699 (r 367), e P "set_sack" 710 (r 374), e P "move_sack" 721 (r 381), e P "lift_sack" 729 (r 388), e P "tie_cord" 742 (r 395), e P "cut_cord" 750 (r 402)].toArray 65), [].toArray⟩
def o12_3 (P : Params) : Obj := ⟨N, none, (.fields [(i (1) 0), (i (0) 0), (r 20), (i (5) 0), (i (0) 0), (r 27), (i (7) 0), (i (0) 0), (r 40), (i (9) 0), (i (0) 0), (r 52), (i (11) 0), (i (0) 0), (r 64), (i (13) 0), (i (0) 0), (r 76), (i (15) 0), (i (0) 0), (r 88), (i (17) 0), (i (0) 0), (r 100), (i (19) 0), (i (0) 0), (r 112), (i (21) 0), (i (0) 0), (r 124), (i (23) 0), (i (0) 0), (r 136), (i (25) 0), (i (0) 0), (r 148), (i (27) 0), (i (0) 0), (r 160), (i (29) 0), (i (0) 0), (r 172), (i (31) 0), (i (0) 0), (r 184), (i (40) 0), (i (0) 0), (r 206), (i (43) 0), (i (0) 0), (r 211), (i (45) 0), (i (0) 0), (r 218), (i (47) 0), (i (0) 0), (r 225), (i (49) 0), (i (0) 0), (r 232), (i (51) 0), (i (0) 0), (r 239), (i (60) 0), (i (0) 0), (r 247), (i (66) 0), (i (0) 0), (r 254), (i (69) 0), (i (0) 0), (r 261), (i (72) 0), (i (0) 0), (r 268), (i (75) 0), (i (0) 0), (r 275), (i (78) 0), (i (0) 0), (r 282), (i (84) 0), (i (0) 0), (r 289), (i (87) 0), (i (0) 0), (r 296), (i (91) 0), (i (0) 0), (r 303), (i (97) 0), (i (0) 0), (r 310), (i (101) 0), (i (0) 0), (r 317), (i (105) 0), (i (0) 0), (r 324), (i (109) 0), (i (0) 0), (r 331), (i (113) 0), (i (0) 0), (r 338), (i (122) 0), (i (0) 0), (r 345), (i (132) 0), (i (0) 0), (r 352), (i (140) 0), (i (0) 0), (r 359), (i (153) 0), (i (0) 0), (r 366), (i (157) 0), (i (0) 0), (r 373), (i (163) 0), (i (0) 0), (r 380), (i (167) 0), (i (0) 0), (r 387), (i (170) 0), (i (0) 0), (r 394), (i (180) 0), (i (0) 0), (r 401)].toArray), [].toArray⟩
def o201_3 (P : Params) : Obj := ⟨(T "tuple"), none, (.seq [].toArray 0), [].toArray⟩
def o202_3 (P : Params) : Obj := ⟨N, none, (.fields [].toArray), [].toArray⟩
def o203_3 (P : Params) : Obj := ⟨(T "tuple"), none, (.seq [(s "deed" 481)].toArray 0), [].toArray⟩
def o204_3 (P : Params) : Obj := ⟨(T "tuple"), none, (.seq [].toArray 0), [].toArray⟩
def o205_3 (P : Params) : Obj := ⟨N, none, (.func (F "check_form" "check_form" (topS 23) 0 [] N N N N none N N 0)), [].toArray⟩
def o206_3 (P : Params) : Obj := ⟨(T "code"), none, (.fields [(s "check_form" 478), (s "check_form" 479), (s "/claim/cut.py" 480), (i (40) 0), (i (1) 0), (i (0) 0), (i (0) 0), (i (3) 0), (r 201), (.bool true), (i (181) 0), (r 202), N, (r 203), (r 204), (r 205), (i (482) 0), (i (40) 0), (s "/claim/cut.py" 483)].toArray), [].toArray⟩
def o207_3 (P : Params) : Obj := ⟨(T "function"), none, (.func (F "check_form" "check_form" (topS 23) 3 [] N N N (s "dunnage.deeds" 422) none (r 206) N 0)), [].toArray⟩
def o208_3 (P : Params) : Obj := ⟨(T "tuple"), none, (.seq [].toArray 0), [].toArray⟩
def o209_3 (P : Params) : Obj := ⟨N, none, (.fields [].toArray), [].toArray⟩
def o210_3 (P : Params) : Obj := ⟨N, none, (.func (F "is_name" "is_name" (topS 24) 0 [] N N N N none N N 0)), [].toArray⟩
def o211_3 (P : Params) : Obj := ⟨(T "code"), none, (.fields [(s "is_name" 485), (s "is_name" 486), (s "/claim/cut.py" 487), (i (43) 0), (i (1) 0), (i (0) 0), (i (0) 0), (i (3) 0), (r 208), (.bool true), (i (181) 0), (r 209), N, N, N, (r 210), (i (488) 0), (i (43) 0), (s "/claim/cut.py" 489)].toArray), [].toArray⟩
def o212_3 (P : Params) : Obj := ⟨(T "function"), none, (.func (F "is_name" "is_name" (topS 24) 3 [] N N N (s "dunnage.deeds" 422) none (r 211) N 0)), [].toArray⟩
def o213_3 (P : Params) : Obj := ⟨(T "tuple"), none, (.seq [].toArray 0), [].toArray⟩
def o214_3 (P : Params) : Obj := ⟨N, none, (.fields [].toArray), [].toArray⟩
def o215_3 (P : Params) : Obj := ⟨(T "tuple"), none, (.seq [(s "value" 494)].toArray 0), [].toArray⟩
def o216_3 (P : Params) : Obj := ⟨(T "tuple"), none, (.seq [].toArray 0), [].toArray⟩
def o217_3 (P : Params) : Obj := ⟨N, none, (.func (F "is_number" "is_number" (topS 25) 0 [] N N N N none N N 0)), [].toArray⟩
def o218_3 (P : Params) : Obj := ⟨(T "code"), none, (.fields [(s "is_number" 491), (s "is_number" 492), (s "/claim/cut.py" 493), (i (45) 0), (i (1) 0), (i (0) 0), (i (0) 0), (i (3) 0), (r 213), (.bool true), (i (181) 0), (r 214), N, (r 215), (r 216), (r 217), (i (495) 0), (i (45) 0), (s "/claim/cut.py" 496)].toArray), [].toArray⟩
def o219_3 (P : Params) : Obj := ⟨(T "function"), none, (.func (F "is_number" "is_number" (topS 25) 3 [] N N N (s "dunnage.deeds" 422) none (r 218) N 0)), [].toArray⟩
def o220_3 (P : Params) : Obj := ⟨(T "tuple"), none, (.seq [].toArray 0), [].toArray⟩
def o221_3 (P : Params) : Obj := ⟨N, none, (.fields [].toArray), [].toArray⟩
def o222_3 (P : Params) : Obj := ⟨(T "tuple"), none, (.seq [(s "value" 501)].toArray 0), [].toArray⟩
def o223_3 (P : Params) : Obj := ⟨(T "tuple"), none, (.seq [].toArray 0), [].toArray⟩
def o224_3 (P : Params) : Obj := ⟨N, none, (.func (F "is_place" "is_place" (topS 26) 0 [] N N N N none N N 0)), [].toArray⟩
def o225_3 (P : Params) : Obj := ⟨(T "code"), none, (.fields [(s "is_place" 498), (s "is_place" 499), (s "/claim/cut.py" 500), (i (47) 0), (i (1) 0), (i (0) 0), (i (0) 0), (i (3) 0), (r 220), (.bool true), (i (181) 0), (r 221), N, (r 222), (r 223), (r 224), (i (502) 0), (i (47) 0), (s "/claim/cut.py" 503)].toArray), [].toArray⟩
def o226_3 (P : Params) : Obj := ⟨(T "function"), none, (.func (F "is_place" "is_place" (topS 26) 3 [] N N N (s "dunnage.deeds" 422) none (r 225) N 0)), [].toArray⟩
def o227_3 (P : Params) : Obj := ⟨(T "tuple"), none, (.seq [].toArray 0), [].toArray⟩
def o228_3 (P : Params) : Obj := ⟨N, none, (.fields [].toArray), [].toArray⟩
def o229_3 (P : Params) : Obj := ⟨(T "tuple"), none, (.seq [(s "value" 508)].toArray 0), [].toArray⟩
def o230_3 (P : Params) : Obj := ⟨(T "tuple"), none, (.seq [].toArray 0), [].toArray⟩
def o231_3 (P : Params) : Obj := ⟨N, none, (.func (F "is_course" "is_course" (topS 27) 0 [] N N N N none N N 0)), [].toArray⟩
def o232_3 (P : Params) : Obj := ⟨(T "code"), none, (.fields [(s "is_course" 505), (s "is_course" 506), (s "/claim/cut.py" 507), (i (49) 0), (i (1) 0), (i (0) 0), (i (0) 0), (i (3) 0), (r 227), (.bool true), (i (181) 0), (r 228), N, (r 229), (r 230), (r 231), (i (509) 0), (i (49) 0), (s "/claim/cut.py" 510)].toArray), [].toArray⟩
def o233_3 (P : Params) : Obj := ⟨(T "function"), none, (.func (F "is_course" "is_course" (topS 27) 3 [] N N N (s "dunnage.deeds" 422) none (r 232) N 0)), [].toArray⟩
def o234_3 (P : Params) : Obj := ⟨(T "tuple"), none, (.seq [].toArray 0), [].toArray⟩
def o235_3 (P : Params) : Obj := ⟨N, none, (.fields [].toArray), [].toArray⟩
def o236_3 (P : Params) : Obj := ⟨(T "tuple"), none, (.seq [(s "value" 515)].toArray 0), [].toArray⟩
def o237_3 (P : Params) : Obj := ⟨(T "tuple"), none, (.seq [].toArray 0), [].toArray⟩
def o238_3 (P : Params) : Obj := ⟨N, none, (.func (F "is_weight" "is_weight" (topS 28) 0 [] N N N N none N N 0)), [].toArray⟩
def o239_3 (P : Params) : Obj := ⟨(T "code"), none, (.fields [(s "is_weight" 512), (s "is_weight" 513), (s "/claim/cut.py" 514), (i (51) 0), (i (1) 0), (i (0) 0), (i (0) 0), (i (3) 0), (r 234), (.bool true), (i (181) 0), (r 235), N, (r 236), (r 237), (r 238), (i (516) 0), (i (51) 0), (s "/claim/cut.py" 517)].toArray), [].toArray⟩
def o240_3 (P : Params) : Obj := ⟨(T "function"), none, (.func (F "is_weight" "is_weight" (topS 28) 3 [] N N N (s "dunnage.deeds" 422) none (r 239) N 0)), [].toArray⟩
def o241_3 (P : Params) : Obj := ⟨(T "tuple"), none, (.seq [(s "" 531), (i (10) 532), (i (-1000000) 534), (i (1000000) 535)].toArray 0), [].toArray⟩
def o242_3 (P : Params) : Obj := ⟨(T "tuple"), none, (.seq [].toArray 0), [].toArray⟩
def o243_3 (P : Params) : Obj := ⟨N, none, (.fields [].toArray), [].toArray⟩
def o244_3 (P : Params) : Obj := ⟨(T "tuple"), none, (.seq [(s "yard" 540), (s "name" 541), (s "rows" 542)].toArray 0), [].toArray⟩
def o245_3 (P : Params) : Obj := ⟨(T "tuple"), none, (.seq [].toArray 0), [].toArray⟩
def o246_3 (P : Params) : Obj := ⟨N, none, (.func (F "check_new_name" "check_new_name" (topS 36) 0 [] N N N N none N N 0)), [].toArray⟩
def o247_3 (P : Params) : Obj := ⟨(T "code"), none, (.fields [(s "check_new_name" 537), (s "check_new_name" 538), (s "/claim/cut.py" 539), (i (60) 0), (i (2) 0), (i (0) 0), (i (0) 0), (i (3) 0), (r 242), (.bool true), (i (181) 0), (r 243), N, (r 244), (r 245), (r 246), (i (543) 0), (i (60) 0), (s "/claim/cut.py" 544)].toArray), [].toArray⟩
def o248_3 (P : Params) : Obj := ⟨(T "function"), none, (.func (F "check_new_name" "check_new_name" (topS 36) 3 [] N N N (s "dunnage.yard" 519) none (r 247) N 0)), [].toArray⟩
def o249_3 (P : Params) : Obj := ⟨(T "tuple"), none, (.seq [].toArray 0), [].toArray⟩
def o250_3 (P : Params) : Obj := ⟨N, none, (.fields [].toArray), [].toArray⟩
def o251_3 (P : Params) : Obj := ⟨(T "tuple"), none, (.seq [(s "course" 549)].toArray 0), [].toArray⟩
def o252_3 (P : Params) : Obj := ⟨(T "tuple"), none, (.seq [].toArray 0), [].toArray⟩
def o253_3 (P : Params) : Obj := ⟨N, none, (.func (F "check_course" "check_course" (topS 37) 0 [] N N N N none N N 0)), [].toArray⟩
def o254_3 (P : Params) : Obj := ⟨(T "code"), none, (.fields [(s "check_course" 546), (s "check_course" 547), (s "/claim/cut.py" 548), (i (66) 0), (i (1) 0), (i (0) 0), (i (0) 0), (i (3) 0), (r 249), (.bool true), (i (181) 0), (r 250), N, (r 251), (r 252), (r 253), (i (550) 0), (i (66) 0), (s "/claim/cut.py" 551)].toArray), [].toArray⟩
def o255_3 (P : Params) : Obj := ⟨(T "function"), none, (.func (F "check_course" "check_course" (topS 37) 3 [] N N N (s "dunnage.yard" 519) none (r 254) N 0)), [].toArray⟩
def o256_3 (P : Params) : Obj := ⟨(T "tuple"), none, (.seq [].toArray 0), [].toArray⟩
def o257_3 (P : Params) : Obj := ⟨N, none, (.fields [].toArray), [].toArray⟩
def o258_3 (P : Params) : Obj := ⟨(T "tuple"), none, (.seq [(s "left" 556), (s "right" 557)].toArray 0), [].toArray⟩
def o259_3 (P : Params) : Obj := ⟨(T "tuple"), none, (.seq [].toArray 0), [].toArray⟩
def o260_3 (P : Params) : Obj := ⟨N, none, (.func (F "check_places" "check_places" (topS 38) 0 [] N N N N none N N 0)), [].toArray⟩
def o261_3 (P : Params) : Obj := ⟨(T "code"), none, (.fields [(s "check_places" 553), (s "check_places" 554), (s "/claim/cut.py" 555), (i (69) 0), (i (2) 0), (i (0) 0), (i (0) 0), (i (3) 0), (r 256), (.bool true), (i (181) 0), (r 257), N, (r 258), (r 259), (r 260), (i (558) 0), (i (69) 0), (s "/claim/cut.py" 559)].toArray), [].toArray⟩
def o262_3 (P : Params) : Obj := ⟨(T "function"), none, (.func (F "check_places" "check_places" (topS 38) 3 [] N N N (s "dunnage.yard" 519) none (r 261) N 0)), [].toArray⟩
def o263_3 (P : Params) : Obj := ⟨(T "tuple"), none, (.seq [].toArray 0), [].toArray⟩
def o264_3 (P : Params) : Obj := ⟨N, none, (.fields [].toArray), [].toArray⟩
def o265_3 (P : Params) : Obj := ⟨(T "tuple"), none, (.seq [(s "weight" 564)].toArray 0), [].toArray⟩
def o266_3 (P : Params) : Obj := ⟨(T "tuple"), none, (.seq [].toArray 0), [].toArray⟩
def o267_3 (P : Params) : Obj := ⟨N, none, (.func (F "check_weight" "check_weight" (topS 39) 0 [] N N N N none N N 0)), [].toArray⟩
def o268_3 (P : Params) : Obj := ⟨(T "code"), none, (.fields [(s "check_weight" 561), (s "check_weight" 562), (s "/claim/cut.py" 563), (i (72) 0), (i (1) 0), (i (0) 0), (i (0) 0), (i (3) 0), (r 263), (.bool true), (i (181) 0), (r 264), N, (r 265), (r 266), (r 267), (i (565) 0), (i (72) 0), (s "/claim/cut.py" 566)].toArray), [].toArray⟩
def o269_3 (P : Params) : Obj := ⟨(T "function"), none, (.func (F "check_weight" "check_weight" (topS 39) 3 [] N N N (s "dunnage.yard" 519) none (r 268) N 0)), [].toArray⟩
def o270_3 (P : Params) : Obj := ⟨(T "tuple"), none, (.seq [].toArray 0), [].toArray⟩
def o271_3 (P : Params) : Obj := ⟨N, none, (.fields [].toArray), [].toArray⟩
def o272_3 (P : Params) : Obj := ⟨(T "tuple"), none, (.seq [(s "rows" 571), (s "most" 572)].toArray 0), [].toArray⟩
def o273_3 (P : Params) : Obj := ⟨(T "tuple"), none, (.seq [].toArray 0), [].toArray⟩
def o274_3 (P : Params) : Obj := ⟨N, none, (.func (F "check_count" "check_count" (topS 40) 0 [] N N N N none N N 0)), [].toArray⟩
def o275_3 (P : Params) : Obj := ⟨(T "code"), none, (.fields [(s "check_count" 568), (s "check_count" 569), (s "/claim/cut.py" 570), (i (75) 0), (i (2) 0), (i (0) 0), (i (0) 0), (i (3) 0), (r 270), (.bool true), (i (181) 0), (r 271), N, (r 272), (r 273), (r 274), (i (573) 0), (i (75) 0), (s "/claim/cut.py" 574)].toArray), [].toArray⟩
def o276_3 (P : Params) : Obj := ⟨(T "function"), none, (.func (F "check_count" "check_count" (topS 40) 3 [] N N N (s "dunnage.yard" 519) none (r 275) N 0)), [].toArray⟩
def o277_3 (P : Params) : Obj := ⟨(T "tuple"), none, (.seq [].toArray 0), [].toArray⟩
def o278_3 (P : Params) : Obj := ⟨N, none, (.fields [].toArray), [].toArray⟩
def o279_3 (P : Params) : Obj := ⟨(T "tuple"), none, (.seq [(s "yard" 579), (s "name" 580), (s "course" 581), (s "left" 582), (s "right" 583), (s "row" 584)].toArray 0), [].toArray⟩
def o280_3 (P : Params) : Obj := ⟨(T "tuple"), none, (.seq [].toArray 0), [].toArray⟩
def o281_3 (P : Params) : Obj := ⟨N, none, (.func (F "check_room" "check_room" (topS 41) 0 [] N N N N none N N 0)), [].toArray⟩
def o282_3 (P : Params) : Obj := ⟨(T "code"), none, (.fields [(s "check_room" 576), (s "check_room" 577), (s "/claim/cut.py" 578), (i (78) 0), (i (5) 0), (i (0) 0), (i (0) 0), (i (3) 0), (r 277), (.bool true), (i (181) 0), (r 278), N, (r 279), (r 280), (r 281), (i (585) 0), (i (78) 0), (s "/claim/cut.py" 586)].toArray), [].toArray⟩
def o283_3 (P : Params) : Obj := ⟨(T "function"), none, (.func (F "check_room" "check_room" (topS 41) 3 [] N N N (s "dunnage.yard" 519) none (r 282) N 0)), [].toArray⟩
def o284_3 (P : Params) : Obj := ⟨(T "tuple"), none, (.seq [].toArray 0), [].toArray⟩
def o285_3 (P : Params) : Obj := ⟨N, none, (.fields [].toArray), [].toArray⟩
def o286_3 (P : Params) : Obj := ⟨(T "tuple"), none, (.seq [(s "row" 591), (s "place" 592)].toArray 0), [].toArray⟩
def o287_3 (P : Params) : Obj := ⟨(T "tuple"), none, (.seq [].toArray 0), [].toArray⟩
def o288_3 (P : Params) : Obj := ⟨N, none, (.func (F "check_on_board" "check_on_board" (topS 42) 0 [] N N N N none N N 0)), [].toArray⟩
def o289_3 (P : Params) : Obj := ⟨(T "code"), none, (.fields [(s "check_on_board" 588), (s "check_on_board" 589), (s "/claim/cut.py" 590), (i (84) 0), (i (2) 0), (i (0) 0), (i (0) 0), (i (3) 0), (r 284), (.bool true), (i (181) 0), (r 285), N, (r 286), (r 287), (r 288), (i (593) 0), (i (84) 0), (s "/claim/cut.py" 594)].toArray), [].toArray⟩
def o290_3 (P : Params) : Obj := ⟨(T "function"), none, (.func (F "check_on_board" "check_on_board" (topS 42) 3 [] N N N (s "dunnage.yard" 519) none (r 289) N 0)), [].toArray⟩
def o291_3 (P : Params) : Obj := ⟨(T "tuple"), none, (.seq [].toArray 0), [].toArray⟩
def o292_3 (P : Params) : Obj := ⟨N, none, (.fields [].toArray), [].toArray⟩
def o293_3 (P : Params) : Obj := ⟨(T "tuple"), none, (.seq [(s "yard" 599), (s "name" 600)].toArray 0), [].toArray⟩
def o294_3 (P : Params) : Obj := ⟨(T "tuple"), none, (.seq [].toArray 0), [].toArray⟩
def o295_3 (P : Params) : Obj := ⟨N, none, (.func (F "board_row" "board_row" (topS 43) 0 [] N N N N none N N 0)), [].toArray⟩
def o296_3 (P : Params) : Obj := ⟨(T "code"), none, (.fields [(s "board_row" 596), (s "board_row" 597), (s "/claim/cut.py" 598), (i (87) 0), (i (2) 0), (i (0) 0), (i (0) 0), (i (3) 0), (r 291), (.bool true), (i (181) 0), (r 292), N, (r 293), (r 294), (r 295), (i (601) 0), (i (87) 0), (s "/claim/cut.py" 602)].toArray), [].toArray⟩
def o297_3 (P : Params) : Obj := ⟨(T "function"), none, (.func (F "board_row" "board_row" (topS 43) 3 [] N N N (s "dunnage.yard" 519) none (r 296) N 0)), [].toArray⟩
def o298_3 (P : Params) : Obj := ⟨(T "tuple"), none, (.seq [].toArray 0), [].toArray⟩
def o299_3 (P : Params) : Obj := ⟨N, none, (.fields [].toArray), [].toArray⟩
def o300_3 (P : Params) : Obj := ⟨(T "tuple"), none, (.seq [(s "yard" 607), (s "name" 608)].toArray 0), [].toArray⟩
def o301_3 (P : Params) : Obj := ⟨(T "tuple"), none, (.seq [].toArray 0), [].toArray⟩
def o302_3 (P : Params) : Obj := ⟨N, none, (.func (F "board_or_trestle_row" "board_or_trestle_row" (topS 44) 0 [] N N N N none N N 0)), [].toArray⟩
def o303_3 (P : Params) : Obj := ⟨(T "code"), none, (.fields [(s "board_or_trestle_row" 604), (s "board_or_trestle_row" 605), (s "/claim/cut.py" 606), (i (91) 0), (i (2) 0), (i (0) 0), (i (0) 0), (i (3) 0), (r 298), (.bool true), (i (181) 0), (r 299), N, (r 300), (r 301), (r 302), (i (609) 0), (i (91) 0), (s "/claim/cut.py" 610)].toArray), [].toArray⟩
def o304_3 (P : Params) : Obj := ⟨(T "function"), none, (.func (F "board_or_trestle_row" "board_or_trestle_row" (topS 44) 3 [] N N N (s "dunnage.yard" 519) none (r 303) N 0)), [].toArray⟩
def o305_3 (P : Params) : Obj := ⟨(T "tuple"), none, (.seq [].toArray 0), [].toArray⟩
def o306_3 (P : Params) : Obj := ⟨N, none, (.fields [].toArray), [].toArray⟩
def o307_3 (P : Params) : Obj := ⟨(T "tuple"), none, (.seq [(s "yard" 615), (s "name" 616)].toArray 0), [].toArray⟩
def o308_3 (P : Params) : Obj := ⟨(T "tuple"), none, (.seq [].toArray 0), [].toArray⟩
def o309_3 (P : Params) : Obj := ⟨N, none, (.func (F "sack_row" "sack_row" (topS 45) 0 [] N N N N none N N 0)), [].toArray⟩
def o310_3 (P : Params) : Obj := ⟨(T "code"), none, (.fields [(s "sack_row" 612), (s "sack_row" 613), (s "/claim/cut.py" 614), (i (97) 0), (i (2) 0), (i (0) 0), (i (0) 0), (i (3) 0), (r 305), (.bool true), (i (181) 0), (r 306), N, (r 307), (r 308), (r 309), (i (617) 0), (i (97) 0), (s "/claim/cut.py" 618)].toArray), [].toArray⟩
def o311_3 (P : Params) : Obj := ⟨(T "function"), none, (.func (F "sack_row" "sack_row" (topS 45) 3 [] N N N (s "dunnage.yard" 519) none (r 310) N 0)), [].toArray⟩
def o312_3 (P : Params) : Obj := ⟨(T "tuple"), none, (.seq [].toArray 0), [].toArray⟩
def o313_3 (P : Params) : Obj := ⟨N, none, (.fields [].toArray), [].toArray⟩
def o314_3 (P : Params) : Obj := ⟨(T "tuple"), none, (.seq [(s "yard" 623), (s "name" 624)].toArray 0), [].toArray⟩
def o315_3 (P : Params) : Obj := ⟨(T "tuple"), none, (.seq [].toArray 0), [].toArray⟩
def o316_3 (P : Params) : Obj := ⟨N, none, (.func (F "cord_row" "cord_row" (topS 46) 0 [] N N N N none N N 0)), [].toArray⟩
def o317_3 (P : Params) : Obj := ⟨(T "code"), none, (.fields [(s "cord_row" 620), (s "cord_row" 621), (s "/claim/cut.py" 622), (i (101) 0), (i (2) 0), (i (0) 0), (i (0) 0), (i (3) 0), (r 312), (.bool true), (i (181) 0), (r 313), N, (r 314), (r 315), (r 316), (i (625) 0), (i (101) 0), (s "/claim/cut.py" 626)].toArray), [].toArray⟩
def o318_3 (P : Params) : Obj := ⟨(T "function"), none, (.func (F "cord_row" "cord_row" (topS 46) 3 [] N N N (s "dunnage.yard" 519) none (r 317) N 0)), [].toArray⟩
def o319_3 (P : Params) : Obj := ⟨(T "tuple"), none, (.seq [].toArray 0), [].toArray⟩
def o320_3 (P : Params) : Obj := ⟨N, none, (.fields [].toArray), [].toArray⟩
def o321_3 (P : Params) : Obj := ⟨(T "tuple"), none, (.seq [(s "yard" 631), (s "name" 632), (s "row" 633)].toArray 0), [].toArray⟩
def o322_3 (P : Params) : Obj := ⟨(T "tuple"), none, (.seq [].toArray 0), [].toArray⟩
def o323_3 (P : Params) : Obj := ⟨N, none, (.func (F "check_no_cord" "check_no_cord" (topS 47) 0 [] N N N N none N N 0)), [].toArray⟩
def o324_3 (P : Params) : Obj := ⟨(T "code"), none, (.fields [(s "check_no_cord" 628), (s "check_no_cord" 629), (s "/claim/cut.py" 630), (i (105) 0), (i (2) 0), (i (0) 0), (i (0) 0), (i (3) 0), (r 319), (.bool true), (i (181) 0), (r 320), N, (r 321), (r 322), (r 323), (i (634) 0), (i (105) 0), (s "/claim/cut.py" 635)].toArray), [].toArray⟩
def o325_3 (P : Params) : Obj := ⟨(T "function"), none, (.func (F "check_no_cord" "check_no_cord" (topS 47) 3 [] N N N (s "dunnage.yard" 519) none (r 324) N 0)), [].toArray⟩
def o326_3 (P : Params) : Obj := ⟨(T "tuple"), none, (.seq [].toArray 0), [].toArray⟩
def o327_3 (P : Params) : Obj := ⟨N, none, (.fields [].toArray), [].toArray⟩
def o328_3 (P : Params) : Obj := ⟨(T "tuple"), none, (.seq [(s "yard" 640), (s "name" 641), (s "row" 642)].toArray 0), [].toArray⟩
def o329_3 (P : Params) : Obj := ⟨(T "tuple"), none, (.seq [].toArray 0), [].toArray⟩
def o330_3 (P : Params) : Obj := ⟨N, none, (.func (F "check_no_sack" "check_no_sack" (topS 48) 0 [] N N N N none N N 0)), [].toArray⟩
def o331_3 (P : Params) : Obj := ⟨(T "code"), none, (.fields [(s "check_no_sack" 637), (s "check_no_sack" 638), (s "/claim/cut.py" 639), (i (109) 0), (i (2) 0), (i (0) 0), (i (0) 0), (i (3) 0), (r 326), (.bool true), (i (181) 0), (r 327), N, (r 328), (r 329), (r 330), (i (643) 0), (i (109) 0), (s "/claim/cut.py" 644)].toArray), [].toArray⟩
def o332_3 (P : Params) : Obj := ⟨(T "function"), none, (.func (F "check_no_sack" "check_no_sack" (topS 48) 3 [] N N N (s "dunnage.yard" 519) none (r 331) N 0)), [].toArray⟩
def o333_3 (P : Params) : Obj := ⟨(T "tuple"), none, (.seq [].toArray 0), [].toArray⟩
def o334_3 (P : Params) : Obj := ⟨N, none, (.fields [].toArray), [].toArray⟩
def o335_3 (P : Params) : Obj := ⟨(T "tuple"), none, (.seq [(s "yard" 649), (s "name" 650), (s "course" 651), (s "left" 652), (s "right" 653)].toArray 0), [].toArray⟩
def o336_3 (P : Params) : Obj := ⟨(T "tuple"), none, (.seq [].toArray 0), [].toArray⟩
def o337_3 (P : Params) : Obj := ⟨N, none, (.func (F "set_trestle" "set_trestle" (topS 49) 0 [] N N N N none N N 0)), [].toArray⟩
def o338_3 (P : Params) : Obj := ⟨(T "code"), none, (.fields [(s "set_trestle" 646), (s "set_trestle" 647), (s "/claim/cut.py" 648), (i (113) 0), (i (5) 0), (i (0) 0), (i (0) 0), (i (3) 0), (r 333), (.bool true), (i (181) 0), (r 334), N, (r 335), (r 336), (r 337), (i (654) 0), (i (113) 0), (s "/claim/cut.py" 655)].toArray), [].toArray⟩
def o339_3 (P : Params) : Obj := ⟨(T "function"), none, (.func (F "set_trestle" "set_trestle" (topS 49) 3 [] N N N (s "dunnage.yard" 519) none (r 338) N 0)), [].toArray⟩
def o340_3 (P : Params) : Obj := ⟨(T "tuple"), none, (.seq [].toArray 0), [].toArray⟩
def o341_3 (P : Params) : Obj := ⟨N, none, (.fields [].toArray), [].toArray⟩
def o342_3 (P : Params) : Obj := ⟨(T "tuple"), none, (.seq [(s "yard" 660), (s "name" 661), (s "course" 662), (s "left" 663), (s "right" 664), (s "weight" 665)].toArray 0), [].toArray⟩
def o343_3 (P : Params) : Obj := ⟨(T "tuple"), none, (.seq [].toArray 0), [].toArray⟩
def o344_3 (P : Params) : Obj := ⟨N, none, (.func (F "lay_board" "lay_board" (topS 50) 0 [] N N N N none N N 0)), [].toArray⟩
def o345_3 (P : Params) : Obj := ⟨(T "code"), none, (.fields [(s "lay_board" 657), (s "lay_board" 658), (s "/claim/cut.py" 659), (i (122) 0), (i (6) 0), (i (0) 0), (i (0) 0), (i (3) 0), (r 340), (.bool true), (i (181) 0), (r 341), N, (r 342), (r 343), (r 344), (i (666) 0), (i (122) 0), (s "/claim/cut.py" 667)].toArray), [].toArray⟩
def o346_3 (P : Params) : Obj := ⟨(T "function"), none, (.func (F "lay_board" "lay_board" (topS 50) 3 [] N N N (s "dunnage.yard" 519) none (r 345) N 0)), [].toArray⟩
def o347_3 (P : Params) : Obj := ⟨(T "tuple"), none, (.seq [].toArray 0), [].toArray⟩
def o348_3 (P : Params) : Obj := ⟨N, none, (.fields [].toArray), [].toArray⟩
def o349_3 (P : Params) : Obj := ⟨(T "tuple"), none, (.seq [(s "yard" 672), (s "name" 673)].toArray 0), [].toArray⟩
def o350_3 (P : Params) : Obj := ⟨(T "tuple"), none, (.seq [].toArray 0), [].toArray⟩
def o351_3 (P : Params) : Obj := ⟨N, none, (.func (F "take_away" "take_away" (topS 51) 0 [] N N N N none N N 0)), [].toArray⟩
def o352_3 (P : Params) : Obj := ⟨(T "code"), none, (.fields [(s "take_away" 669), (s "take_away" 670), (s "/claim/cut.py" 671), (i (132) 0), (i (2) 0), (i (0) 0), (i (0) 0), (i (3) 0), (r 347), (.bool true), (i (181) 0), (r 348), N, (r 349), (r 350), (r 351), (i (674) 0), (i (132) 0), (s "/claim/cut.py" 675)].toArray), [].toArray⟩
def o353_3 (P : Params) : Obj := ⟨(T "function"), none, (.func (F "take_away" "take_away" (topS 51) 3 [] N N N (s "dunnage.yard" 519) none (r 352) N 0)), [].toArray⟩
def o354_3 (P : Params) : Obj := ⟨(T "tuple"), none, (.seq [].toArray 0), [].toArray⟩
def o355_3 (P : Params) : Obj := ⟨N, none, (.fields [].toArray), [].toArray⟩
def o356_3 (P : Params) : Obj := ⟨(T "tuple"), none, (.seq [(s "yard" 680), (s "name" 681), (s "by" 682), (s "row" 683), (s "course" 684), (s "left" 685), (s "right" 686)].toArray 0), [].toArray⟩
def o357_3 (P : Params) : Obj := ⟨(T "tuple"), none, (.seq [].toArray 0), [].toArray⟩
def o358_3 (P : Params) : Obj := ⟨N, none, (.func (F "shift_along" "shift_along" (topS 52) 0 [] N N N N none N N 0)), [].toArray⟩
def o359_3 (P : Params) : Obj := ⟨(T "code"), none, (.fields [(s "shift_along" 677), (s "shift_along" 678), (s "/claim/cut.py" 679), (i (140) 0), (i (3) 0), (i (0) 0), (i (0) 0), (i (3) 0), (r 354), (.bool true), (i (181) 0), (r 355), N, (r 356), (r 357), (r 358), (i (687) 0), (i (140) 0), (s "/claim/cut.py" 688)].toArray), [].toArray⟩
def o360_3 (P : Params) : Obj := ⟨(T "function"), none, (.func (F "shift_along" "shift_along" (topS 52) 3 [] N N N (s "dunnage.yard" 519) none (r 359) N 0)), [].toArray⟩
def o361_3 (P : Params) : Obj := ⟨(T "tuple"), none, (.seq [].toArray 0), [].toArray⟩
def o362_3 (P : Params) : Obj := ⟨N, none, (.fields [].toArray), [].toArray⟩
def o363_3 (P : Params) : Obj := ⟨(T "tuple"), none, (.seq [(s "yard" 693), (s "board" 694), (s "by" 695), (s "row" 696)].toArray 0), [].toArray⟩
def o364_3 (P : Params) : Obj := ⟨(T "tuple"), none, (.seq [].toArray 0), [].toArray⟩
def o365_3 (P : Params) : Obj := ⟨N, none, (.func (F "shift_sacks" "shift_sacks" (topS 53) 0 [] N N N N none N N 0)), [].toArray⟩
def o366_3 (P : Params) : Obj := ⟨(T "code"), none, (.fields [(s "shift_sacks" 690), (s "shift_sacks" 691), (s "/claim/cut.py" 692), (i (153) 0), (i (3) 0), (i (0) 0), (i (0) 0), (i (3) 0), (r 361), (.bool true), (i (181) 0), (r 362), N, (r 363), (r 364), (r 365), (i (697) 0), (i (153) 0), (s "/claim/cut.py" 698)].toArray), [].toArray⟩
def o367_3 (P : Params) : Obj := ⟨(T "function"), none, (.func (F "shift_sacks" "shift_sacks" (topS 53) 3 [] N N N (s "dunnage.yard" 519) none (r 366) N 0)), [].toArray⟩
def o368_3 (P : Params) : Obj := ⟨(T "tuple"), none, (.seq [].toArray 0), [].toArray⟩
def o369_3 (P : Params) : Obj := ⟨N, none, (.fields [].toArray), [].toArray⟩
def o370_3 (P : Params) : Obj := ⟨(T "tuple"), none, (.seq [(s "yard" 703), (s "name" 704), (s "board" 705), (s "place" 706), (s "weight" 707)].toArray 0), [].toArray⟩
def o371_3 (P : Params) : Obj := ⟨(T "tuple"), none, (.seq [].toArray 0), [].toArray⟩
def o372_3 (P : Params) : Obj := ⟨N, none, (.func (F "set_sack" "set_sack" (topS 54) 0 [] N N N N none N N 0)), [].toArray⟩
def o373_3 (P : Params) : Obj := ⟨(T "code"), none, (.fields [(s "set_sack" 700), (s "set_sack" 701), (s "/claim/cut.py" 702), (i (157) 0), (i (5) 0), (i (0) 0), (i (0) 0), (i (3) 0), (r 368), (.bool true), (i (181) 0), (r 369), N, (r 370), (r 371), (r 372), (i (708) 0), (i (157) 0), (s "/claim/cut.py" 709)].toArray), [].toArray⟩
def o374_3 (P : Params) : Obj := ⟨(T "function"), none, (.func (F "set_sack" "set_sack" (topS 54) 3 [] N N N (s "dunnage.yard" 519) none (r 373) N 0)), [].toArray⟩
def o375_3 (P : Params) : Obj := ⟨(T "tuple"), none, (.seq [].toArray 0), [].toArray⟩
def o376_3 (P : Params) : Obj := ⟨N, none, (.fields [].toArray), [].toArray⟩
def o377_3 (P : Params) : Obj := ⟨(T "tuple"), none, (.seq [(s "yard" 714), (s "name" 715), (s "board" 716), (s "place" 717), (s "row" 718)].toArray 0), [].toArray⟩
def o378_3 (P : Params) : Obj := ⟨(T "tuple"), none, (.seq [].toArray 0), [].toArray⟩
def o379_3 (P : Params) : Obj := ⟨N, none, (.func (F "move_sack" "move_sack" (topS 55) 0 [] N N N N none N N 0)), [].toArray⟩
def o380_3 (P : Params) : Obj := ⟨(T "code"), none, (.fields [(s "move_sack" 711), (s "move_sack" 712), (s "/claim/cut.py" 713), (i (163) 0), (i (4) 0), (i (0) 0), (i (0) 0), (i (3) 0), (r 375), (.bool true), (i (181) 0), (r 376), N, (r 377), (r 378), (r 379), (i (719) 0), (i (163) 0), (s "/claim/cut.py" 720)].toArray), [].toArray⟩
def o381_3 (P : Params) : Obj := ⟨(T "function"), none, (.func (F "move_sack" "move_sack" (topS 55) 3 [] N N N (s "dunnage.yard" 519) none (r 380) N 0)), [].toArray⟩
def o382_3 (P : Params) : Obj := ⟨(T "tuple"), none, (.seq [].toArray 0), [].toArray⟩
def o383_3 (P : Params) : Obj := ⟨N, none, (.fields [].toArray), [].toArray⟩
def o384_3 (P : Params) : Obj := ⟨(T "tuple"), none, (.seq [(s "yard" 725), (s "name" 726)].toArray 0), [].toArray⟩
def o385_3 (P : Params) : Obj := ⟨(T "tuple"), none, (.seq [].toArray 0), [].toArray⟩
def o386_3 (P : Params) : Obj := ⟨N, none, (.func (F "lift_sack" "lift_sack" (topS 56) 0 [] N N N N none N N 0)), [].toArray⟩
def o387_3 (P : Params) : Obj := ⟨(T "code"), none, (.fields [(s "lift_sack" 722), (s "lift_sack" 723), (s "/claim/cut.py" 724), (i (167) 0), (i (2) 0), (i (0) 0), (i (0) 0), (i (3) 0), (r 382), (.bool true), (i (181) 0), (r 383), N, (r 384), (r 385), (r 386), (i (727) 0), (i (167) 0), (s "/claim/cut.py" 728)].toArray), [].toArray⟩
def o388_3 (P : Params) : Obj := ⟨(T "function"), none, (.func (F "lift_sack" "lift_sack" (topS 56) 3 [] N N N (s "dunnage.yard" 519) none (r 387) N 0)), [].toArray⟩
def o389_3 (P : Params) : Obj := ⟨(T "tuple"), none, (.seq [].toArray 0), [].toArray⟩
def o390_3 (P : Params) : Obj := ⟨N, none, (.fields [].toArray), [].toArray⟩
def o391_3 (P : Params) : Obj := ⟨(T "tuple"), none, (.seq [(s "yard" 733), (s "name" 734), (s "upper" 735), (s "lower" 736), (s "place" 737), (s "upper_row" 738), (s "lower_row" 739)].toArray 0), [].toArray⟩
def o392_3 (P : Params) : Obj := ⟨(T "tuple"), none, (.seq [].toArray 0), [].toArray⟩
def o393_3 (P : Params) : Obj := ⟨N, none, (.func (F "tie_cord" "tie_cord" (topS 57) 0 [] N N N N none N N 0)), [].toArray⟩
def o394_3 (P : Params) : Obj := ⟨(T "code"), none, (.fields [(s "tie_cord" 730), (s "tie_cord" 731), (s "/claim/cut.py" 732), (i (170) 0), (i (5) 0), (i (0) 0), (i (0) 0), (i (3) 0), (r 389), (.bool true), (i (181) 0), (r 390), N, (r 391), (r 392), (r 393), (i (740) 0), (i (170) 0), (s "/claim/cut.py" 741)].toArray), [].toArray⟩
def o395_3 (P : Params) : Obj := ⟨(T "function"), none, (.func (F "tie_cord" "tie_cord" (topS 57) 3 [] N N N (s "dunnage.yard" 519) none (r 394) N 0)), [].toArray⟩
def o396_3 (P : Params) : Obj := ⟨(T "tuple"), none, (.seq [].toArray 0), [].toArray⟩
def o397_3 (P : Params) : Obj := ⟨N, none, (.fields [].toArray), [].toArray⟩
def o398_3 (P : Params) : Obj := ⟨(T "tuple"), none, (.seq [(s "yard" 746), (s "name" 747)].toArray 0), [].toArray⟩
def o399_3 (P : Params) : Obj := ⟨(T "tuple"), none, (.seq [].toArray 0), [].toArray⟩
def o400_3 (P : Params) : Obj := ⟨N, none, (.func (F "cut_cord" "cut_cord" (topS 58) 0 [] N N N N none N N 0)), [].toArray⟩
def o401_3 (P : Params) : Obj := ⟨(T "code"), none, (.fields [(s "cut_cord" 743), (s "cut_cord" 744), (s "/claim/cut.py" 745), (i (180) 0), (i (2) 0), (i (0) 0), (i (0) 0), (i (3) 0), (r 396), (.bool true), (i (181) 0), (r 397), N, (r 398), (r 399), (r 400), (i (748) 0), (i (180) 0), (s "/claim/cut.py" 749)].toArray), [].toArray⟩
def o402_3 (P : Params) : Obj := ⟨(T "function"), none, (.func (F "cut_cord" "cut_cord" (topS 58) 3 [] N N N (s "dunnage.yard" 519) none (r 401) N 0)), [].toArray⟩
def tree3 (P : Params) : PySem.W.BT := (n (PySem.W.boot_o_0 P) (n (PySem.W.boot_o_1 P) (n (o3_3 P) (n (PySem.W.boot_o_7 P) (n (o15_1 P) (n (o31_1 P) (n (o63_1 P) (n (o127_1 P) (n (o255_3 P) z z) (n (o383_3 P) z z)) (n (o191_2 P) (n (o319_3 P) z z) z)) (n (o95_1 P) (n (o159_1 P) (n (o287_3 P) z z) z) (n (o223_3 P) (n (o351_3 P) z z) z))) (n (o47_1 P) (n (o79_1 P) (n (o143_1 P) (n (o271_3 P) z z) (n (o399_3 P) z z)) (n (o207_3 P) (n (o335_3 P) z z) z)) (n (o111_1 P) (n (o175_1 P) (n (o303_3 P) z z) z) (n (o239_3 P) (n (o367_3 P) z z) z)))) (n (o23_1 P) (n (o39_1 P) (n (o71_1 P) (n (o135_1 P) (n (o263_3 P) z z) (n (o391_3 P) z z)) (n (o199_2 P) (n (o327_3 P) z z) z)) (n (o103_1 P) (n (o167_1 P) (n (o295_3 P) z z) z) (n (o231_3 P) (n (o359_3 P) z z) z))) (n (o55_1 P) (n (o87_1 P) (n (o151_1 P) (n (o279_3 P) z z) z) (n (o215_3 P) (n (o343_3 P) z z) z)) (n (o119_1 P) (n (o183_1 P) (n (o311_3 P) z z) z) (n (o247_3 P) (n (o375_3 P) z z) z))))) (n (o11_0 P) (n (o19_1 P) (n (o35_1 P) (n (o67_1 P) (n (o131_1 P) (n (o259_3 P) z z) (n (o387_3 P) z z)) (n (o195_2 P) (n (o323_3 P) z z) z)) (n (o99_1 P) (n (o163_1 P) (n (o291_3 P) z z) z) (n (o227_3 P) (n (o355_3 P) z z) z))) (n (o51_1 P) (n (o83_1 P) (n (o147_1 P) (n (o275_3 P) z z) z) (n (o211_3 P) (n (o339_3 P) z z) z)) (n (o115_1 P) (n (o179_1 P) (n (o307_3 P) z z) z) (n (o243_3 P) (n (o371_3 P) z z) z)))) (n (o27_1 P) (n (o43_1 P) (n (o75_1 P) (n (o139_1 P) (n (o267_3 P) z z) (n (o395_3 P) z z)) (n (o203_3 P) (n (o331_3 P) z z) z)) (n (o107_1 P) (n (o171_1 P) (n (o299_3 P) z z) z) (n (o235_3 P) (n (o363_3 P) z z) z))) (n (o59_1 P) (n (o91_1 P) (n (o155_1 P) (n (o283_3 P) z z) z) (n (o219_3 P) (n (o347_3 P) z z) z)) (n (o123_1 P) (n (o187_1 P) (n (o315_3 P) z z) z) (n (o251_3 P) (n (o379_3 P) z z) z)))))) (n (PySem.W.boot_o_5 P) (n (PySem.W.boot_o_9 P) (n (o17_1 P) (n (o33_1 P) (n (o65_1 P) (n (o129_1 P) (n (o257_3 P) z z) (n (o385_3 P) z z)) (n (o193_2 P) (n (o321_3 P) z z) z)) (n (o97_1 P) (n (o161_1 P) (n (o289_3 P) z z) z) (n (o225_3 P) (n (o353_3 P) z z) z))) (n (o49_1 P) (n (o81_1 P) (n (o145_1 P) (n (o273_3 P) z z) (n (o401_3 P) z z)) (n (o209_3 P) (n (o337_3 P) z z) z)) (n (o113_1 P) (n (o177_1 P) (n (o305_3 P) z z) z) (n (o241_3 P) (n (o369_3 P) z z) z)))) (n (o25_1 P) (n (o41_1 P) (n (o73_1 P) (n (o137_1 P) (n (o265_3 P) z z) (n (o393_3 P) z z)) (n (o201_3 P) (n (o329_3 P) z z) z)) (n (o105_1 P) (n (o169_1 P) (n (o297_3 P) z z) z) (n (o233_3 P) (n (o361_3 P) z z) z))) (n (o57_1 P) (n (o89_1 P) (n (o153_1 P) (n (o281_3 P) z z) z) (n (o217_3 P) (n (o345_3 P) z z) z)) (n (o121_1 P) (n (o185_1 P) (n (o313_3 P) z z) z) (n (o249_3 P) (n (o377_3 P) z z) z))))) (n (o13_0 P) (n (o21_1 P) (n (o37_1 P) (n (o69_1 P) (n (o133_1 P) (n (o261_3 P) z z) (n (o389_3 P) z z)) (n (o197_2 P) (n (o325_3 P) z z) z)) (n (o101_1 P) (n (o165_1 P) (n (o293_3 P) z z) z) (n (o229_3 P) (n (o357_3 P) z z) z))) (n (o53_1 P) (n (o85_1 P) (n (o149_1 P) (n (o277_3 P) z z) z) (n (o213_3 P) (n (o341_3 P) z z) z)) (n (o117_1 P) (n (o181_1 P) (n (o309_3 P) z z) z) (n (o245_3 P) (n (o373_3 P) z z) z)))) (n (o29_1 P) (n (o45_1 P) (n (o77_1 P) (n (o141_1 P) (n (o269_3 P) z z) (n (o397_3 P) z z)) (n (o205_3 P) (n (o333_3 P) z z) z)) (n (o109_1 P) (n (o173_1 P) (n (o301_3 P) z z) z) (n (o237_3 P) (n (o365_3 P) z z) z))) (n (o61_1 P) (n (o93_1 P) (n (o157_1 P) (n (o285_3 P) z z) z) (n (o221_3 P) (n (o349_3 P) z z) z)) (n (o125_1 P) (n (o189_1 P) (n (o317_3 P) z z) z) (n (o253_3 P) (n (o381_3 P) z z) z))))))) (n (PySem.W.boot_o_2 P) (n (PySem.W.boot_o_4 P) (n (PySem.W.boot_o_8 P) (n (o16_1 P) (n (o32_1 P) (n (o64_1 P) (n (o128_1 P) (n (o256_3 P) z z) (n (o384_3 P) z z)) (n (o192_2 P) (n (o320_3 P) z z) z)) (n (o96_1 P) (n (o160_1 P) (n (o288_3 P) z z) z) (n (o224_3 P) (n (o352_3 P) z z) z))) (n (o48_1 P) (n (o80_1 P) (n (o144_1 P) (n (o272_3 P) z z) (n (o400_3 P) z z)) (n (o208_3 P) (n (o336_3 P) z z) z)) (n (o112_1 P) (n (o176_1 P) (n (o304_3 P) z z) z) (n (o240_3 P) (n (o368_3 P) z z) z)))) (n (o24_1 P) (n (o40_1 P) (n (o72_1 P) (n (o136_1 P) (n (o264_3 P) z z) (n (o392_3 P) z z)) (n (o200_2 P) (n (o328_3 P) z z) z)) (n (o104_1 P) (n (o168_1 P) (n (o296_3 P) z z) z) (n (o232_3 P) (n (o360_3 P) z z) z))) (n (o56_1 P) (n (o88_1 P) (n (o152_1 P) (n (o280_3 P) z z) z) (n (o216_3 P) (n (o344_3 P) z z) z)) (n (o120_1 P) (n (o184_1 P) (n (o312_3 P) z z) z) (n (o248_3 P) (n (o376_3 P) z z) z))))) (n (o12_3 P) (n (o20_1 P) (n (o36_1 P) (n (o68_1 P) (n (o132_1 P) (n (o260_3 P) z z) (n (o388_3 P) z z)) (n (o196_2 P) (n (o324_3 P) z z) z)) (n (o100_1 P) (n (o164_1 P) (n (o292_3 P) z z) z) (n (o228_3 P) (n (o356_3 P) z z) z))) (n (o52_1 P) (n (o84_1 P) (n (o148_1 P) (n (o276_3 P) z z) z) (n (o212_3 P) (n (o340_3 P) z z) z)) (n (o116_1 P) (n (o180_1 P) (n (o308_3 P) z z) z) (n (o244_3 P) (n (o372_3 P) z z) z)))) (n (o28_1 P) (n (o44_1 P) (n (o76_1 P) (n (o140_1 P) (n (o268_3 P) z z) (n (o396_3 P) z z)) (n (o204_3 P) (n (o332_3 P) z z) z)) (n (o108_1 P) (n (o172_1 P) (n (o300_3 P) z z) z) (n (o236_3 P) (n (o364_3 P) z z) z))) (n (o60_1 P) (n (o92_1 P) (n (o156_1 P) (n (o284_3 P) z z) z) (n (o220_3 P) (n (o348_3 P) z z) z)) (n (o124_1 P) (n (o188_1 P) (n (o316_3 P) z z) z) (n (o252_3 P) (n (o380_3 P) z z) z)))))) (n (PySem.W.boot_o_6 P) (n (PySem.W.boot_o_10 P) (n (o18_1 P) (n (o34_1 P) (n (o66_1 P) (n (o130_1 P) (n (o258_3 P) z z) (n (o386_3 P) z z)) (n (o194_2 P) (n (o322_3 P) z z) z)) (n (o98_1 P) (n (o162_1 P) (n (o290_3 P) z z) z) (n (o226_3 P) (n (o354_3 P) z z) z))) (n (o50_1 P) (n (o82_1 P) (n (o146_1 P) (n (o274_3 P) z z) (n (o402_3 P) z z)) (n (o210_3 P) (n (o338_3 P) z z) z)) (n (o114_1 P) (n (o178_1 P) (n (o306_3 P) z z) z) (n (o242_3 P) (n (o370_3 P) z z) z)))) (n (o26_1 P) (n (o42_1 P) (n (o74_1 P) (n (o138_1 P) (n (o266_3 P) z z) (n (o394_3 P) z z)) (n (o202_3 P) (n (o330_3 P) z z) z)) (n (o106_1 P) (n (o170_1 P) (n (o298_3 P) z z) z) (n (o234_3 P) (n (o362_3 P) z z) z))) (n (o58_1 P) (n (o90_1 P) (n (o154_1 P) (n (o282_3 P) z z) z) (n (o218_3 P) (n (o346_3 P) z z) z)) (n (o122_1 P) (n (o186_1 P) (n (o314_3 P) z z) z) (n (o250_3 P) (n (o378_3 P) z z) z))))) (n (o14_0 P) (n (o22_1 P) (n (o38_1 P) (n (o70_1 P) (n (o134_1 P) (n (o262_3 P) z z) (n (o390_3 P) z z)) (n (o198_2 P) (n (o326_3 P) z z) z)) (n (o102_1 P) (n (o166_1 P) (n (o294_3 P) z z) z) (n (o230_3 P) (n (o358_3 P) z z) z))) (n (o54_1 P) (n (o86_1 P) (n (o150_1 P) (n (o278_3 P) z z) z) (n (o214_3 P) (n (o342_3 P) z z) z)) (n (o118_1 P) (n (o182_1 P) (n (o310_3 P) z z) z) (n (o246_3 P) (n (o374_3 P) z z) z)))) (n (o30_1 P) (n (o46_1 P) (n (o78_1 P) (n (o142_1 P) (n (o270_3 P) z z) (n (o398_3 P) z z)) (n (o206_3 P) (n (o334_3 P) z z) z)) (n (o110_1 P) (n (o174_1 P) (n (o302_3 P) z z) z) (n (o238_3 P) (n (o366_3 P) z z) z))) (n (o62_1 P) (n (o94_1 P) (n (o158_1 P) (n (o286_3 P) z z) z) (n (o222_3 P) (n (o350_3 P) z z) z)) (n (o126_1 P) (n (o190_1 P) (n (o318_3 P) z z) z) (n (o254_3 P) (n (o382_3 P) z z) z))))))))
def o3_4 (P : Params) : Obj := ⟨(T "dict"), none, (.dict [e P "__name__" 165 (s "dunnage.yard" 519), e P "__doc__" 166 N, e P "__package__" 167 N, e P "__loader__" 168 (B "__main__.__loader__#opaque"), e P "__spec__" 169 N, e P "__annotations__" 170 (r 6), e P "__builtins__" 171 (r 4), e P "__file__" 173 (s "/claim/cut.py" 172), e P "__cached__" 174 N, e P "_wall" 193 (r 21), e P "YardError" 213 (r 31), e P "BadName" 229 (r 44), e P "Taken" 245 (r 56), e P "BadCourse" 261 (r 68), e P "BadPlace" 277 (r 80), e P "BadWeight" 293 (r 92), e P "Full" 309 (r 104), e P "Crowded" 325 (r 116), e P "NoThing" 341 (r 128), e P "InUse" 357 (r 140), e P "NoSack" 373 (r 152), e P "NoCord" 389 (r 164), e P "BadCord" 405 (r 176), e P "BadDeed" 421 (r 188), e P "LETTERS" 425 (s "abcdefghijklmnopqrstuvwxyz" 424), e P "LONGEST_NAME" 427 (i (8) 426), e P "FARTHEST_PLACE" 429 (i (1000000) 428), e P "HIGHEST_COURSE" 431 (i (9) 430), e P "GREATEST_WEIGHT" 433 (i (1000000000) 432), e P "DEED_THINGS" 477 (r 191), e P "check_form" 484 (r 207), e P "is_name" 490 (r 212), e P "is_number" 497 (r 219), e P "is_place" 504 (r 226), e P "is_course" 511 (r 233), e P "is_weight" 518 (r 240), e P "MOST_BOARDS" 522 (i (6) 521), e P "MOST_TRESTLES" 524 (i (6) 523), e P "MOST_SACKS" 526 (i (8) 525), e P "MOST_CORDS" 528 (i (4) 527), e P "BEAM" 530 (s "" 529), e P "BEAM_ROW" 536 (r 241), e P "check_new_name" 545 (r 248), e P "check_course" 552 (r 255), e P "check_places" 560 (r 262), e P "check_weight" 567 (r 269), e P "check_count" 575 (r 276), e P "check_room" 587 (r 283), e P "check_on_board" 595 (r 290), e P "board_row" 603 (r 297), e P "board_or_trestle_row" 611 (r 304), e P "sack_row" 619 (r 311), e P "cord_row" 627 (r 318), e P "check_no_cord" 636 (r 325), e P "check_no_sack" 645 (r 332), e P "set_trestle" 656 (r 339), e P "lay_board" 668 (r 346), e P "take_away" 676 (r 353), e P "shift_along" 689 (r 360), e P "shift_sacks" 699 (r 367), e P "set_sack" 710 (r 374), e P "move_sack" 721 (r 381), e P "lift_sack" 729 (r 388), e P "tie_cord" 742 (r 395), e P "cut_cord" 750 (r 402), e P "ACTIONS" 769 (r 403)].toArray 66), [].toArray⟩
def o403_4 (P : Params) : Obj := ⟨(T "dict"), none, (.dict [e P "trestle" 751 (r 339), e P "board" 752 (r 346), e P "away" 753 (r 353), e P "along" 754 (r 360), e P "sack" 755 (r 374), e P "move" 756 (r 381), e P "lift" 757 (r 388), e P "cord" 758 (r 395), e P "cut" 759 (r 402)].toArray 9), [].toArray⟩
def tree4 (P : Params) : PySem.W.BT := (n (PySem.W.boot_o_0 P) (n (PySem.W.boot_o_1 P) (n (o3_4 P) (n (PySem.W.boot_o_7 P) (n (o15_1 P) (n (o31_1 P) (n (o63_1 P) (n (o127_1 P) (n (o255_3 P) z z) (n (o383_3 P) z z)) (n (o191_2 P) (n (o319_3 P) z z) z)) (n (o95_1 P) (n (o159_1 P) (n (o287_3 P) z z) z) (n (o223_3 P) (n (o351_3 P) z z) z))) (n (o47_1 P) (n (o79_1 P) (n (o143_1 P) (n (o271_3 P) z z) (n (o399_3 P) z z)) (n (o207_3 P) (n (o335_3 P) z z) z)) (n (o111_1 P) (n (o175_1 P) (n (o303_3 P) z z) z) (n (o239_3 P) (n (o367_3 P) z z) z)))) (n (o23_1 P) (n (o39_1 P) (n (o71_1 P) (n (o135_1 P) (n (o263_3 P) z z) (n (o391_3 P) z z)) (n (o199_2 P) (n (o327_3 P) z z) z)) (n (o103_1 P) (n (o167_1 P) (n (o295_3 P) z z) z) (n (o231_3 P) (n (o359_3 P) z z) z))) (n (o55_1 P) (n (o87_1 P) (n (o151_1 P) (n (o279_3 P) z z) z) (n (o215_3 P) (n (o343_3 P) z z) z)) (n (o119_1 P) (n (o183_1 P) (n (o311_3 P) z z) z) (n (o247_3 P) (n (o375_3 P) z z) z))))) (n (o11_0 P) (n (o19_1 P) (n (o35_1 P) (n (o67_1 P) (n (o131_1 P) (n (o259_3 P) z z) (n (o387_3 P) z z)) (n (o195_2 P) (n (o323_3 P) z z) z)) (n (o99_1 P) (n (o163_1 P) (n (o291_3 P) z z) z) (n (o227_3 P) (n (o355_3 P) z z) z))) (n (o51_1 P) (n (o83_1 P) (n (o147_1 P) (n (o275_3 P) z z) (n (o403_4 P) z z)) (n (o211_3 P) (n (o339_3 P) z z) z)) (n (o115_1 P) (n (o179_1 P) (n (o307_3 P) z z) z) (n (o243_3 P) (n (o371_3 P) z z) z)))) (n (o27_1 P) (n (o43_1 P) (n (o75_1 P) (n (o139_1 P) (n (o267_3 P) z z) (n (o395_3 P) z z)) (n (o203_3 P) (n (o331_3 P) z z) z)) (n (o107_1 P) (n (o171_1 P) (n (o299_3 P) z z) z) (n (o235_3 P) (n (o363_3 P) z z) z))) (n (o59_1 P) (n (o91_1 P) (n (o155_1 P) (n (o283_3 P) z z) z) (n (o219_3 P) (n (o347_3 P) z z) z)) (n (o123_1 P) (n (o187_1 P) (n (o315_3 P) z z) z) (n (o251_3 P) (n (o379_3 P) z z) z)))))) (n (PySem.W.boot_o_5 P) (n (PySem.W.boot_o_9 P) (n (o17_1 P) (n (o33_1 P) (n (o65_1 P) (n (o129_1 P) (n (o257_3 P) z z) (n (o385_3 P) z z)) (n (o193_2 P) (n (o321_3 P) z z) z)) (n (o97_1 P) (n (o161_1 P) (n (o289_3 P) z z) z) (n (o225_3 P) (n (o353_3 P) z z) z))) (n (o49_1 P) (n (o81_1 P) (n (o145_1 P) (n (o273_3 P) z z) (n (o401_3 P) z z)) (n (o209_3 P) (n (o337_3 P) z z) z)) (n (o113_1 P) (n (o177_1 P) (n (o305_3 P) z z) z) (n (o241_3 P) (n (o369_3 P) z z) z)))) (n (o25_1 P) (n (o41_1 P) (n (o73_1 P) (n (o137_1 P) (n (o265_3 P) z z) (n (o393_3 P) z z)) (n (o201_3 P) (n (o329_3 P) z z) z)) (n (o105_1 P) (n (o169_1 P) (n (o297_3 P) z z) z) (n (o233_3 P) (n (o361_3 P) z z) z))) (n (o57_1 P) (n (o89_1 P) (n (o153_1 P) (n (o281_3 P) z z) z) (n (o217_3 P) (n (o345_3 P) z z) z)) (n (o121_1 P) (n (o185_1 P) (n (o313_3 P) z z) z) (n (o249_3 P) (n (o377_3 P) z z) z))))) (n (o13_0 P) (n (o21_1 P) (n (o37_1 P) (n (o69_1 P) (n (o133_1 P) (n (o261_3 P) z z) (n (o389_3 P) z z)) (n (o197_2 P) (n (o325_3 P) z z) z)) (n (o101_1 P) (n (o165_1 P) (n (o293_3 P) z z) z) (n (o229_3 P) (n (o357_3 P) z z) z))) (n (o53_1 P) (n (o85_1 P) (n (o149_1 P) (n (o277_3 P) z z) z) (n (o213_3 P) (n (o341_3 P) z z) z)) (n (o117_1 P) (n (o181_1 P) (n (o309_3 P) z z) z) (n (o245_3 P) (n (o373_3 P) z z) z)))) (n (o29_1 P) (n (o45_1 P) (n (o77_1 P) (n (o141_1 P) (n (o269_3 P) z z) (n (o397_3 P) z z)) (n (o205_3 P) (n (o333_3 P) z z) z)) (n (o109_1 P) (n (o173_1 P) (n (o301_3 P) z z) z) (n (o237_3 P) (n (o365_3 P) z z) z))) (n (o61_1 P) (n (o93_1 P) (n (o157_1 P) (n (o285_3 P) z z) z) (n (o221_3 P) (n (o349_3 P) z z) z)) (n (o125_1 P) (n (o189_1 P) (n (o317_3 P) z z) z) (n (o253_3 P) (n (o381_3 P) z z) z))))))) (n (PySem.W.boot_o_2 P) (n (PySem.W.boot_o_4 P) (n (PySem.W.boot_o_8 P) (n (o16_1 P) (n (o32_1 P) (n (o64_1 P) (n (o128_1 P) (n (o256_3 P) z z) (n (o384_3 P) z z)) (n (o192_2 P) (n (o320_3 P) z z) z)) (n (o96_1 P) (n (o160_1 P) (n (o288_3 P) z z) z) (n (o224_3 P) (n (o352_3 P) z z) z))) (n (o48_1 P) (n (o80_1 P) (n (o144_1 P) (n (o272_3 P) z z) (n (o400_3 P) z z)) (n (o208_3 P) (n (o336_3 P) z z) z)) (n (o112_1 P) (n (o176_1 P) (n (o304_3 P) z z) z) (n (o240_3 P) (n (o368_3 P) z z) z)))) (n (o24_1 P) (n (o40_1 P) (n (o72_1 P) (n (o136_1 P) (n (o264_3 P) z z) (n (o392_3 P) z z)) (n (o200_2 P) (n (o328_3 P) z z) z)) (n (o104_1 P) (n (o168_1 P) (n (o296_3 P) z z) z) (n (o232_3 P) (n (o360_3 P) z z) z))) (n (o56_1 P) (n (o88_1 P) (n (o152_1 P) (n (o280_3 P) z z) z) (n (o216_3 P) (n (o344_3 P) z z) z)) (n (o120_1 P) (n (o184_1 P) (n (o312_3 P) z z) z) (n (o248_3 P) (n (o376_3 P) z z) z))))) (n (o12_3 P) (n (o20_1 P) (n (o36_1 P) (n (o68_1 P) (n (o132_1 P) (n (o260_3 P) z z) (n (o388_3 P) z z)) (n (o196_2 P) (n (o324_3 P) z z) z)) (n (o100_1 P) (n (o164_1 P) (n (o292_3 P) z z) z) (n (o228_3 P) (n (o356_3 P) z z) z))) (n (o52_1 P) (n (o84_1 P) (n (o148_1 P) (n (o276_3 P) z z) z) (n (o212_3 P) (n (o340_3 P) z z) z)) (n (o116_1 P) (n (o180_1 P) (n (o308_3 P) z z) z) (n (o244_3 P) (n (o372_3 P) z z) z)))) (n (o28_1 P) (n (o44_1 P) (n (o76_1 P) (n (o140_1 P) (n (o268_3 P) z z) (n (o396_3 P) z z)) (n (o204_3 P) (n (o332_3 P) z z) z)) (n (o108_1 P) (n (o172_1 P) (n (o300_3 P) z z) z) (n (o236_3 P) (n (o364_3 P) z z) z))) (n (o60_1 P) (n (o92_1 P) (n (o156_1 P) (n (o284_3 P) z z) z) (n (o220_3 P) (n (o348_3 P) z z) z)) (n (o124_1 P) (n (o188_1 P) (n (o316_3 P) z z) z) (n (o252_3 P) (n (o380_3 P) z z) z)))))) (n (PySem.W.boot_o_6 P) (n (PySem.W.boot_o_10 P) (n (o18_1 P) (n (o34_1 P) (n (o66_1 P) (n (o130_1 P) (n (o258_3 P) z z) (n (o386_3 P) z z)) (n (o194_2 P) (n (o322_3 P) z z) z)) (n (o98_1 P) (n (o162_1 P) (n (o290_3 P) z z) z) (n (o226_3 P) (n (o354_3 P) z z) z))) (n (o50_1 P) (n (o82_1 P) (n (o146_1 P) (n (o274_3 P) z z) (n (o402_3 P) z z)) (n (o210_3 P) (n (o338_3 P) z z) z)) (n (o114_1 P) (n (o178_1 P) (n (o306_3 P) z z) z) (n (o242_3 P) (n (o370_3 P) z z) z)))) (n (o26_1 P) (n (o42_1 P) (n (o74_1 P) (n (o138_1 P) (n (o266_3 P) z z) (n (o394_3 P) z z)) (n (o202_3 P) (n (o330_3 P) z z) z)) (n (o106_1 P) (n (o170_1 P) (n (o298_3 P) z z) z) (n (o234_3 P) (n (o362_3 P) z z) z))) (n (o58_1 P) (n (o90_1 P) (n (o154_1 P) (n (o282_3 P) z z) z) (n (o218_3 P) (n (o346_3 P) z z) z)) (n (o122_1 P) (n (o186_1 P) (n (o314_3 P) z z) z) (n (o250_3 P) (n (o378_3 P) z z) z))))) (n (o14_0 P) (n (o22_1 P) (n (o38_1 P) (n (o70_1 P) (n (o134_1 P) (n (o262_3 P) z z) (n (o390_3 P) z z)) (n (o198_2 P) (n (o326_3 P) z z) z)) (n (o102_1 P) (n (o166_1 P) (n (o294_3 P) z z) z) (n (o230_3 P) (n (o358_3 P) z z) z))) (n (o54_1 P) (n (o86_1 P) (n (o150_1 P) (n (o278_3 P) z z) z) (n (o214_3 P) (n (o342_3 P) z z) z)) (n (o118_1 P) (n (o182_1 P) (n (o310_3 P) z z) z) (n (o246_3 P) (n (o374_3 P) z z) z)))) (n (o30_1 P) (n (o46_1 P) (n (o78_1 P) (n (o142_1 P) (n (o270_3 P) z z) (n (o398_3 P) z z)) (n (o206_3 P) (n (o334_3 P) z z) z)) (n (o110_1 P) (n (o174_1 P) (n (o302_3 P) z z) z) (n (o238_3 P) (n (o366_3 P) z z) z))) (n (o62_1 P) (n (o94_1 P) (n (o158_1 P) (n (o286_3 P) z z) z) (n (o222_3 P) (n (o350_3 P) z z) z)) (n (o126_1 P) (n (o190_1 P) (n (o318_3 P) z z) z) (n (o254_3 P) (n (o382_3 P) z z) z))))))))
def o3_5 (P : Params) : Obj := ⟨(T "dict"), none, (.dict [e P "__name__" 165 (s "law_dunnage_k08_yards_that_are_full" 852), e P "__doc__" 166 N, e P "__package__" 167 N, e P "__loader__" 168 (B "__main__.__loader__#opaque"), e P "__spec__" 169 N, e P "__annotations__" 170 (r 6), e P "__builtins__" 171 (r 4), e P "__file__" 173 (s "/claim/cut.py" 172), e P "__cached__" 174 N, e P "_wall" 193 (r 21), e P "YardError" 213 (r 31), e P "BadName" 229 (r 44), e P "Taken" 245 (r 56), e P "BadCourse" 261 (r 68), e P "BadPlace" 277 (r 80), e P "BadWeight" 293 (r 92), e P "Full" 309 (r 104), e P "Crowded" 325 (r 116), e P "NoThing" 341 (r 128), e P "InUse" 357 (r 140), e P "NoSack" 373 (r 152), e P "NoCord" 389 (r 164), e P "BadCord" 405 (r 176), e P "BadDeed" 421 (r 188), e P "LETTERS" 425 (s "abcdefghijklmnopqrstuvwxyz" 424), e P "LONGEST_NAME" 427 (i (8) 426), e P "FARTHEST_PLACE" 429 (i (1000000) 428), e P "HIGHEST_COURSE" 431 (i (9) 430), e P "GREATEST_WEIGHT" 433 (i (1000000000) 432), e P "DEED_THINGS" 477 (r 191), e P "check_form" 484 (r 207), e P "is_name" 490 (r 212), e P "is_number" 497 (r 219), e P "is_place" 504 (r 226), e P "is_course" 511 (r 233), e P "is_weight" 518 (r 240), e P "MOST_BOARDS" 522 (i (6) 521), e P "MOST_TRESTLES" 524 (i (6) 523), e P "MOST_SACKS" 526 (i (8) 525), e P "MOST_CORDS" 528 (i (4) 527), e P "BEAM" 530 (s "" 529), e P "BEAM_ROW" 536 (r 241), e P "check_new_name" 545 (r 248), e P "check_course" 552 (r 255), e P "check_places" 560 (r 262), e P "check_weight" 567 (r 269), e P "check_count" 575 (r 276), e P "check_room" 587 (r 283), e P "check_on_board" 595 (r 290), e P "board_row" 603 (r 297), e P "board_or_trestle_row" 611 (r 304), e P "sack_row" 619 (r 311), e P "cord_row" 627 (r 318), e P "check_no_cord" 636 (r 325), e P "check_no_sack" 645 (r 332), e P "set_trestle" 656 (r 339), e P "lay_board" 668 (r 346), e P "take_away" 676 (r 353), e P "shift_along" 689 (r 360), e P "shift_sacks" 699 (r 367), e P "set_sack" 710 (r 374), e P "move_sack" 721 (r 381), e P "lift_sack" 729 (r 388), e P "tie_cord" 742 (r 395), e P "cut_cord" 750 (r 402), e P "ACTIONS" 769 (r 403), e P "rows_by_names" 775 (r 408), e P "Yard" 851 (r 467), e P "_law_feed" 866 (r 478), e P "_law_same" 872 (r 483), e P "_law_names" 878 (r 488), e P "_law_is_name" 884 (r 493), e P "_law_model" 890 (r 500), e P "_law_thing" 898 (r 507), e P "_law_crowds" 911 (r 514), e P "_law_first" 920 (r 521), e P "_law_new_fault" 926 (r 526), e P "_law_lay_fault" 943 (r 533), e P "_law_corded" 949 (r 538), e P "_law_shift_fault" 955 (r 543), e P "_law_off" 964 (r 550), e P "_law_sack_fault" 977 (r 557), e P "_law_cord_fault" 983 (r 562), e P "_law_fault" 992 (r 569), e P "_law_step" 1008 (r 576), e P "_law_rows" 1014 (r 581), e P "_law_yard_is" 1020 (r 586), e P "_law_do" 1031 (r 593), e P "_law_kin" 1037 (r 598), e P "_law_turn" 1047 (r 605), e P "_law_filling" 1057 (r 612), e P "law" 1063 (r 617)].toArray 92), [].toArray⟩
def o12_5 (P : Params) : Obj := ⟨N, none, (.fields [(i (1) 0), (i (0) 0), (r 20), (i (5) 0), (i (0) 0), (r 27), (i (7) 0), (i (0) 0), (r 40), (i (9) 0), (i (0) 0), (r 52), (i (11) 0), (i (0) 0), (r 64), (i (13) 0), (i (0) 0), (r 76), (i (15) 0), (i (0) 0), (r 88), (i (17) 0), (i (0) 0), (r 100), (i (19) 0), (i (0) 0), (r 112), (i (21) 0), (i (0) 0), (r 124), (i (23) 0), (i (0) 0), (r 136), (i (25) 0), (i (0) 0), (r 148), (i (27) 0), (i (0) 0), (r 160), (i (29) 0), (i (0) 0), (r 172), (i (31) 0), (i (0) 0), (r 184), (i (40) 0), (i (0) 0), (r 206), (i (43) 0), (i (0) 0), (r 211), (i (45) 0), (i (0) 0), (r 218), (i (47) 0), (i (0) 0), (r 225), (i (49) 0), (i (0) 0), (r 232), (i (51) 0), (i (0) 0), (r 239), (i (60) 0), (i (0) 0), (r 247), (i (66) 0), (i (0) 0), (r 254), (i (69) 0), (i (0) 0), (r 261), (i (72) 0), (i (0) 0), (r 268), (i (75) 0), (i (0) 0), (r 275), (i (78) 0), (i (0) 0), (r 282), (i (84) 0), (i (0) 0), (r 289), (i (87) 0), (i (0) 0), (r 296), (i (91) 0), (i (0) 0), (r 303), (i (97) 0), (i (0) 0), (r 310), (i (101) 0), (i (0) 0), (r 317), (i (105) 0), (i (0) 0), (r 324), (i (109) 0), (i (0) 0), (r 331), (i (113) 0), (i (0) 0), (r 338), (i (122) 0), (i (0) 0), (r 345), (i (132) 0), (i (0) 0), (r 352), (i (140) 0), (i (0) 0), (r 359), (i (153) 0), (i (0) 0), (r 366), (i (157) 0), (i (0) 0), (r 373), (i (163) 0), (i (0) 0), (r 380), (i (167) 0), (i (0) 0), (r 387), (i (170) 0), (i (0) 0), (r 394), (i (180) 0), (i (0) 0), (r 401), (i (184) 0), (i (0) 0), (r 407), (i (186) 0), (i (0) 0), (r 414), (i (215) 0), (i (0) 0), (r 477), (i (231) 0), (i (0) 0), (r 482), (i (243) 0), (i (0) 0), (r 487), (i (252) 0), (i (0) 0), (r 492), (i (254) 0), (i (0) 0), (r 499), (i (256) 0), (i (0) 0), (r 506), (i (262) 0), (i (0) 0), (r 513), (i (268) 0), (i (0) 0), (r 520), (i (273) 0), (i (0) 0), (r 525), (i (278) 0), (i (0) 0), (r 532), (i (287) 0), (i (0) 0), (r 537), (i (289) 0), (i (0) 0), (r 542), (i (300) 0), (i (0) 0), (r 549), (i (302) 0), (i (0) 0), (r 556), (i (318) 0), (i (0) 0), (r 561), (i (331) 0), (i (0) 0), (r 568), (i (342) 0), (i (0) 0), (r 575), (i (368) 0), (i (0) 0), (r 580), (i (370) 0), (i (0) 0), (r 585), (i (373) 0), (i (0) 0), (r 592), (i (381) 0), (i (0) 0), (r 597), (i (389) 0), (i (0) 0), (r 604), (i (396) 0), (i (0) 0), (r 611), (i (404) 0), (i (0) 0), (r 616)].toArray), [].toArray⟩
def o404_5 (P : Params) : Obj := ⟨(T "tuple"), none, (.seq [].toArray 0), [].toArray⟩
def o405_5 (P : Params) : Obj := ⟨N, none, (.fields [].toArray), [].toArray⟩
def o406_5 (P : Params) : Obj := ⟨N, none, (.func (F "rows_by_names" "rows_by_names" (topS 60) 0 [] N N N N none N N 0)), [].toArray⟩
def o407_5 (P : Params) : Obj := ⟨(T "code"), none, (.fields [(s "rows_by_names" 770), (s "rows_by_names" 771), (s "/claim/cut.py" 772), (i (184) 0), (i (1) 0), (i (0) 0), (i (0) 0), (i (3) 0), (r 404), (.bool true), (i (181) 0), (r 405), N, N, N, (r 406), (i (773) 0), (i (184) 0), (s "/claim/cut.py" 774)].toArray), [].toArray⟩
def o408_5 (P : Params) : Obj := ⟨(T "function"), none, (.func (F "rows_by_names" "rows_by_names" (topS 60) 3 [] N N N (s "dunnage.yard" 519) none (r 407) N 0)), [].toArray⟩
def o409_5 (P : Params) : Obj := ⟨(T "tuple"), none, (.seq [].toArray 0), [].toArray⟩
def o410_5 (P : Params) : Obj := ⟨(T "builtin_function_or_method"), none, (.fields [(B "type.__prepare__"), (T "type")].toArray), [].toArray⟩
def o411_5 (P : Params) : Obj := ⟨(T "dict"), none, (.dict [e P "__module__" 783 (s "dunnage.yard" 519), e P "__qualname__" 785 (s "Yard" 784), e P "__firstlineno__" 787 (i (186) 786), e P "__init__" 794 (r 422), e P "do" 804 (r 429), e P "boards" 811 (r 436), e P "trestles" 818 (r 443), e P "sacks" 825 (r 450), e P "cords" 832 (r 457), e P "twin" 839 (r 464), e P "__static_attributes__" 844 (r 465)].toArray 11), [].toArray⟩
def o412_5 (P : Params) : Obj := ⟨(T "tuple"), none, (.seq [].toArray 0), [].toArray⟩
def o413_5 (P : Params) : Obj := ⟨N, none, (.fields [(i (188) 0), (i (4) 0), (r 421), (i (194) 0), (i (4) 0), (r 428), (i (200) 0), (i (4) 0), (r 435), (i (203) 0), (i (4) 0), (r 442), (i (206) 0), (i (4) 0), (r 449), (i (209) 0), (i (4) 0), (r 456), (i (212) 0), (i (4) 0), (r 463)].toArray), [].toArray⟩
def o414_5 (P : Params) : Obj := ⟨(T "code"), none, (.fields [(s "Yard" 778), (s "Yard" 779), (s "/claim/cut.py" 780), (i (186) 0), (i (0) 0), (i (0) 0), (i (0) 0), (i (0) 0), (r 412), (.bool false), (i (181) 0), (r 413), N, N, N, N, (i (781) 0), (i (186) 0), (s "/claim/cut.py" 782)].toArray), [].toArray⟩
def o415_5 (P : Params) : Obj := ⟨(T "frame"), none, .plain, [(some (r 414)), (some (r 3)), (some (r 411)), none, (some (s "dunnage.yard" 519)), none, (some (r 0))].toArray⟩
def o416_5 (P : Params) : Obj := ⟨(T "tuple"), none, (.seq [].toArray 0), [].toArray⟩
def o417_5 (P : Params) : Obj := ⟨N, none, (.fields [].toArray), [].toArray⟩
def o418_5 (P : Params) : Obj := ⟨(T "tuple"), none, (.seq [(s "self" 791)].toArray 0), [].toArray⟩
def o419_5 (P : Params) : Obj := ⟨(T "tuple"), none, (.seq [].toArray 0), [].toArray⟩
def o420_5 (P : Params) : Obj := ⟨N, none, (.func (F "__init__" "Yard.__init__" (inClass (topS 61) 0) 0 [] N N N N none N N 0)), [].toArray⟩
def o421_5 (P : Params) : Obj := ⟨(T "code"), none, (.fields [(s "__init__" 788), (s "Yard.__init__" 789), (s "/claim/cut.py" 790), (i (188) 0), (i (1) 0), (i (0) 0), (i (0) 0), (i (3) 0), (r 416), (.bool true), (i (181) 0), (r 417), N, (r 418), (r 419), (r 420), (i (792) 0), (i (188) 0), (s "/claim/cut.py" 793)].toArray), [].toArray⟩
def o422_5 (P : Params) : Obj := ⟨(T "function"), none, (.func (F "__init__" "Yard.__init__" (inClass (topS 61) 0) 3 [] N N N (s "dunnage.yard" 519) none (r 421) N 0)), [].toArray⟩
def o423_5 (P : Params) : Obj := ⟨(T "tuple"), none, (.seq [].toArray 0), [].toArray⟩
def o424_5 (P : Params) : Obj := ⟨N, none, (.fields [].toArray), [].toArray⟩
def o425_5 (P : Params) : Obj := ⟨(T "tuple"), none, (.seq [(s "self" 798), (s "deed" 799), (s "action" 800), (s "things" 801)].toArray 0), [].toArray⟩
def o426_5 (P : Params) : Obj := ⟨(T "tuple"), none, (.seq [].toArray 0), [].toArray⟩
def o427_5 (P : Params) : Obj := ⟨N, none, (.func (F "do" "Yard.do" (inClass (topS 61) 1) 0 [] N N N N none N N 0)), [].toArray⟩
def o428_5 (P : Params) : Obj := ⟨(T "code"), none, (.fields [(s "do" 795), (s "Yard.do" 796), (s "/claim/cut.py" 797), (i (194) 0), (i (2) 0), (i (0) 0), (i (0) 0), (i (3) 0), (r 423), (.bool true), (i (181) 0), (r 424), N, (r 425), (r 426), (r 427), (i (802) 0), (i (194) 0), (s "/claim/cut.py" 803)].toArray), [].toArray⟩
def o429_5 (P : Params) : Obj := ⟨(T "function"), none, (.func (F "do" "Yard.do" (inClass (topS 61) 1) 3 [] N N N (s "dunnage.yard" 519) none (r 428) N 0)), [].toArray⟩
def o430_5 (P : Params) : Obj := ⟨(T "tuple"), none, (.seq [].toArray 0), [].toArray⟩
def o431_5 (P : Params) : Obj := ⟨N, none, (.fields [].toArray), [].toArray⟩
def o432_5 (P : Params) : Obj := ⟨(T "tuple"), none, (.seq [(s "self" 808)].toArray 0), [].toArray⟩
def o433_5 (P : Params) : Obj := ⟨(T "tuple"), none, (.seq [].toArray 0), [].toArray⟩
def o434_5 (P : Params) : Obj := ⟨N, none, (.func (F "boards" "Yard.boards" (inClass (topS 61) 2) 0 [] N N N N none N N 0)), [].toArray⟩
def o435_5 (P : Params) : Obj := ⟨(T "code"), none, (.fields [(s "boards" 805), (s "Yard.boards" 806), (s "/claim/cut.py" 807), (i (200) 0), (i (1) 0), (i (0) 0), (i (0) 0), (i (3) 0), (r 430), (.bool true), (i (181) 0), (r 431), N, (r 432), (r 433), (r 434), (i (809) 0), (i (200) 0), (s "/claim/cut.py" 810)].toArray), [].toArray⟩
def o436_5 (P : Params) : Obj := ⟨(T "function"), none, (.func (F "boards" "Yard.boards" (inClass (topS 61) 2) 3 [] N N N (s "dunnage.yard" 519) none (r 435) N 0)), [].toArray⟩
def o437_5 (P : Params) : Obj := ⟨(T "tuple"), none, (.seq [].toArray 0), [].toArray⟩
def o438_5 (P : Params) : Obj := ⟨N, none, (.fields [].toArray), [].toArray⟩
def o439_5 (P : Params) : Obj := ⟨(T "tuple"), none, (.seq [(s "self" 815)].toArray 0), [].toArray⟩
def o440_5 (P : Params) : Obj := ⟨(T "tuple"), none, (.seq [].toArray 0), [].toArray⟩
def o441_5 (P : Params) : Obj := ⟨N, none, (.func (F "trestles" "Yard.trestles" (inClass (topS 61) 3) 0 [] N N N N none N N 0)), [].toArray⟩
def o442_5 (P : Params) : Obj := ⟨(T "code"), none, (.fields [(s "trestles" 812), (s "Yard.trestles" 813), (s "/claim/cut.py" 814), (i (203) 0), (i (1) 0), (i (0) 0), (i (0) 0), (i (3) 0), (r 437), (.bool true), (i (181) 0), (r 438), N, (r 439), (r 440), (r 441), (i (816) 0), (i (203) 0), (s "/claim/cut.py" 817)].toArray), [].toArray⟩
def o443_5 (P : Params) : Obj := ⟨(T "function"), none, (.func (F "trestles" "Yard.trestles" (inClass (topS 61) 3) 3 [] N N N (s "dunnage.yard" 519) none (r 442) N 0)), [].toArray⟩
def o444_5 (P : Params) : Obj := ⟨(T "tuple"), none, (.seq [].toArray 0), [].toArray⟩
def o445_5 (P : Params) : Obj := ⟨N, none, (.fields [].toArray), [].toArray⟩
def o446_5 (P : Params) : Obj := ⟨(T "tuple"), none, (.seq [(s "self" 822)].toArray 0), [].toArray⟩
def o447_5 (P : Params) : Obj := ⟨(T "tuple"), none, (.seq [].toArray 0), [].toArray⟩
def o448_5 (P : Params) : Obj := ⟨N, none, (.func (F "sacks" "Yard.sacks" (inClass (topS 61) 4) 0 [] N N N N none N N 0)), [].toArray⟩
def o449_5 (P : Params) : Obj := ⟨(T "code"), none, (.fields [(s "sacks" 819), (s "Yard.sacks" 820), (s "/claim/cut.py" 821), (i (206) 0), (i (1) 0), (i (0) 0), (i (0) 0), (i (3) 0), (r 444), (.bool true), (i (181) 0), (r 445), N, (r 446), (r 447), (r 448), (i (823) 0), (i (206) 0), (s "/claim/cut.py" 824)].toArray), [].toArray⟩
def o450_5 (P : Params) : Obj := ⟨(T "function"), none, (.func (F "sacks" "Yard.sacks" (inClass (topS 61) 4) 3 [] N N N (s "dunnage.yard" 519) none (r 449) N 0)), [].toArray⟩
def o451_5 (P : Params) : Obj := ⟨(T "tuple"), none, (.seq [].toArray 0), [].toArray⟩
def o452_5 (P : Params) : Obj := ⟨N, none, (.fields [].toArray), [].toArray⟩
def o453_5 (P : Params) : Obj := ⟨(T "tuple"), none, (.seq [(s "self" 829)].toArray 0), [].toArray⟩
def o454_5 (P : Params) : Obj := ⟨(T "tuple"), none, (.seq [].toArray 0), [].toArray⟩
def o455_5 (P : Params) : Obj := ⟨N, none, (.func (F "cords" "Yard.cords" (inClass (topS 61) 5) 0 [] N N N N none N N 0)), [].toArray⟩
def o456_5 (P : Params) : Obj := ⟨(T "code"), none, (.fields [(s "cords" 826), (s "Yard.cords" 827), (s "/claim/cut.py" 828), (i (209) 0), (i (1) 0), (i (0) 0), (i (0) 0), (i (3) 0), (r 451), (.bool true), (i (181) 0), (r 452), N, (r 453), (r 454), (r 455), (i (830) 0), (i (209) 0), (s "/claim/cut.py" 831)].toArray), [].toArray⟩
def o457_5 (P : Params) : Obj := ⟨(T "function"), none, (.func (F "cords" "Yard.cords" (inClass (topS 61) 5) 3 [] N N N (s "dunnage.yard" 519) none (r 456) N 0)), [].toArray⟩
def o458_5 (P : Params) : Obj := ⟨(T "tuple"), none, (.seq [].toArray 0), [].toArray⟩
def o459_5 (P : Params) : Obj := ⟨N, none, (.fields [].toArray), [].toArray⟩
def o460_5 (P : Params) : Obj := ⟨(T "tuple"), none, (.seq [(s "self" 836)].toArray 0), [].toArray⟩
def o461_5 (P : Params) : Obj := ⟨(T "tuple"), none, (.seq [].toArray 0), [].toArray⟩
def o462_5 (P : Params) : Obj := ⟨N, none, (.func (F "twin" "Yard.twin" (inClass (topS 61) 6) 0 [] N N N N none N N 0)), [].toArray⟩
def o463_5 (P : Params) : Obj := ⟨(T "code"), none, (.fields [(s "twin" 833), (s "Yard.twin" 834), (s "/claim/cut.py" 835), (i (212) 0), (i (1) 0), (i (0) 0), (i (0) 0), (i (3) 0), (r 458), (.bool true), (i (181) 0), (r 459), N, (r 460), (r 461), (r 462), (i (837) 0), (i (212) 0), (s "/claim/cut.py" 838)].toArray), [].toArray⟩
def o464_5 (P : Params) : Obj := ⟨(T "function"), none, (.func (F "twin" "Yard.twin" (inClass (topS 61) 6) 3 [] N N N (s "dunnage.yard" 519) none (r 463) N 0)), [].toArray⟩
def o465_5 (P : Params) : Obj := ⟨(T "tuple"), none, (.seq [(s "board_rows" 840), (s "cord_rows" 841), (s "sack_rows" 842), (s "trestle_rows" 843)].toArray 0), [].toArray⟩
def o466_5 (P : Params) : Obj := ⟨(T "dict"), none, (.dict [e P "__module__" 783 (s "dunnage.yard" 519), e P "__firstlineno__" 787 (i (186) 786), e P "__init__" 794 (r 422), e P "do" 804 (r 429), e P "boards" 811 (r 436), e P "trestles" 818 (r 443), e P "sacks" 825 (r 450), e P "cords" 832 (r 457), e P "twin" 839 (r 464), e P "__static_attributes__" 844 (r 465), e P "__dict__" 846 (r 468), e P "__weakref__" 848 (r 469), e P "__doc__" 849 N].toArray 4), [].toArray⟩
def o467_5 (P : Params) : Obj := ⟨(T "type"), none, (.cls ⟨(q "Yard"), [(T "object")], [(r 467), (T "object")], 466, (q "Yard"), true, [], [], false, none, false⟩), [none, none, (some (s "Yard" 776)), (some (s "Yard" 784)), (some (B "object.__new__")), (some (.bool true))].toArray⟩
def o468_5 (P : Params) : Obj := ⟨(T "getset_descriptor"), none, (.fields [(s "__dict__" 845), (r 467), (B "function.__dict__"), (B "function.__dict__#set")].toArray), [].toArray⟩
def o469_5 (P : Params) : Obj := ⟨(T "getset_descriptor"), none, (.fields [(s "__weakref__" 847), (r 467), (B "ExceptionGroup.__weakref__"), N].toArray), [].toArray⟩
def o470_5 (P : Params) : Obj := ⟨(T "super"), none, (.fields [(r 467), (r 467), (r 467)].toArray), [].toArray⟩
def o471_5 (P : Params) : Obj := ⟨(T "builtin_function_or_method"), none, (.fields [(B "object.__init_subclass__"), (r 467)].toArray), [].toArray⟩
def o472_5 (P : Params) : Obj := ⟨(T "tuple"), none, (.seq [].toArray 0), [].toArray⟩
def o473_5 (P : Params) : Obj := ⟨N, none, (.fields [].toArray), [].toArray⟩
def o474_5 (P : Params) : Obj := ⟨(T "tuple"), none, (.seq [(s "_law_script" 857), (s "_law_many" 858), (s "_law_feed_here" 859), (s "_law_salt" 860), (s "_law_cell" 861), (s "_law_rest" 862), (s "_law_k" 863)].toArray 0), [].toArray⟩
def o475_5 (P : Params) : Obj := ⟨(T "tuple"), none, (.seq [].toArray 0), [].toArray⟩
def o476_5 (P : Params) : Obj := ⟨N, none, (.func (F "_law_feed" "_law_feed" (topS 63) 0 [] N N N N none N N 0)), [].toArray⟩
def o477_5 (P : Params) : Obj := ⟨(T "code"), none, (.fields [(s "_law_feed" 854), (s "_law_feed" 855), (s "/claim/cut.py" 856), (i (215) 0), (i (2) 0), (i (0) 0), (i (0) 0), (i (3) 0), (r 472), (.bool true), (i (181) 0), (r 473), N, (r 474), (r 475), (r 476), (i (864) 0), (i (215) 0), (s "/claim/cut.py" 865)].toArray), [].toArray⟩
def o478_5 (P : Params) : Obj := ⟨(T "function"), none, (.func (F "_law_feed" "_law_feed" (topS 63) 3 [] N N N (s "law_dunnage_k08_yards_that_are_full" 852) none (r 477) N 0)), [].toArray⟩
def o479_5 (P : Params) : Obj := ⟨(T "tuple"), none, (.seq [].toArray 0), [].toArray⟩
def o480_5 (P : Params) : Obj := ⟨N, none, (.fields [].toArray), [].toArray⟩
def o481_5 (P : Params) : Obj := ⟨N, none, (.func (F "_law_same" "_law_same" (topS 64) 0 [] N N N N none N N 0)), [].toArray⟩
def o482_5 (P : Params) : Obj := ⟨(T "code"), none, (.fields [(s "_law_same" 867), (s "_law_same" 868), (s "/claim/cut.py" 869), (i (231) 0), (i (2) 0), (i (0) 0), (i (0) 0), (i (3) 0), (r 479), (.bool true), (i (181) 0), (r 480), N, N, N, (r 481), (i (870) 0), (i (231) 0), (s "/claim/cut.py" 871)].toArray), [].toArray⟩
def o483_5 (P : Params) : Obj := ⟨(T "function"), none, (.func (F "_law_same" "_law_same" (topS 64) 3 [] N N N (s "law_dunnage_k08_yards_that_are_full" 852) none (r 482) N 0)), [].toArray⟩
def o484_5 (P : Params) : Obj := ⟨(T "tuple"), none, (.seq [].toArray 0), [].toArray⟩
def o485_5 (P : Params) : Obj := ⟨N, none, (.fields [].toArray), [].toArray⟩
def o486_5 (P : Params) : Obj := ⟨N, none, (.func (F "_law_names" "_law_names" (topS 65) 0 [] N N N N none N N 0)), [].toArray⟩
def o487_5 (P : Params) : Obj := ⟨(T "code"), none, (.fields [(s "_law_names" 873), (s "_law_names" 874), (s "/claim/cut.py" 875), (i (243) 0), (i (2) 0), (i (0) 0), (i (0) 0), (i (3) 0), (r 484), (.bool true), (i (181) 0), (r 485), N, N, N, (r 486), (i (876) 0), (i (243) 0), (s "/claim/cut.py" 877)].toArray), [].toArray⟩
def o488_5 (P : Params) : Obj := ⟨(T "function"), none, (.func (F "_law_names" "_law_names" (topS 65) 3 [] N N N (s "law_dunnage_k08_yards_that_are_full" 852) none (r 487) N 0)), [].toArray⟩
def o489_5 (P : Params) : Obj := ⟨(T "tuple"), none, (.seq [].toArray 0), [].toArray⟩
def o490_5 (P : Params) : Obj := ⟨N, none, (.fields [].toArray), [].toArray⟩
def o491_5 (P : Params) : Obj := ⟨N, none, (.func (F "_law_is_name" "_law_is_name" (topS 66) 0 [] N N N N none N N 0)), [].toArray⟩
def o492_5 (P : Params) : Obj := ⟨(T "code"), none, (.fields [(s "_law_is_name" 879), (s "_law_is_name" 880), (s "/claim/cut.py" 881), (i (252) 0), (i (1) 0), (i (0) 0), (i (0) 0), (i (3) 0), (r 489), (.bool true), (i (181) 0), (r 490), N, N, N, (r 491), (i (882) 0), (i (252) 0), (s "/claim/cut.py" 883)].toArray), [].toArray⟩
def o493_5 (P : Params) : Obj := ⟨(T "function"), none, (.func (F "_law_is_name" "_law_is_name" (topS 66) 3 [] N N N (s "law_dunnage_k08_yards_that_are_full" 852) none (r 492) N 0)), [].toArray⟩
def o494_5 (P : Params) : Obj := ⟨(T "tuple"), none, (.seq [].toArray 0), [].toArray⟩
def o495_5 (P : Params) : Obj := ⟨N, none, (.fields [].toArray), [].toArray⟩
def o496_5 (P : Params) : Obj := ⟨(T "tuple"), none, (.seq [].toArray 0), [].toArray⟩
def o497_5 (P : Params) : Obj := ⟨(T "tuple"), none, (.seq [].toArray 0), [].toArray⟩
def o498_5 (P : Params) : Obj := ⟨N, none, (.func (F "_law_model" "_law_model" (topS 67) 0 [] N N N N none N N 0)), [].toArray⟩
def o499_5 (P : Params) : Obj := ⟨(T "code"), none, (.fields [(s "_law_model" 885), (s "_law_model" 886), (s "/claim/cut.py" 887), (i (254) 0), (i (0) 0), (i (0) 0), (i (0) 0), (i (3) 0), (r 494), (.bool true), (i (181) 0), (r 495), N, (r 496), (r 497), (r 498), (i (888) 0), (i (254) 0), (s "/claim/cut.py" 889)].toArray), [].toArray⟩
def o500_5 (P : Params) : Obj := ⟨(T "function"), none, (.func (F "_law_model" "_law_model" (topS 67) 3 [] N N N (s "law_dunnage_k08_yards_that_are_full" 852) none (r 499) N 0)), [].toArray⟩
def o501_5 (P : Params) : Obj := ⟨(T "tuple"), none, (.seq [].toArray 0), [].toArray⟩
def o502_5 (P : Params) : Obj := ⟨N, none, (.fields [].toArray), [].toArray⟩
def o503_5 (P : Params) : Obj := ⟨(T "tuple"), none, (.seq [(s "_law_m" 894), (s "_law_name" 895)].toArray 0), [].toArray⟩
def o504_5 (P : Params) : Obj := ⟨(T "tuple"), none, (.seq [].toArray 0), [].toArray⟩
def o505_5 (P : Params) : Obj := ⟨N, none, (.func (F "_law_thing" "_law_thing" (topS 68) 0 [] N N N N none N N 0)), [].toArray⟩
def o506_5 (P : Params) : Obj := ⟨(T "code"), none, (.fields [(s "_law_thing" 891), (s "_law_thing" 892), (s "/claim/cut.py" 893), (i (256) 0), (i (2) 0), (i (0) 0), (i (0) 0), (i (3) 0), (r 501), (.bool true), (i (181) 0), (r 502), N, (r 503), (r 504), (r 505), (i (896) 0), (i (256) 0), (s "/claim/cut.py" 897)].toArray), [].toArray⟩
def o507_5 (P : Params) : Obj := ⟨(T "function"), none, (.func (F "_law_thing" "_law_thing" (topS 68) 3 [] N N N (s "law_dunnage_k08_yards_that_are_full" 852) none (r 506) N 0)), [].toArray⟩
def o508_5 (P : Params) : Obj := ⟨(T "tuple"), none, (.seq [].toArray 0), [].toArray⟩
def o509_5 (P : Params) : Obj := ⟨N, none, (.fields [].toArray), [].toArray⟩
def o510_5 (P : Params) : Obj := ⟨(T "tuple"), none, (.seq [(s "_law_m" 902), (s "_law_name" 903), (s "_law_course" 904), (s "_law_left" 905), (s "_law_right" 906), (s "_law_other" 907), (s "_law_thing_here" 908)].toArray 0), [].toArray⟩
def o511_5 (P : Params) : Obj := ⟨(T "tuple"), none, (.seq [].toArray 0), [].toArray⟩
def o512_5 (P : Params) : Obj := ⟨N, none, (.func (F "_law_crowds" "_law_crowds" (topS 69) 0 [] N N N N none N N 0)), [].toArray⟩
def o513_5 (P : Params) : Obj := ⟨(T "code"), none, (.fields [(s "_law_crowds" 899), (s "_law_crowds" 900), (s "/claim/cut.py" 901), (i (262) 0), (i (5) 0), (i (0) 0), (i (0) 0), (i (3) 0), (r 508), (.bool true), (i (181) 0), (r 509), N, (r 510), (r 511), (r 512), (i (909) 0), (i (262) 0), (s "/claim/cut.py" 910)].toArray), [].toArray⟩
def o514_5 (P : Params) : Obj := ⟨(T "function"), none, (.func (F "_law_crowds" "_law_crowds" (topS 69) 3 [] N N N (s "law_dunnage_k08_yards_that_are_full" 852) none (r 513) N 0)), [].toArray⟩
def o515_5 (P : Params) : Obj := ⟨(T "tuple"), none, (.seq [].toArray 0), [].toArray⟩
def o516_5 (P : Params) : Obj := ⟨N, none, (.fields [].toArray), [].toArray⟩
def o517_5 (P : Params) : Obj := ⟨(T "tuple"), none, (.seq [(s "_law_pairs" 915), (s "_law_wrong" 916), (s "_law_word" 917)].toArray 0), [].toArray⟩
def o518_5 (P : Params) : Obj := ⟨(T "tuple"), none, (.seq [].toArray 0), [].toArray⟩
def o519_5 (P : Params) : Obj := ⟨N, none, (.func (F "_law_first" "_law_first" (topS 70) 0 [] N N N N none N N 0)), [].toArray⟩
def o520_5 (P : Params) : Obj := ⟨(T "code"), none, (.fields [(s "_law_first" 912), (s "_law_first" 913), (s "/claim/cut.py" 914), (i (268) 0), (i (1) 0), (i (0) 0), (i (0) 0), (i (3) 0), (r 515), (.bool true), (i (181) 0), (r 516), N, (r 517), (r 518), (r 519), (i (918) 0), (i (268) 0), (s "/claim/cut.py" 919)].toArray), [].toArray⟩
def o521_5 (P : Params) : Obj := ⟨(T "function"), none, (.func (F "_law_first" "_law_first" (topS 70) 3 [] N N N (s "law_dunnage_k08_yards_that_are_full" 852) none (r 520) N 0)), [].toArray⟩
def o522_5 (P : Params) : Obj := ⟨(T "tuple"), none, (.seq [].toArray 0), [].toArray⟩
def o523_5 (P : Params) : Obj := ⟨N, none, (.fields [].toArray), [].toArray⟩
def o524_5 (P : Params) : Obj := ⟨N, none, (.func (F "_law_new_fault" "_law_new_fault" (topS 71) 0 [] N N N N none N N 0)), [].toArray⟩
def o525_5 (P : Params) : Obj := ⟨(T "code"), none, (.fields [(s "_law_new_fault" 921), (s "_law_new_fault" 922), (s "/claim/cut.py" 923), (i (273) 0), (i (3) 0), (i (0) 0), (i (0) 0), (i (3) 0), (r 522), (.bool true), (i (181) 0), (r 523), N, N, N, (r 524), (i (924) 0), (i (273) 0), (s "/claim/cut.py" 925)].toArray), [].toArray⟩
def o526_5 (P : Params) : Obj := ⟨(T "function"), none, (.func (F "_law_new_fault" "_law_new_fault" (topS 71) 3 [] N N N (s "law_dunnage_k08_yards_that_are_full" 852) none (r 525) N 0)), [].toArray⟩
def o527_5 (P : Params) : Obj := ⟨(T "tuple"), none, (.seq [].toArray 0), [].toArray⟩
def o528_5 (P : Params) : Obj := ⟨N, none, (.fields [].toArray), [].toArray⟩
def o529_5 (P : Params) : Obj := ⟨(T "tuple"), none, (.seq [(s "_law_m" 930), (s "_law_deed" 931), (s "_law_name" 932), (s "_law_course" 933), (s "_law_left" 934), (s "_law_right" 935), (s "_law_least" 936), (s "_law_head" 937), (s "_law_full" 938), (s "_law_bad" 939), (s "_law_row" 940)].toArray 0), [].toArray⟩
def o530_5 (P : Params) : Obj := ⟨(T "tuple"), none, (.seq [].toArray 0), [].toArray⟩
def o531_5 (P : Params) : Obj := ⟨N, none, (.func (F "_law_lay_fault" "_law_lay_fault" (topS 72) 0 [] N N N N none N N 0)), [].toArray⟩
def o532_5 (P : Params) : Obj := ⟨(T "code"), none, (.fields [(s "_law_lay_fault" 927), (s "_law_lay_fault" 928), (s "/claim/cut.py" 929), (i (278) 0), (i (2) 0), (i (0) 0), (i (0) 0), (i (3) 0), (r 527), (.bool true), (i (181) 0), (r 528), N, (r 529), (r 530), (r 531), (i (941) 0), (i (278) 0), (s "/claim/cut.py" 942)].toArray), [].toArray⟩
def o533_5 (P : Params) : Obj := ⟨(T "function"), none, (.func (F "_law_lay_fault" "_law_lay_fault" (topS 72) 3 [] N N N (s "law_dunnage_k08_yards_that_are_full" 852) none (r 532) N 0)), [].toArray⟩
def o534_5 (P : Params) : Obj := ⟨(T "tuple"), none, (.seq [].toArray 0), [].toArray⟩
def o535_5 (P : Params) : Obj := ⟨N, none, (.fields [].toArray), [].toArray⟩
def o536_5 (P : Params) : Obj := ⟨N, none, (.func (F "_law_corded" "_law_corded" (topS 73) 0 [] N N N N none N N 0)), [].toArray⟩
def o537_5 (P : Params) : Obj := ⟨(T "code"), none, (.fields [(s "_law_corded" 944), (s "_law_corded" 945), (s "/claim/cut.py" 946), (i (287) 0), (i (2) 0), (i (0) 0), (i (0) 0), (i (3) 0), (r 534), (.bool true), (i (181) 0), (r 535), N, N, N, (r 536), (i (947) 0), (i (287) 0), (s "/claim/cut.py" 948)].toArray), [].toArray⟩
def o538_5 (P : Params) : Obj := ⟨(T "function"), none, (.func (F "_law_corded" "_law_corded" (topS 73) 3 [] N N N (s "law_dunnage_k08_yards_that_are_full" 852) none (r 537) N 0)), [].toArray⟩
def o539_5 (P : Params) : Obj := ⟨(T "tuple"), none, (.seq [].toArray 0), [].toArray⟩
def o540_5 (P : Params) : Obj := ⟨N, none, (.fields [].toArray), [].toArray⟩
def o541_5 (P : Params) : Obj := ⟨N, none, (.func (F "_law_shift_fault" "_law_shift_fault" (topS 74) 0 [] N N N N none N N 0)), [].toArray⟩
def o542_5 (P : Params) : Obj := ⟨(T "code"), none, (.fields [(s "_law_shift_fault" 950), (s "_law_shift_fault" 951), (s "/claim/cut.py" 952), (i (289) 0), (i (2) 0), (i (0) 0), (i (0) 0), (i (3) 0), (r 539), (.bool true), (i (181) 0), (r 540), N, N, N, (r 541), (i (953) 0), (i (289) 0), (s "/claim/cut.py" 954)].toArray), [].toArray⟩
def o543_5 (P : Params) : Obj := ⟨(T "function"), none, (.func (F "_law_shift_fault" "_law_shift_fault" (topS 74) 3 [] N N N (s "law_dunnage_k08_yards_that_are_full" 852) none (r 542) N 0)), [].toArray⟩
def o544_5 (P : Params) : Obj := ⟨(T "tuple"), none, (.seq [].toArray 0), [].toArray⟩
def o545_5 (P : Params) : Obj := ⟨N, none, (.fields [].toArray), [].toArray⟩
def o546_5 (P : Params) : Obj := ⟨(T "tuple"), none, (.seq [(s "_law_m" 959), (s "_law_board" 960), (s "_law_place" 961)].toArray 0), [].toArray⟩
def o547_5 (P : Params) : Obj := ⟨(T "tuple"), none, (.seq [].toArray 0), [].toArray⟩
def o548_5 (P : Params) : Obj := ⟨N, none, (.func (F "_law_off" "_law_off" (topS 75) 0 [] N N N N none N N 0)), [].toArray⟩
def o549_5 (P : Params) : Obj := ⟨(T "code"), none, (.fields [(s "_law_off" 956), (s "_law_off" 957), (s "/claim/cut.py" 958), (i (300) 0), (i (3) 0), (i (0) 0), (i (0) 0), (i (3) 0), (r 544), (.bool true), (i (181) 0), (r 545), N, (r 546), (r 547), (r 548), (i (962) 0), (i (300) 0), (s "/claim/cut.py" 963)].toArray), [].toArray⟩
def o550_5 (P : Params) : Obj := ⟨(T "function"), none, (.func (F "_law_off" "_law_off" (topS 75) 3 [] N N N (s "law_dunnage_k08_yards_that_are_full" 852) none (r 549) N 0)), [].toArray⟩
def o551_5 (P : Params) : Obj := ⟨(T "tuple"), none, (.seq [].toArray 0), [].toArray⟩
def o552_5 (P : Params) : Obj := ⟨N, none, (.fields [].toArray), [].toArray⟩
def o553_5 (P : Params) : Obj := ⟨(T "tuple"), none, (.seq [(s "_law_m" 968), (s "_law_deed" 969), (s "_law_row" 970), (s "_law_full" 971), (s "_law_word" 972), (s "_law_board" 973), (s "_law_place" 974)].toArray 0), [].toArray⟩
def o554_5 (P : Params) : Obj := ⟨(T "tuple"), none, (.seq [].toArray 0), [].toArray⟩
def o555_5 (P : Params) : Obj := ⟨N, none, (.func (F "_law_sack_fault" "_law_sack_fault" (topS 76) 0 [] N N N N none N N 0)), [].toArray⟩
def o556_5 (P : Params) : Obj := ⟨(T "code"), none, (.fields [(s "_law_sack_fault" 965), (s "_law_sack_fault" 966), (s "/claim/cut.py" 967), (i (302) 0), (i (2) 0), (i (0) 0), (i (0) 0), (i (3) 0), (r 551), (.bool true), (i (181) 0), (r 552), N, (r 553), (r 554), (r 555), (i (975) 0), (i (302) 0), (s "/claim/cut.py" 976)].toArray), [].toArray⟩
def o557_5 (P : Params) : Obj := ⟨(T "function"), none, (.func (F "_law_sack_fault" "_law_sack_fault" (topS 76) 3 [] N N N (s "law_dunnage_k08_yards_that_are_full" 852) none (r 556) N 0)), [].toArray⟩
def o558_5 (P : Params) : Obj := ⟨(T "tuple"), none, (.seq [].toArray 0), [].toArray⟩
def o559_5 (P : Params) : Obj := ⟨N, none, (.fields [].toArray), [].toArray⟩
def o560_5 (P : Params) : Obj := ⟨N, none, (.func (F "_law_cord_fault" "_law_cord_fault" (topS 77) 0 [] N N N N none N N 0)), [].toArray⟩
def o561_5 (P : Params) : Obj := ⟨(T "code"), none, (.fields [(s "_law_cord_fault" 978), (s "_law_cord_fault" 979), (s "/claim/cut.py" 980), (i (318) 0), (i (2) 0), (i (0) 0), (i (0) 0), (i (3) 0), (r 558), (.bool true), (i (181) 0), (r 559), N, N, N, (r 560), (i (981) 0), (i (318) 0), (s "/claim/cut.py" 982)].toArray), [].toArray⟩
def o562_5 (P : Params) : Obj := ⟨(T "function"), none, (.func (F "_law_cord_fault" "_law_cord_fault" (topS 77) 3 [] N N N (s "law_dunnage_k08_yards_that_are_full" 852) none (r 561) N 0)), [].toArray⟩
def o563_5 (P : Params) : Obj := ⟨(T "tuple"), none, (.seq [].toArray 0), [].toArray⟩
def o564_5 (P : Params) : Obj := ⟨N, none, (.fields [].toArray), [].toArray⟩
def o565_5 (P : Params) : Obj := ⟨(T "tuple"), none, (.seq [(s "_law_m" 987), (s "_law_deed" 988), (s "_law_counts" 989)].toArray 0), [].toArray⟩
def o566_5 (P : Params) : Obj := ⟨(T "tuple"), none, (.seq [].toArray 0), [].toArray⟩
def o567_5 (P : Params) : Obj := ⟨N, none, (.func (F "_law_fault" "_law_fault" (topS 78) 0 [] N N N N none N N 0)), [].toArray⟩
def o568_5 (P : Params) : Obj := ⟨(T "code"), none, (.fields [(s "_law_fault" 984), (s "_law_fault" 985), (s "/claim/cut.py" 986), (i (331) 0), (i (2) 0), (i (0) 0), (i (0) 0), (i (3) 0), (r 563), (.bool true), (i (181) 0), (r 564), N, (r 565), (r 566), (r 567), (i (990) 0), (i (331) 0), (s "/claim/cut.py" 991)].toArray), [].toArray⟩
def o569_5 (P : Params) : Obj := ⟨(T "function"), none, (.func (F "_law_fault" "_law_fault" (topS 78) 3 [] N N N (s "law_dunnage_k08_yards_that_are_full" 852) none (r 568) N 0)), [].toArray⟩
def o570_5 (P : Params) : Obj := ⟨(T "tuple"), none, (.seq [].toArray 0), [].toArray⟩
def o571_5 (P : Params) : Obj := ⟨N, none, (.fields [].toArray), [].toArray⟩
def o572_5 (P : Params) : Obj := ⟨(T "tuple"), none, (.seq [(s "_law_m" 996), (s "_law_deed" 997), (s "_law_new" 998), (s "_law_word" 999), (s "_law_kind" 1000), (s "_law_row" 1001), (s "_law_sack" 1002), (s "_law_board" 1003), (s "_law_place" 1004), (s "_law_weight" 1005)].toArray 0), [].toArray⟩
def o573_5 (P : Params) : Obj := ⟨(T "tuple"), none, (.seq [].toArray 0), [].toArray⟩
def o574_5 (P : Params) : Obj := ⟨N, none, (.func (F "_law_step" "_law_step" (topS 79) 0 [] N N N N none N N 0)), [].toArray⟩
def o575_5 (P : Params) : Obj := ⟨(T "code"), none, (.fields [(s "_law_step" 993), (s "_law_step" 994), (s "/claim/cut.py" 995), (i (342) 0), (i (2) 0), (i (0) 0), (i (0) 0), (i (3) 0), (r 570), (.bool true), (i (181) 0), (r 571), N, (r 572), (r 573), (r 574), (i (1006) 0), (i (342) 0), (s "/claim/cut.py" 1007)].toArray), [].toArray⟩
def o576_5 (P : Params) : Obj := ⟨(T "function"), none, (.func (F "_law_step" "_law_step" (topS 79) 3 [] N N N (s "law_dunnage_k08_yards_that_are_full" 852) none (r 575) N 0)), [].toArray⟩
def o577_5 (P : Params) : Obj := ⟨(T "tuple"), none, (.seq [].toArray 0), [].toArray⟩
def o578_5 (P : Params) : Obj := ⟨N, none, (.fields [].toArray), [].toArray⟩
def o579_5 (P : Params) : Obj := ⟨N, none, (.func (F "_law_rows" "_law_rows" (topS 80) 0 [] N N N N none N N 0)), [].toArray⟩
def o580_5 (P : Params) : Obj := ⟨(T "code"), none, (.fields [(s "_law_rows" 1009), (s "_law_rows" 1010), (s "/claim/cut.py" 1011), (i (368) 0), (i (1) 0), (i (0) 0), (i (0) 0), (i (3) 0), (r 577), (.bool true), (i (181) 0), (r 578), N, N, N, (r 579), (i (1012) 0), (i (368) 0), (s "/claim/cut.py" 1013)].toArray), [].toArray⟩
def o581_5 (P : Params) : Obj := ⟨(T "function"), none, (.func (F "_law_rows" "_law_rows" (topS 80) 3 [] N N N (s "law_dunnage_k08_yards_that_are_full" 852) none (r 580) N 0)), [].toArray⟩
def o582_5 (P : Params) : Obj := ⟨(T "tuple"), none, (.seq [].toArray 0), [].toArray⟩
def o583_5 (P : Params) : Obj := ⟨N, none, (.fields [].toArray), [].toArray⟩
def o584_5 (P : Params) : Obj := ⟨N, none, (.func (F "_law_yard_is" "_law_yard_is" (topS 81) 0 [] N N N N none N N 0)), [].toArray⟩
def o585_5 (P : Params) : Obj := ⟨(T "code"), none, (.fields [(s "_law_yard_is" 1015), (s "_law_yard_is" 1016), (s "/claim/cut.py" 1017), (i (370) 0), (i (2) 0), (i (0) 0), (i (0) 0), (i (3) 0), (r 582), (.bool true), (i (181) 0), (r 583), N, N, N, (r 584), (i (1018) 0), (i (370) 0), (s "/claim/cut.py" 1019)].toArray), [].toArray⟩
def o586_5 (P : Params) : Obj := ⟨(T "function"), none, (.func (F "_law_yard_is" "_law_yard_is" (topS 81) 3 [] N N N (s "law_dunnage_k08_yards_that_are_full" 852) none (r 585) N 0)), [].toArray⟩
def o587_5 (P : Params) : Obj := ⟨(T "tuple"), none, (.seq [].toArray 0), [].toArray⟩
def o588_5 (P : Params) : Obj := ⟨N, none, (.fields [].toArray), [].toArray⟩
def o589_5 (P : Params) : Obj := ⟨(T "tuple"), none, (.seq [(s "_law_yard" 1024), (s "_law_deed" 1025), (s "_law_word" 1026), (s "_law_said" 1027), (s "_law_e" 1028)].toArray 0), [].toArray⟩
def o590_5 (P : Params) : Obj := ⟨(T "tuple"), none, (.seq [].toArray 0), [].toArray⟩
def o591_5 (P : Params) : Obj := ⟨N, none, (.func (F "_law_do" "_law_do" (topS 82) 0 [] N N N N none N N 0)), [].toArray⟩
def o592_5 (P : Params) : Obj := ⟨(T "code"), none, (.fields [(s "_law_do" 1021), (s "_law_do" 1022), (s "/claim/cut.py" 1023), (i (373) 0), (i (2) 0), (i (0) 0), (i (0) 0), (i (3) 0), (r 587), (.bool true), (i (181) 0), (r 588), N, (r 589), (r 590), (r 591), (i (1029) 0), (i (373) 0), (s "/claim/cut.py" 1030)].toArray), [].toArray⟩
def o593_5 (P : Params) : Obj := ⟨(T "function"), none, (.func (F "_law_do" "_law_do" (topS 82) 3 [] N N N (s "law_dunnage_k08_yards_that_are_full" 852) none (r 592) N 0)), [].toArray⟩
def o594_5 (P : Params) : Obj := ⟨(T "tuple"), none, (.seq [].toArray 0), [].toArray⟩
def o595_5 (P : Params) : Obj := ⟨N, none, (.fields [].toArray), [].toArray⟩
def o596_5 (P : Params) : Obj := ⟨N, none, (.func (F "_law_kin" "_law_kin" (topS 83) 0 [] N N N N none N N 0)), [].toArray⟩
def o597_5 (P : Params) : Obj := ⟨(T "code"), none, (.fields [(s "_law_kin" 1032), (s "_law_kin" 1033), (s "/claim/cut.py" 1034), (i (381) 0), (i (1) 0), (i (0) 0), (i (0) 0), (i (3) 0), (r 594), (.bool true), (i (181) 0), (r 595), N, N, N, (r 596), (i (1035) 0), (i (381) 0), (s "/claim/cut.py" 1036)].toArray), [].toArray⟩
def o598_5 (P : Params) : Obj := ⟨(T "function"), none, (.func (F "_law_kin" "_law_kin" (topS 83) 3 [] N N N (s "law_dunnage_k08_yards_that_are_full" 852) none (r 597) N 0)), [].toArray⟩
def o599_5 (P : Params) : Obj := ⟨(T "tuple"), none, (.seq [].toArray 0), [].toArray⟩
def o600_5 (P : Params) : Obj := ⟨N, none, (.fields [].toArray), [].toArray⟩
def o601_5 (P : Params) : Obj := ⟨(T "tuple"), none, (.seq [(s "_law_yard" 1041), (s "_law_m" 1042), (s "_law_deed" 1043), (s "_law_word" 1044)].toArray 0), [].toArray⟩
def o602_5 (P : Params) : Obj := ⟨(T "tuple"), none, (.seq [].toArray 0), [].toArray⟩
def o603_5 (P : Params) : Obj := ⟨N, none, (.func (F "_law_turn" "_law_turn" (topS 84) 0 [] N N N N none N N 0)), [].toArray⟩
def o604_5 (P : Params) : Obj := ⟨(T "code"), none, (.fields [(s "_law_turn" 1038), (s "_law_turn" 1039), (s "/claim/cut.py" 1040), (i (389) 0), (i (3) 0), (i (0) 0), (i (0) 0), (i (3) 0), (r 599), (.bool true), (i (181) 0), (r 600), N, (r 601), (r 602), (r 603), (i (1045) 0), (i (389) 0), (s "/claim/cut.py" 1046)].toArray), [].toArray⟩
def o605_5 (P : Params) : Obj := ⟨(T "function"), none, (.func (F "_law_turn" "_law_turn" (topS 84) 3 [] N N N (s "law_dunnage_k08_yards_that_are_full" 852) none (r 604) N 0)), [].toArray⟩
def o606_5 (P : Params) : Obj := ⟨(T "tuple"), none, (.seq [].toArray 0), [].toArray⟩
def o607_5 (P : Params) : Obj := ⟨N, none, (.fields [].toArray), [].toArray⟩
def o608_5 (P : Params) : Obj := ⟨(T "tuple"), none, (.seq [(s "_law_kind" 1051), (s "_law_names_here" 1052), (s "_law_k" 1053), (s "_law_feed_here" 1054)].toArray 0), [].toArray⟩
def o609_5 (P : Params) : Obj := ⟨(T "tuple"), none, (.seq [].toArray 0), [].toArray⟩
def o610_5 (P : Params) : Obj := ⟨N, none, (.func (F "_law_filling" "_law_filling" (topS 85) 0 [] N N N N none N N 0)), [].toArray⟩
def o611_5 (P : Params) : Obj := ⟨(T "code"), none, (.fields [(s "_law_filling" 1048), (s "_law_filling" 1049), (s "/claim/cut.py" 1050), (i (396) 0), (i (4) 0), (i (0) 0), (i (0) 0), (i (3) 0), (r 606), (.bool true), (i (181) 0), (r 607), N, (r 608), (r 609), (r 610), (i (1055) 0), (i (396) 0), (s "/claim/cut.py" 1056)].toArray), [].toArray⟩
def o612_5 (P : Params) : Obj := ⟨(T "function"), none, (.func (F "_law_filling" "_law_filling" (topS 85) 3 [] N N N (s "law_dunnage_k08_yards_that_are_full" 852) none (r 611) N 0)), [].toArray⟩
def o613_5 (P : Params) : Obj := ⟨(T "tuple"), none, (.seq [].toArray 0), [].toArray⟩
def o614_5 (P : Params) : Obj := ⟨N, none, (.fields [].toArray), [].toArray⟩
def o615_5 (P : Params) : Obj := ⟨N, none, (.func (F "law" "law" (topS 86) 0 [] N N N N none N N 0)), [].toArray⟩
def o616_5 (P : Params) : Obj := ⟨(T "code"), none, (.fields [(s "law" 1058), (s "law" 1059), (s "/claim/cut.py" 1060), (i (404) 0), (i (1) 0), (i (0) 0), (i (0) 0), (i (3) 0), (r 613), (.bool true), (i (181) 0), (r 614), N, N, N, (r 615), (i (1061) 0), (i (404) 0), (s "/claim/cut.py" 1062)].toArray), [].toArray⟩
def o617_5 (P : Params) : Obj := ⟨(T "function"), none, (.func (F "law" "law" (topS 86) 3 [] N N N (s "law_dunnage_k08_yards_that_are_full" 852) none (r 616) N 0)), [].toArray⟩
def tree5 (P : Params) : PySem.W.BT := (n (PySem.W.boot_o_0 P) (n (PySem.W.boot_o_1 P) (n (o3_5 P) (n (PySem.W.boot_o_7 P) (n (o15_1 P) (n (o31_1 P) (n (o63_1 P) (n (o127_1 P) (n (o255_3 P) (n (o511_5 P) z z) z) (n (o383_3 P) z z)) (n (o191_2 P) (n (o319_3 P) (n (o575_5 P) z z) z) (n (o447_5 P) z z))) (n (o95_1 P) (n (o159_1 P) (n (o287_3 P) (n (o543_5 P) z z) z) (n (o415_5 P) z z)) (n (o223_3 P) (n (o351_3 P) (n (o607_5 P) z z) z) (n (o479_5 P) z z)))) (n (o47_1 P) (n (o79_1 P) (n (o143_1 P) (n (o271_3 P) (n (o527_5 P) z z) z) (n (o399_3 P) z z)) (n (o207_3 P) (n (o335_3 P) (n (o591_5 P) z z) z) (n (o463_5 P) z z))) (n (o111_1 P) (n (o175_1 P) (n (o303_3 P) (n (o559_5 P) z z) z) (n (o431_5 P) z z)) (n (o239_3 P) (n (o367_3 P) z z) (n (o495_5 P) z z))))) (n (o23_1 P) (n (o39_1 P) (n (o71_1 P) (n (o135_1 P) (n (o263_3 P) (n (o519_5 P) z z) z) (n (o391_3 P) z z)) (n (o199_2 P) (n (o327_3 P) (n (o583_5 P) z z) z) (n (o455_5 P) z z))) (n (o103_1 P) (n (o167_1 P) (n (o295_3 P) (n (o551_5 P) z z) z) (n (o423_5 P) z z)) (n (o231_3 P) (n (o359_3 P) (n (o615_5 P) z z) z) (n (o487_5 P) z z)))) (n (o55_1 P) (n (o87_1 P) (n (o151_1 P) (n (o279_3 P) (n (o535_5 P) z z) z) (n (o407_5 P) z z)) (n (o215_3 P) (n (o343_3 P) (n (o599_5 P) z z) z) (n (o471_5 P) z z))) (n (o119_1 P) (n (o183_1 P) (n (o311_3 P) (n (o567_5 P) z z) z) (n (o439_5 P) z z)) (n (o247_3 P) (n (o375_3 P) z z) (n (o503_5 P) z z)))))) (n (o11_0 P) (n (o19_1 P) (n (o35_1 P) (n (o67_1 P) (n (o131_1 P) (n (o259_3 P) (n (o515_5 P) z z) z) (n (o387_3 P) z z)) (n (o195_2 P) (n (o323_3 P) (n (o579_5 P) z z) z) (n (o451_5 P) z z))) (n (o99_1 P) (n (o163_1 P) (n (o291_3 P) (n (o547_5 P) z z) z) (n (o419_5 P) z z)) (n (o227_3 P) (n (o355_3 P) (n (o611_5 P) z z) z) (n (o483_5 P) z z)))) (n (o51_1 P) (n (o83_1 P) (n (o147_1 P) (n (o275_3 P) (n (o531_5 P) z z) z) (n (o403_4 P) z z)) (n (o211_3 P) (n (o339_3 P) (n (o595_5 P) z z) z) (n (o467_5 P) z z))) (n (o115_1 P) (n (o179_1 P) (n (o307_3 P) (n (o563_5 P) z z) z) (n (o435_5 P) z z)) (n (o243_3 P) (n (o371_3 P) z z) (n (o499_5 P) z z))))) (n (o27_1 P) (n (o43_1 P) (n (o75_1 P) (n (o139_1 P) (n (o267_3 P) (n (o523_5 P) z z) z) (n (o395_3 P) z z)) (n (o203_3 P) (n (o331_3 P) (n (o587_5 P) z z) z) (n (o459_5 P) z z))) (n (o107_1 P) (n (o171_1 P) (n (o299_3 P) (n (o555_5 P) z z) z) (n (o427_5 P) z z)) (n (o235_3 P) (n (o363_3 P) z z) (n (o491_5 P) z z)))) (n (o59_1 P) (n (o91_1 P) (n (o155_1 P) (n (o283_3 P) (n (o539_5 P) z z) z) (n (o411_5 P) z z)) (n (o219_3 P) (n (o347_3 P) (n (o603_5 P) z z) z) (n (o475_5 P) z z))) (n (o123_1 P) (n (o187_1 P) (n (o315_3 P) (n (o571_5 P) z z) z) (n (o443_5 P) z z)) (n (o251_3 P) (n (o379_3 P) z z) (n (o507_5 P) z z))))))) (n (PySem.W.boot_o_5 P) (n (PySem.W.boot_o_9 P) (n (o17_1 P) (n (o33_1 P) (n (o65_1 P) (n (o129_1 P) (n (o257_3 P) (n (o513_5 P) z z) z) (n (o385_3 P) z z)) (n (o193_2 P) (n (o321_3 P) (n (o577_5 P) z z) z) (n (o449_5 P) z z))) (n (o97_1 P) (n (o161_1 P) (n (o289_3 P) (n (o545_5 P) z z) z) (n (o417_5 P) z z)) (n (o225_3 P) (n (o353_3 P) (n (o609_5 P) z z) z) (n (o481_5 P) z z)))) (n (o49_1 P) (n (o81_1 P) (n (o145_1 P) (n (o273_3 P) (n (o529_5 P) z z) z) (n (o401_3 P) z z)) (n (o209_3 P) (n (o337_3 P) (n (o593_5 P) z z) z) (n (o465_5 P) z z))) (n (o113_1 P) (n (o177_1 P) (n (o305_3 P) (n (o561_5 P) z z) z) (n (o433_5 P) z z)) (n (o241_3 P) (n (o369_3 P) z z) (n (o497_5 P) z z))))) (n (o25_1 P) (n (o41_1 P) (n (o73_1 P) (n (o137_1 P) (n (o265_3 P) (n (o521_5 P) z z) z) (n (o393_3 P) z z)) (n (o201_3 P) (n (o329_3 P) (n (o585_5 P) z z) z) (n (o457_5 P) z z))) (n (o105_1 P) (n (o169_1 P) (n (o297_3 P) (n (o553_5 P) z z) z) (n (o425_5 P) z z)) (n (o233_3 P) (n (o361_3 P) (n (o617_5 P) z z) z) (n (o489_5 P) z z)))) (n (o57_1 P) (n (o89_1 P) (n (o153_1 P) (n (o281_3 P) (n (o537_5 P) z z) z) (n (o409_5 P) z z)) (n (o217_3 P) (n (o345_3 P) (n (o601_5 P) z z) z) (n (o473_5 P) z z))) (n (o121_1 P) (n (o185_1 P) (n (o313_3 P) (n (o569_5 P) z z) z) (n (o441_5 P) z z)) (n (o249_3 P) (n (o377_3 P) z z) (n (o505_5 P) z z)))))) (n (o13_0 P) (n (o21_1 P) (n (o37_1 P) (n (o69_1 P) (n (o133_1 P) (n (o261_3 P) (n (o517_5 P) z z) z) (n (o389_3 P) z z)) (n (o197_2 P) (n (o325_3 P) (n (o581_5 P) z z) z) (n (o453_5 P) z z))) (n (o101_1 P) (n (o165_1 P) (n (o293_3 P) (n (o549_5 P) z z) z) (n (o421_5 P) z z)) (n (o229_3 P) (n (o357_3 P) (n (o613_5 P) z z) z) (n (o485_5 P) z z)))) (n (o53_1 P) (n (o85_1 P) (n (o149_1 P) (n (o277_3 P) (n (o533_5 P) z z) z) (n (o405_5 P) z z)) (n (o213_3 P) (n (o341_3 P) (n (o597_5 P) z z) z) (n (o469_5 P) z z))) (n (o117_1 P) (n (o181_1 P) (n (o309_3 P) (n (o565_5 P) z z) z) (n (o437_5 P) z z)) (n (o245_3 P) (n (o373_3 P) z z) (n (o501_5 P) z z))))) (n (o29_1 P) (n (o45_1 P) (n (o77_1 P) (n (o141_1 P) (n (o269_3 P) (n (o525_5 P) z z) z) (n (o397_3 P) z z)) (n (o205_3 P) (n (o333_3 P) (n (o589_5 P) z z) z) (n (o461_5 P) z z))) (n (o109_1 P) (n (o173_1 P) (n (o301_3 P) (n (o557_5 P) z z) z) (n (o429_5 P) z z)) (n (o237_3 P) (n (o365_3 P) z z) (n (o493_5 P) z z)))) (n (o61_1 P) (n (o93_1 P) (n (o157_1 P) (n (o285_3 P) (n (o541_5 P) z z) z) (n (o413_5 P) z z)) (n (o221_3 P) (n (o349_3 P) (n (o605_5 P) z z) z) (n (o477_5 P) z z))) (n (o125_1 P) (n (o189_1 P) (n (o317_3 P) (n (o573_5 P) z z) z) (n (o445_5 P) z z)) (n (o253_3 P) (n (o381_3 P) z z) (n (o509_5 P) z z)))))))) (n (PySem.W.boot_o_2 P) (n (PySem.W.boot_o_4 P) (n (PySem.W.boot_o_8 P) (n (o16_1 P) (n (o32_1 P) (n (o64_1 P) (n (o128_1 P) (n (o256_3 P) (n (o512_5 P) z z) z) (n (o384_3 P) z z)) (n (o192_2 P) (n (o320_3 P) (n (o576_5 P) z z) z) (n (o448_5 P) z z))) (n (o96_1 P) (n (o160_1 P) (n (o288_3 P) (n (o544_5 P) z z) z) (n (o416_5 P) z z)) (n (o224_3 P) (n (o352_3 P) (n (o608_5 P) z z) z) (n (o480_5 P) z z)))) (n (o48_1 P) (n (o80_1 P) (n (o144_1 P) (n (o272_3 P) (n (o528_5 P) z z) z) (n (o400_3 P) z z)) (n (o208_3 P) (n (o336_3 P) (n (o592_5 P) z z) z) (n (o464_5 P) z z))) (n (o112_1 P) (n (o176_1 P) (n (o304_3 P) (n (o560_5 P) z z) z) (n (o432_5 P) z z)) (n (o240_3 P) (n (o368_3 P) z z) (n (o496_5 P) z z))))) (n (o24_1 P) (n (o40_1 P) (n (o72_1 P) (n (o136_1 P) (n (o264_3 P) (n (o520_5 P) z z) z) (n (o392_3 P) z z)) (n (o200_2 P) (n (o328_3 P) (n (o584_5 P) z z) z) (n (o456_5 P) z z))) (n (o104_1 P) (n (o168_1 P) (n (o296_3 P) (n (o552_5 P) z z) z) (n (o424_5 P) z z)) (n (o232_3 P) (n (o360_3 P) (n (o616_5 P) z z) z) (n (o488_5 P) z z)))) (n (o56_1 P) (n (o88_1 P) (n (o152_1 P) (n (o280_3 P) (n (o536_5 P) z z) z) (n (o408_5 P) z z)) (n (o216_3 P) (n (o344_3 P) (n (o600_5 P) z z) z) (n (o472_5 P) z z))) (n (o120_1 P) (n (o184_1 P) (n (o312_3 P) (n (o568_5 P) z z) z) (n (o440_5 P) z z)) (n (o248_3 P) (n (o376_3 P) z z) (n (o504_5 P) z z)))))) (n (o12_5 P) (n (o20_1 P) (n (o36_1 P) (n (o68_1 P) (n (o132_1 P) (n (o260_3 P) (n (o516_5 P) z z) z) (n (o388_3 P) z z)) (n (o196_2 P) (n (o324_3 P) (n (o580_5 P) z z) z) (n (o452_5 P) z z))) (n (o100_1 P) (n (o164_1 P) (n (o292_3 P) (n (o548_5 P) z z) z) (n (o420_5 P) z z)) (n (o228_3 P) (n (o356_3 P) (n (o612_5 P) z z) z) (n (o484_5 P) z z)))) (n (o52_1 P) (n (o84_1 P) (n (o148_1 P) (n (o276_3 P) (n (o532_5 P) z z) z) (n (o404_5 P) z z)) (n (o212_3 P) (n (o340_3 P) (n (o596_5 P) z z) z) (n (o468_5 P) z z))) (n (o116_1 P) (n (o180_1 P) (n (o308_3 P) (n (o564_5 P) z z) z) (n (o436_5 P) z z)) (n (o244_3 P) (n (o372_3 P) z z) (n (o500_5 P) z z))))) (n (o28_1 P) (n (o44_1 P) (n (o76_1 P) (n (o140_1 P) (n (o268_3 P) (n (o524_5 P) z z) z) (n (o396_3 P) z z)) (n (o204_3 P) (n (o332_3 P) (n (o588_5 P) z z) z) (n (o460_5 P) z z))) (n (o108_1 P) (n (o172_1 P) (n (o300_3 P) (n (o556_5 P) z z) z) (n (o428_5 P) z z)) (n (o236_3 P) (n (o364_3 P) z z) (n (o492_5 P) z z)))) (n (o60_1 P) (n (o92_1 P) (n (o156_1 P) (n (o284_3 P) (n (o540_5 P) z z) z) (n (o412_5 P) z z)) (n (o220_3 P) (n (o348_3 P) (n (o604_5 P) z z) z) (n (o476_5 P) z z))) (n (o124_1 P) (n (o188_1 P) (n (o316_3 P) (n (o572_5 P) z z) z) (n (o444_5 P) z z)) (n (o252_3 P) (n (o380_3 P) z z) (n (o508_5 P) z z))))))) (n (PySem.W.boot_o_6 P) (n (PySem.W.boot_o_10 P) (n (o18_1 P) (n (o34_1 P) (n (o66_1 P) (n (o130_1 P) (n (o258_3 P) (n (o514_5 P) z z) z) (n (o386_3 P) z z)) (n (o194_2 P) (n (o322_3 P) (n (o578_5 P) z z) z) (n (o450_5 P) z z))) (n (o98_1 P) (n (o162_1 P) (n (o290_3 P) (n (o546_5 P) z z) z) (n (o418_5 P) z z)) (n (o226_3 P) (n (o354_3 P) (n (o610_5 P) z z) z) (n (o482_5 P) z z)))) (n (o50_1 P) (n (o82_1 P) (n (o146_1 P) (n (o274_3 P) (n (o530_5 P) z z) z) (n (o402_3 P) z z)) (n (o210_3 P) (n (o338_3 P) (n (o594_5 P) z z) z) (n (o466_5 P) z z))) (n (o114_1 P) (n (o178_1 P) (n (o306_3 P) (n (o562_5 P) z z) z) (n (o434_5 P) z z)) (n (o242_3 P) (n (o370_3 P) z z) (n (o498_5 P) z z))))) (n (o26_1 P) (n (o42_1 P) (n (o74_1 P) (n (o138_1 P) (n (o266_3 P) (n (o522_5 P) z z) z) (n (o394_3 P) z z)) (n (o202_3 P) (n (o330_3 P) (n (o586_5 P) z z) z) (n (o458_5 P) z z))) (n (o106_1 P) (n (o170_1 P) (n (o298_3 P) (n (o554_5 P) z z) z) (n (o426_5 P) z z)) (n (o234_3 P) (n (o362_3 P) z z) (n (o490_5 P) z z)))) (n (o58_1 P) (n (o90_1 P) (n (o154_1 P) (n (o282_3 P) (n (o538_5 P) z z) z) (n (o410_5 P) z z)) (n (o218_3 P) (n (o346_3 P) (n (o602_5 P) z z) z) (n (o474_5 P) z z))) (n (o122_1 P) (n (o186_1 P) (n (o314_3 P) (n (o570_5 P) z z) z) (n (o442_5 P) z z)) (n (o250_3 P) (n (o378_3 P) z z) (n (o506_5 P) z z)))))) (n (o14_0 P) (n (o22_1 P) (n (o38_1 P) (n (o70_1 P) (n (o134_1 P) (n (o262_3 P) (n (o518_5 P) z z) z) (n (o390_3 P) z z)) (n (o198_2 P) (n (o326_3 P) (n (o582_5 P) z z) z) (n (o454_5 P) z z))) (n (o102_1 P) (n (o166_1 P) (n (o294_3 P) (n (o550_5 P) z z) z) (n (o422_5 P) z z)) (n (o230_3 P) (n (o358_3 P) (n (o614_5 P) z z) z) (n (o486_5 P) z z)))) (n (o54_1 P) (n (o86_1 P) (n (o150_1 P) (n (o278_3 P) (n (o534_5 P) z z) z) (n (o406_5 P) z z)) (n (o214_3 P) (n (o342_3 P) (n (o598_5 P) z z) z) (n (o470_5 P) z z))) (n (o118_1 P) (n (o182_1 P) (n (o310_3 P) (n (o566_5 P) z z) z) (n (o438_5 P) z z)) (n (o246_3 P) (n (o374_3 P) z z) (n (o502_5 P) z z))))) (n (o30_1 P) (n (o46_1 P) (n (o78_1 P) (n (o142_1 P) (n (o270_3 P) (n (o526_5 P) z z) z) (n (o398_3 P) z z)) (n (o206_3 P) (n (o334_3 P) (n (o590_5 P) z z) z) (n (o462_5 P) z z))) (n (o110_1 P) (n (o174_1 P) (n (o302_3 P) (n (o558_5 P) z z) z) (n (o430_5 P) z z)) (n (o238_3 P) (n (o366_3 P) z z) (n (o494_5 P) z z)))) (n (o62_1 P) (n (o94_1 P) (n (o158_1 P) (n (o286_3 P) (n (o542_5 P) z z) z) (n (o414_5 P) z z)) (n (o222_3 P) (n (o350_3 P) (n (o606_5 P) z z) z) (n (o478_5 P) z z))) (n (o126_1 P) (n (o190_1 P) (n (o318_3 P) (n (o574_5 P) z z) z) (n (o446_5 P) z z)) (n (o254_3 P) (n (o382_3 P) z z) (n (o510_5 P) z z)))))))))

abbrev prog : Program := R.prog
def body : List Stmt := behindTheImports prog
def envT : Env := { scope := prog.main.scope, locals := mainNs, globals := mainNs, cells := [], code := (r 13), frame := some 14 }
def cd : Code := .body body envT
def ann : Option Value := some (r 6)
abbrev fr : List Frame := [PySem.W.topFrame ⟨0, 0, 0, 0⟩]
def S0 (w : World) (os : OsState) : PySem.W.SharedT := ⟨tree0 w.params, 15, {}, #[], ⟨0, 0, 0, 0⟩, 187, os⟩
def S1 (w : World) (os : OsState) : PySem.W.SharedT := ⟨tree1 w.params, 191, {}, #[], ⟨0, 0, 0, 0⟩, 434, os⟩
def S2 (w : World) (os : OsState) : PySem.W.SharedT := ⟨tree2 w.params, 201, {}, #[], ⟨0, 0, 0, 0⟩, 478, os⟩
def S3 (w : World) (os : OsState) : PySem.W.SharedT := ⟨tree3 w.params, 403, {}, #[], ⟨0, 0, 0, 0⟩, 751, os⟩
def S4 (w : World) (os : OsState) : PySem.W.SharedT := ⟨tree4 w.params, 404, {}, #[], ⟨0, 0, 0, 0⟩, 770, os⟩
def S5 (w : World) (os : OsState) : PySem.W.SharedT := ⟨tree5 w.params, 618, {}, #[], ⟨0, 0, 0, 0⟩, 1064, os⟩
theorem pre (w : World) (os : OsState) : PySem.W.topGo treeTable prog w 11 ann 12 ⟨PySem.W.boot_heap w.params, Array.mk [], PySem.W.boot_drawn, PySem.W.boot_toks, os⟩ (PySem.W.topStub prog) = some ((S0 w os).abs, ⟨denote treeTable cd, cd, ⟨0, 0, 0, 0⟩, fr⟩) := by kernel_rfl
theorem block (w : World) (os : OsState) : PySem.W.segRun treeTable prog w 11 ann 1 1 (S0 w os).abs (PySem.W.blockOf body envT cd ⟨0, 0, 0, 0⟩ fr) = some (.next, (S0 w os).abs, cd, ⟨0, 0, 0, 0⟩) := by kernel_rfl
def l1 : List Stmt := (body.drop 0).take 22
theorem part1 (w : World) (os : OsState) : HX.seg (HandSHeadRun.stepQ (HandSHeadRun.denQ HandSHeadRun.tabQ) prog w) 11 ann 3048 (S0 w os) (PySem.W.piecesOf l1 envT cd ⟨0, 0, 0, 0⟩ fr) = some (S1 w os, cd, ⟨38, 0, 38, 15⟩) := by kernel_rfl
def l2 : List Stmt := (body.drop 22).take 1
theorem part2f (w : World) (os : OsState) : HX.seg (HandSHeadRun.stepQ (HandSHeadRun.denQ HandSHeadRun.tabQ) prog (w.withFollow "special-get-raises" false)) 11 ann 180 (S1 (w.withFollow "special-get-raises" false) os) (PySem.W.piecesOf l2 envT cd ⟨38, 0, 38, 15⟩ fr) = some (S2 (w.withFollow "special-get-raises" false) os, cd, ⟨39, 0, 39, 11⟩) := by kernel_rfl
theorem part2t (w : World) (os : OsState) : HX.seg (HandSHeadRun.stepQ (HandSHeadRun.denQ HandSHeadRun.tabQ) prog (w.withFollow "special-get-raises" true)) 11 ann 180 (S1 (w.withFollow "special-get-raises" true) os) (PySem.W.piecesOf l2 envT cd ⟨38, 0, 38, 15⟩ fr) = some (S2 (w.withFollow "special-get-raises" true) os, cd, ⟨39, 0, 39, 11⟩) := by kernel_rfl
theorem part2 (w : World) (os : OsState) : HX.seg (HandSHeadRun.stepQ (HandSHeadRun.denQ HandSHeadRun.tabQ) prog w) 11 ann 180 (S1 w os) (PySem.W.piecesOf l2 envT cd ⟨38, 0, 38, 15⟩ fr) = some (S2 w os, cd, ⟨39, 0, 39, 11⟩) := PySem.W.byRow2 "special-get-raises" (P := fun w => HX.seg (HandSHeadRun.stepQ (HandSHeadRun.denQ HandSHeadRun.tabQ) prog w) 11 ann 180 (S1 w os) (PySem.W.piecesOf l2 envT cd ⟨38, 0, 38, 15⟩ fr) = some (S2 w os, cd, ⟨39, 0, 39, 11⟩)) (fun w => part2f w os) (fun w => part2t w os) w
def l3 : List Stmt := (body.drop 23).take 36
theorem part3 (w : World) (os : OsState) : HX.seg (HandSHeadRun.stepQ (HandSHeadRun.denQ HandSHeadRun.tabQ) prog w) 11 ann 965 (S2 w os) (PySem.W.piecesOf l3 envT cd ⟨39, 0, 39, 11⟩ fr) = some (S3 w os, cd, ⟨180, 0, 182, 28⟩) := by kernel_rfl
def l4 : List Stmt := (body.drop 59).take 1
theorem part4f (w : World) (os : OsState) : HX.seg (HandSHeadRun.stepQ (HandSHeadRun.denQ HandSHeadRun.tabQ) prog (w.withFollow "special-get-raises" false)) 11 ann 155 (S3 (w.withFollow "special-get-raises" false) os) (PySem.W.piecesOf l4 envT cd ⟨180, 0, 182, 28⟩ fr) = some (S4 (w.withFollow "special-get-raises" false) os, cd, ⟨183, 0, 183, 7⟩) := by kernel_rfl
theorem part4t (w : World) (os : OsState) : HX.seg (HandSHeadRun.stepQ (HandSHeadRun.denQ HandSHeadRun.tabQ) prog (w.withFollow "special-get-raises" true)) 11 ann 155 (S3 (w.withFollow "special-get-raises" true) os) (PySem.W.piecesOf l4 envT cd ⟨180, 0, 182, 28⟩ fr) = some (S4 (w.withFollow "special-get-raises" true) os, cd, ⟨183, 0, 183, 7⟩) := by kernel_rfl
theorem part4 (w : World) (os : OsState) : HX.seg (HandSHeadRun.stepQ (HandSHeadRun.denQ HandSHeadRun.tabQ) prog w) 11 ann 155 (S3 w os) (PySem.W.piecesOf l4 envT cd ⟨180, 0, 182, 28⟩ fr) = some (S4 w os, cd, ⟨183, 0, 183, 7⟩) := PySem.W.byRow2 "special-get-raises" (P := fun w => HX.seg (HandSHeadRun.stepQ (HandSHeadRun.denQ HandSHeadRun.tabQ) prog w) 11 ann 155 (S3 w os) (PySem.W.piecesOf l4 envT cd ⟨180, 0, 182, 28⟩ fr) = some (S4 w os, cd, ⟨183, 0, 183, 7⟩)) (fun w => part4f w os) (fun w => part4t w os) w
def l5 : List Stmt := (body.drop 60).take 27
theorem part5 (w : World) (os : OsState) : HX.seg (HandSHeadRun.stepQ (HandSHeadRun.denQ HandSHeadRun.tabQ) prog w) 11 ann 1165 (S4 w os) (PySem.W.piecesOf l5 envT cd ⟨183, 0, 183, 7⟩ fr) = some (S5 w os, cd, ⟨404, 0, 425, 88⟩) := by kernel_rfl
theorem body_eq : body = (l1 ++ (l2 ++ (l3 ++ (l4 ++ (l5 ++ []))))) := by kernel_rfl
theorem fin (w : World) (os : OsState) : PySem.W.topRun treeTable prog w 11 ann 3 (S5 w os).abs ⟨PySem.W.doneF .next, cd, ⟨404, 0, 425, 88⟩, fr⟩ = some (S5 w os).abs := by kernel_rfl
theorem run (w : World) (os : OsState) : PySem.W.topRun treeTable prog w 11 ann 5529 ⟨PySem.W.boot_heap w.params, Array.mk [], PySem.W.boot_drawn, PySem.W.boot_toks, os⟩ (PySem.W.topStub prog) = some (S5 w os).abs := by
  have a : PySem.W.topRun treeTable prog w 11 ann _ (S0 w os).abs (PySem.W.restOf (l1 ++ (l2 ++ (l3 ++ (l4 ++ (l5 ++ []))))) envT cd ⟨0, 0, 0, 0⟩ fr) = some (S5 w os).abs := (HX.part (part1 w os) (HX.part (part2 w os) (HX.part (part3 w os) (HX.part (part4 w os) (HX.part (part5 w os) (PySem.W.piece_nil (fin w os)))))))
  rw [← body_eq] at a
  exact PySem.W.go_top (pre w os) (PySem.W.piece_block (block w os) a)
theorem looks (w : World) (os : OsState) : (PySem.W.staticsOk (importedModules prog.main.body) (PySem.W.boot_heap w.params) (S5 w os).abs.heap && PySem.W.namesBound prog (S5 w os).abs.heap && PySem.W.gensDone (S5 w os).abs && PySem.W.laidKept (PySem.W.boot_heap w.params) (S5 w os).abs.heap) = true := by kernel_rfl
theorem seenQ (w : World) (os : OsState) : HandSHeadRun.seenQ (PySem.W.view R.prog [86]) loose (importedModules prog.main.body) (fun s => PySem.W.xlAt (PySem.W.view R.prog [86]) [] s && PySem.W.recOk R.toRowW.records s) (S5 w os).abs = PySem.W.openGood (PySem.W.view R.prog [86]) loose := by kernel_rfl
def K0 (P : Params) : PySem.W.Frag := [(3, o3_5 P), (6, PySem.W.boot_o_6 P), (4, PySem.W.boot_o_4 P), (21, o21_1 P), (31, o31_1 P), (44, o44_1 P), (56, o56_1 P), (68, o68_1 P), (80, o80_1 P), (92, o92_1 P), (104, o104_1 P), (116, o116_1 P), (128, o128_1 P), (140, o140_1 P), (152, o152_1 P), (164, o164_1 P), (176, o176_1 P), (188, o188_1 P), (191, o191_2 P), (207, o207_3 P), (212, o212_3 P), (219, o219_3 P), (226, o226_3 P), (233, o233_3 P), (240, o240_3 P), (241, o241_3 P), (248, o248_3 P), (255, o255_3 P), (262, o262_3 P), (269, o269_3 P), (276, o276_3 P), (283, o283_3 P), (290, o290_3 P), (297, o297_3 P), (304, o304_3 P), (311, o311_3 P), (318, o318_3 P), (325, o325_3 P), (332, o332_3 P), (339, o339_3 P), (346, o346_3 P), (353, o353_3 P), (360, o360_3 P), (367, o367_3 P), (374, o374_3 P), (381, o381_3 P), (388, o388_3 P), (395, o395_3 P), (402, o402_3 P), (403, o403_4 P), (408, o408_5 P), (467, o467_5 P), (478, o478_5 P), (483, o483_5 P), (488, o488_5 P), (493, o493_5 P), (500, o500_5 P), (507, o507_5 P), (514, o514_5 P), (521, o521_5 P)]
def K1 (P : Params) : PySem.W.Frag := [(526, o526_5 P), (533, o533_5 P), (538, o538_5 P), (543, o543_5 P), (550, o550_5 P), (557, o557_5 P), (562, o562_5 P), (569, o569_5 P), (576, o576_5 P), (581, o581_5 P), (586, o586_5 P), (593, o593_5 P), (598, o598_5 P), (605, o605_5 P), (612, o612_5 P), (617, o617_5 P), (0, PySem.W.boot_o_0 P), (20, o20_1 P), (30, o30_1 P), (43, o43_1 P), (55, o55_1 P), (67, o67_1 P), (79, o79_1 P), (91, o91_1 P), (103, o103_1 P), (115, o115_1 P), (127, o127_1 P), (139, o139_1 P), (151, o151_1 P), (163, o163_1 P), (175, o175_1 P), (187, o187_1 P), (192, o192_2 P), (193, o193_2 P), (194, o194_2 P), (195, o195_2 P), (196, o196_2 P), (197, o197_2 P), (198, o198_2 P), (199, o199_2 P), (200, o200_2 P), (206, o206_3 P), (211, o211_3 P), (218, o218_3 P), (225, o225_3 P), (232, o232_3 P), (239, o239_3 P), (247, o247_3 P), (254, o254_3 P), (261, o261_3 P), (268, o268_3 P), (275, o275_3 P), (282, o282_3 P), (289, o289_3 P), (296, o296_3 P), (303, o303_3 P), (310, o310_3 P), (317, o317_3 P), (324, o324_3 P), (331, o331_3 P)]
def K2 (P : Params) : PySem.W.Frag := [(338, o338_3 P), (345, o345_3 P), (352, o352_3 P), (359, o359_3 P), (366, o366_3 P), (373, o373_3 P), (380, o380_3 P), (387, o387_3 P), (394, o394_3 P), (401, o401_3 P), (407, o407_5 P), (466, o466_5 P), (477, o477_5 P), (482, o482_5 P), (487, o487_5 P), (492, o492_5 P), (499, o499_5 P), (506, o506_5 P), (513, o513_5 P), (520, o520_5 P), (525, o525_5 P), (532, o532_5 P), (537, o537_5 P), (542, o542_5 P), (549, o549_5 P), (556, o556_5 P), (561, o561_5 P), (568, o568_5 P), (575, o575_5 P), (580, o580_5 P), (585, o585_5 P), (592, o592_5 P), (597, o597_5 P), (604, o604_5 P), (611, o611_5 P), (616, o616_5 P), (15, o15_1 P), (17, o17_1 P), (18, o18_1 P), (19, o19_1 P), (29, o29_1 P), (32, o32_1 P), (42, o42_1 P), (54, o54_1 P), (66, o66_1 P), (78, o78_1 P), (90, o90_1 P), (102, o102_1 P), (114, o114_1 P), (126, o126_1 P), (138, o138_1 P), (150, o150_1 P), (162, o162_1 P), (174, o174_1 P), (186, o186_1 P), (201, o201_3 P), (203, o203_3 P), (204, o204_3 P), (205, o205_3 P), (208, o208_3 P)]
def K3 (P : Params) : PySem.W.Frag := [(210, o210_3 P), (213, o213_3 P), (215, o215_3 P), (216, o216_3 P), (217, o217_3 P), (220, o220_3 P), (222, o222_3 P), (223, o223_3 P), (224, o224_3 P), (227, o227_3 P), (229, o229_3 P), (230, o230_3 P), (231, o231_3 P), (234, o234_3 P), (236, o236_3 P), (237, o237_3 P), (238, o238_3 P), (242, o242_3 P), (244, o244_3 P), (245, o245_3 P), (246, o246_3 P), (249, o249_3 P), (251, o251_3 P), (252, o252_3 P), (253, o253_3 P), (256, o256_3 P), (258, o258_3 P), (259, o259_3 P), (260, o260_3 P), (263, o263_3 P), (265, o265_3 P), (266, o266_3 P), (267, o267_3 P), (270, o270_3 P), (272, o272_3 P), (273, o273_3 P), (274, o274_3 P), (277, o277_3 P), (279, o279_3 P), (280, o280_3 P), (281, o281_3 P), (284, o284_3 P), (286, o286_3 P), (287, o287_3 P), (288, o288_3 P), (291, o291_3 P), (293, o293_3 P), (294, o294_3 P), (295, o295_3 P), (298, o298_3 P), (300, o300_3 P), (301, o301_3 P), (302, o302_3 P), (305, o305_3 P), (307, o307_3 P), (308, o308_3 P), (309, o309_3 P), (312, o312_3 P), (314, o314_3 P), (315, o315_3 P)]
def K4 (P : Params) : PySem.W.Frag := [(316, o316_3 P), (319, o319_3 P), (321, o321_3 P), (322, o322_3 P), (323, o323_3 P), (326, o326_3 P), (328, o328_3 P), (329, o329_3 P), (330, o330_3 P), (333, o333_3 P), (335, o335_3 P), (336, o336_3 P), (337, o337_3 P), (340, o340_3 P), (342, o342_3 P), (343, o343_3 P), (344, o344_3 P), (347, o347_3 P), (349, o349_3 P), (350, o350_3 P), (351, o351_3 P), (354, o354_3 P), (356, o356_3 P), (357, o357_3 P), (358, o358_3 P), (361, o361_3 P), (363, o363_3 P), (364, o364_3 P), (365, o365_3 P), (368, o368_3 P), (370, o370_3 P), (371, o371_3 P), (372, o372_3 P), (375, o375_3 P), (377, o377_3 P), (378, o378_3 P), (379, o379_3 P), (382, o382_3 P), (384, o384_3 P), (385, o385_3 P), (386, o386_3 P), (389, o389_3 P), (391, o391_3 P), (392, o392_3 P), (393, o393_3 P), (396, o396_3 P), (398, o398_3 P), (399, o399_3 P), (400, o400_3 P), (404, o404_5 P), (406, o406_5 P), (422, o422_5 P), (429, o429_5 P), (436, o436_5 P), (443, o443_5 P), (450, o450_5 P), (457, o457_5 P), (464, o464_5 P), (465, o465_5 P), (468, o468_5 P)]
def K5 (P : Params) : PySem.W.Frag := [(469, o469_5 P), (472, o472_5 P), (474, o474_5 P), (475, o475_5 P), (476, o476_5 P), (479, o479_5 P), (481, o481_5 P), (484, o484_5 P), (486, o486_5 P), (489, o489_5 P), (491, o491_5 P), (494, o494_5 P), (496, o496_5 P), (497, o497_5 P), (498, o498_5 P), (501, o501_5 P), (503, o503_5 P), (504, o504_5 P), (505, o505_5 P), (508, o508_5 P), (510, o510_5 P), (511, o511_5 P), (512, o512_5 P), (515, o515_5 P), (517, o517_5 P), (518, o518_5 P), (519, o519_5 P), (522, o522_5 P), (524, o524_5 P), (527, o527_5 P), (529, o529_5 P), (530, o530_5 P), (531, o531_5 P), (534, o534_5 P), (536, o536_5 P), (539, o539_5 P), (541, o541_5 P), (544, o544_5 P), (546, o546_5 P), (547, o547_5 P), (548, o548_5 P), (551, o551_5 P), (553, o553_5 P), (554, o554_5 P), (555, o555_5 P), (558, o558_5 P), (560, o560_5 P), (563, o563_5 P), (565, o565_5 P), (566, o566_5 P), (567, o567_5 P), (570, o570_5 P), (572, o572_5 P), (573, o573_5 P), (574, o574_5 P), (577, o577_5 P), (579, o579_5 P), (582, o582_5 P), (584, o584_5 P), (587, o587_5 P)]
def K6 (P : Params) : PySem.W.Frag := [(589, o589_5 P), (590, o590_5 P), (591, o591_5 P), (594, o594_5 P), (596, o596_5 P), (599, o599_5 P), (601, o601_5 P), (602, o602_5 P), (603, o603_5 P), (606, o606_5 P), (608, o608_5 P), (609, o609_5 P), (610, o610_5 P), (613, o613_5 P), (615, o615_5 P), (421, o421_5 P), (428, o428_5 P), (435, o435_5 P), (442, o442_5 P), (449, o449_5 P), (456, o456_5 P), (463, o463_5 P)]
def KZ (P : Params) : PySem.W.Frag := K0 P ++ (K1 P ++ (K2 P ++ (K3 P ++ (K4 P ++ (K5 P ++ (K6 P))))))
def ks : List Addr := [3, 6, 4, 21, 31, 44, 56, 68, 80, 92, 104, 116, 128, 140, 152, 164, 176, 188, 191, 207, 212, 219, 226, 233, 240, 241, 248, 255, 262, 269, 276, 283, 290, 297, 304, 311, 318, 325, 332, 339, 346, 353, 360, 367, 374, 381, 388, 395, 402, 403, 408, 467, 478, 483, 488, 493, 500, 507, 514, 521, 526, 533, 538, 543, 550, 557, 562, 569, 576, 581, 586, 593, 598, 605, 612, 617, 0, 20, 30, 43, 55, 67, 79, 91, 103, 115, 127, 139, 151, 163, 175, 187, 192, 193, 194, 195, 196, 197, 198, 199, 200, 206, 211, 218, 225, 232, 239, 247, 254, 261, 268, 275, 282, 289, 296, 303, 310, 317, 324, 331, 338, 345, 352, 359, 366, 373, 380, 387, 394, 401, 407, 466, 477, 482, 487, 492, 499, 506, 513, 520, 525, 532, 537, 542, 549, 556, 561, 568, 575, 580, 585, 592, 597, 604, 611, 616, 15, 17, 18, 19, 29, 32, 42, 54, 66, 78, 90, 102, 114, 126, 138, 150, 162, 174, 186, 201, 203, 204, 205, 208, 210, 213, 215, 216, 217, 220, 222, 223, 224, 227, 229, 230, 231, 234, 236, 237, 238, 242, 244, 245, 246, 249, 251, 252, 253, 256, 258, 259, 260, 263, 265, 266, 267, 270, 272, 273, 274, 277, 279, 280, 281, 284, 286, 287, 288, 291, 293, 294, 295, 298, 300, 301, 302, 305, 307, 308, 309, 312, 314, 315, 316, 319, 321, 322, 323, 326, 328, 329, 330, 333, 335, 336, 337, 340, 342, 343, 344, 347, 349, 350, 351, 354, 356, 357, 358, 361, 363, 364, 365, 368, 370, 371, 372, 375, 377, 378, 379, 382, 384, 385, 386, 389, 391, 392, 393, 396, 398, 399, 400, 404, 406, 422, 429, 436, 443, 450, 457, 464, 465, 468, 469, 472, 474, 475, 476, 479, 481, 484, 486, 489, 491, 494, 496, 497, 498, 501, 503, 504, 505, 508, 510, 511, 512, 515, 517, 518, 519, 522, 524, 527, 529, 530, 531, 534, 536, 539, 541, 544, 546, 547, 548, 551, 553, 554, 555, 558, 560, 563, 565, 566, 567, 570, 572, 573, 574, 577, 579, 582, 584, 587, 589, 590, 591, 594, 596, 599, 601, 602, 603, 606, 608, 609, 610, 613, 615, 421, 428, 435, 442, 449, 456, 463]
theorem ks_eq (P : Params) : (KZ P).map (fun x => x.1) = ks := by kernel_rfl
theorem a0 (w : World) : (fa0.all fun f => f.ok (KZ w.params)) = true := by kernel_rfl
theorem a1 (w : World) : (fa1.all fun f => f.ok (KZ w.params)) = true := by kernel_rfl
theorem a2 (w : World) : (fa2.all fun f => f.ok (KZ w.params)) = true := by kernel_rfl
theorem a3 (w : World) : (fa3.all fun f => f.ok (KZ w.params)) = true := by kernel_rfl
theorem a4 (w : World) : (fa4.all fun f => f.ok (KZ w.params)) = true := by kernel_rfl
theorem b0 (w : World) : (fn0.all fun d => d.ok (KZ w.params)) = true := by kernel_rfl
theorem c0 (w : World) : (fn0.map fun d => He.fnW (KZ w.params) d.at_) = fn0.map He.DefD.val := by kernel_rfl
theorem b1 (w : World) : (fn1.all fun d => d.ok (KZ w.params)) = true := by kernel_rfl
theorem c1 (w : World) : (fn1.map fun d => He.fnW (KZ w.params) d.at_) = fn1.map He.DefD.val := by kernel_rfl
theorem b2 (w : World) : (fn2.all fun d => d.ok (KZ w.params)) = true := by kernel_rfl
theorem c2 (w : World) : (fn2.map fun d => He.fnW (KZ w.params) d.at_) = fn2.map He.DefD.val := by kernel_rfl
theorem ts_ok (w : World) : (ts.map fun t => He.dicW (KZ w.params) (t.1 (KZ w.params))) = ts.map fun t => some (He.keysIn w.params t.2) := by kernel_rfl
theorem ex_ok (w : World) : ex (KZ w.params) = true := by kernel_rfl
theorem says (w : World) (h : Heap) : He.SaysX fa fn ts [] ex w h (KZ w.params) :=
  HX.says_of (show (fa.all fun f => f.ok (KZ w.params)) = true from (HX.all_app (HX.all_app (HX.all_app (HX.all_app (a0 w) (a1 w)) (a2 w)) (a3 w)) (a4 w))) (show (fn.all fun d => d.ok (KZ w.params)) = true from (HX.all_app (HX.all_app (b0 w) (b1 w)) (b2 w))) (show (fn.map fun d => He.fnW (KZ w.params) d.at_) = fn.map He.DefD.val from (HX.map_app (HX.map_app (c0 w) (c1 w)) (c2 w))) (ts_ok w) (ex_ok w)
abbrev hk : PySem.W.Hook := HX.hook fa fn ts ex KZ ks ks_eq says
theorem obs0 (w : World) (os : OsState) : ks.map (HandSHeadRun.getT (S5 w os)) = (KZ w.params).map fun x => some x.2 := by kernel_rfl
theorem obs (w : World) (os : OsState) : hk.obs (S5 w os).abs = hk.val w := HX.get_eq (obs0 w os)
theorem size (w : World) : ((PySem.W.boot_heap w.params).isNs mainGlobals && (Array.mk [] : Array GenState).size == 0, (PySem.W.boot_heap w.params).objs.size, (PySem.W.boot_heap w.params).nsMap mainGlobals "__annotations__") = (true, 11, ann) := by kernel_rfl
theorem left : PySem.W.LeftO R.prog (PySem.W.view R.prog [86]) loose (fun s => PySem.W.xlAt (PySem.W.view R.prog [86]) [] s && PySem.W.recOk R.toRowW.records s) hk.obs hk.val 6129 true :=
  PySem.W.LeftO.of_pieces (H₁ := fun P => PySem.W.absHeap (tree5 P) 618 {}) (gs₁ := #[]) (d₁ := ⟨0, 0, 0, 0⟩) (k₁ := 1064) (M := 5529)
    (PySem.W.boot_open (by kernel_rfl) (by decide) (fun s => by kernel_rfl)) size run (by decide)
    (fun w => funext fun os => Prod.ext (looks w os) (Prod.ext ((HandSHeadRun.seenQ_eq _ _ _ _ _).trans (seenQ w os)) (obs w os)))
end
end
end HD
end
/-! Walks over zip, and their comprehensions, within a def that is called while an exception is handled. -/
namespace DH
open PySem PySem.Spec PyProof.Rows L2 L2H HotX
section
variable {prog : Program} {w : World} {A : Around} {E : Value → Shared → Prop} {s : Shared}
theorem nextOf_hot {it l x1 : Addr} {i : Nat} {items : Array Value} {Q : Value → Shared → Prop} (hot : HotAt A x1 s.heap) (hne : x1 ≠ it)
    (hit : s.heap.IsListIter it l i) (hl : s.heap.IsList l items) (hx : items[i]? = none)
    (hE : ∀ h' e, Heap.ExtBut it s.heap h' → (∃ o, h'.get? e = some o ∧ o.cls = .type "StopIteration") → E (.ref e) { s with heap := h' }) :
    wpAny (model prog w) A (Builtin.SmallTypes.nextOf (.ref it)) Q E s := by
  obtain ⟨o, g1, c1, d1⟩ := id hit
  obtain ⟨ol, g2, _, nl, d2⟩ := hl
  obtain ⟨hh, ox, vx, gx, dx, cx⟩ := hot
  unfold Builtin.SmallTypes.nextOf
  refine wpAny_bind (wpAny_callSpecial?_slot (name := Str.ofString "__next__") hit.typeIs slot_listiter_next (wpAny_call_entry slot_listiter_next hit.typeIs entry_listiter_next ?_ (args_listiter_next _)))
  show wpAny _ _ (field (.ref it) 0 >>= _) _ _ s
  refine wpAny_bind (wpAny_field g1 d1 (x := .ref l) rfl ?_)
  show wpAny _ _ (if (Value.ref l == Value.none) = true then _ else _) _ _ s
  rw [if_neg (fun z => Bool.noConfusion z)]
  show wpAny _ _ (field (.ref it) 1 >>= _) _ _ s
  refine wpAny_bind (wpAny_field g1 d1 (x := .int i 0) rfl ?_)
  show wpAny _ _ (seqItems? (.ref l) >>= _) _ _ s
  refine wpAny_bind (wpAny_seqItems g2 d2 ?_)
  simp only [Int.toNat_natCast, hx]
  refine wpAny_bind (wpAny_rule (wpAny_bind (wpAny_setField g1 d1 (by simp) ?_)))
  show wpAny _ _ (newExc (.type "StopIteration") [] >>= _) _ _ _
  refine wpAny_bind ?_
  simp only [newExc, newTuple]
  refine wpAny_bind (wpAny_newObj_type ?_ (by size_fits))
  refine wpAny_bind (m := firstArgMember _ _) (wpAny_of_eq (a := Value.none) (by first | rfl | (simp only [firstArgMember]; rfl)) ?_)
  refine wpAny_newObj_type ?_ (by size_fits)
  have gx' := (Heap.get?_update_other s.heap (Obj.mapFields (·.setIfInBounds 0 Value.none)) (Ne.symm hne)).trans gx
  refine raiseNew_hot (x1 := x1) ⟨hh, ox, vx, Heap.get?_push_of_some _ (Heap.get?_push_of_some _ gx'), dx, cx⟩ (Nat.ne_of_lt (Heap.lt_size (Heap.get?_push_of_some _ gx'))) (Heap.get?_push_size _ rfl) rfl (by first | (simp; done) | (simp; omega) | (simp only [Array.size_append]; simp; omega)) ?_
  refine hE _ _ (fun b o hb g => ?_) ⟨_, Heap.get?_update_self _ (Heap.get?_push_size _ rfl) rfl, rfl⟩
  have g' := (Heap.get?_update_other s.heap (Obj.mapFields (·.setIfInBounds 0 Value.none)) (Ne.symm hb)).trans g
  rw [Heap.get?_update_other _ _ (Nat.ne_of_gt (Heap.lt_size (Heap.get?_push_of_some _ g')))]
  exact Heap.get?_push_of_some _ (Heap.get?_push_of_some _ g')
theorem zipNext_hot {z TI TO i1 i2 l1 l2 x1 : Addr} {k1 k2 : Nat} {xs ys : Array Value} {a b : Value} {Q : Fin → Shared → Prop} (hot : HotAt A x1 s.heap) (nz : x1 ≠ z) (nTO : x1 ≠ TO) (n1 : x1 ≠ i1) (n2 : x1 ≠ i2) (D : ZipApart z TI TO i1 i2 l1 l2)
    (hz : IsZip s.heap z TI TO .none) (hTI : IsPair s.heap TI (.ref i1) (.ref i2)) (hTO : IsPair s.heap TO a b)
    (h1 : s.heap.IsListIter i1 l1 k1) (h2 : s.heap.IsListIter i2 l2 k2) (hl1 : s.heap.IsList l1 xs) (hl2 : s.heap.IsList l2 ys) (hend : xs[k1]? = none ∨ ys[k2]? = none)
    (hE : ∀ h' e, (∀ c o, c ≠ z → c ≠ TO → c ≠ i1 → c ≠ i2 → s.heap.get? c = some o → h'.get? c = some o) → (∃ o, h'.get? e = some o ∧ o.cls = .type "StopIteration") → E (.ref e) { s with heap := h' }) :
    wpAny (model prog w) A (Builtin.«zip.__next__» ⟨[.ref z], []⟩) Q E s := by
  obtain ⟨hh, ox, vx, gx, dx, cx⟩ := hot
  show wpAny _ _ (field (.ref z) 2 >>= _) _ _ _
  refine wpAny_bind (wpAny_field hz rfl (x := .bool false) rfl ?_)
  show wpAny _ _ (field (.ref z) 3 >>= _) _ _ _
  refine wpAny_bind (wpAny_field hz rfl (x := .ref TI) rfl ?_)
  refine wpAny_bind (wpAny_seqItems hTI rfl ?_)
  show wpAny _ _ (Builtin.SmallTypes.ownedTupleIsFree (.ref z) >>= _) _ _ _
  refine wpAny_bind ?_
  unfold Builtin.SmallTypes.ownedTupleIsFree
  refine wpAny_bind (wpAny_field hz rfl (x := .none) rfl (wpAny_pure ?_))
  simp only [if_true]
  refine wpAny_bind (wpAny_rule ?_)
  refine wpAny_bind (wpAny_field hz rfl (x := .ref TO) rfl ?_)
  refine wpAny_bind (wpAny_setField_rec hz (by simp) fun ha za sa => ?_)
  replace za : IsZip ha z TI TO .ellipsis := za
  refine wpAny_bind ?_
  simp only [List.zipIdx_cons, List.zipIdx_nil, List.forIn_cons, List.forIn_nil]
  refine wpAny_bind (wpAny_bind (wpAny_onRaise ?_))
  show wpAny _ _ (Builtin.SmallTypes.nextOf (.ref i1) >>= _) _ _ _
  cases hx : xs[k1]? with
  | none =>
    refine wpAny_bind (nextOf_hot (x1 := x1) ⟨hh, ox, vx, sa.extBut _ _ nz gx, dx, cx⟩ n1 (h1.extBut sa.extBut D.i1z) (hl1.extBut sa.extBut D.l1z) hx fun hb e sb he => ?_)
    obtain ⟨oe, hoe, hce⟩ := he
    have zb : IsZip hb z TI TO .ellipsis := sb _ _ D.i1z.symm za
    have nez : e ≠ z := fun y => by
      rw [y, zb] at hoe
      cases hoe
      simp at hce
    refine wpAny_setField_rec zb (by simp) fun hc _ sc => hE hc e (fun c o c1 _ c3 _ y => ?_) ⟨oe, sc.extBut _ _ nez hoe, hce⟩
    exact sc.extBut _ _ c1 (sb _ _ c3 (sa.extBut _ _ c1 y))
  | some x =>
    have hy : ys[k2]? = none := by
      rcases hend with h | h
      · rw [hx] at h
        cases h
      · exact h
    refine wpAny_bind (wpAny_nextOf_list_item (h1.extBut sa.extBut D.i1z) (hl1.extBut sa.extBut D.l1z) hx fun hb i1b sb => wpAny_pure ?_)
    have TOb : IsPair hb TO a b := sb.extBut _ _ D.TOi1 (sa.extBut _ _ D.TOz hTO)
    refine wpAny_bind (wpAny_seqItems TOb rfl ?_)
    refine wpAny_bind (wpAny_updateSeq_pair TOb fun hc TOc sc => ?_)
    refine wpAny_bind (wpAny_letGo (wpAny_pure ?_))
    refine wpAny_bind (wpAny_bind (wpAny_onRaise ?_))
    show wpAny _ _ (Builtin.SmallTypes.nextOf (.ref i2) >>= _) _ _ _
    have gxc := sc.extBut _ _ nTO (sb.extBut _ _ n1 (sa.extBut _ _ nz gx))
    have i2c := ((h2.extBut sa.extBut D.i2z).extBut sb.extBut D.i12.symm).extBut sc.extBut D.TOi2.symm
    have l2c := ((hl2.extBut sa.extBut D.l2z).extBut sb.extBut D.l2i1).extBut sc.extBut D.l2TO
    refine wpAny_bind (nextOf_hot (x1 := x1) ⟨hh, ox, vx, gxc, dx, cx⟩ n2 i2c l2c hy fun hd e sd he => ?_)
    obtain ⟨oe, hoe, hce⟩ := he
    have zd : IsZip hd z TI TO .ellipsis := sd _ _ D.i2z.symm (sc.extBut _ _ D.TOz.symm (sb.extBut _ _ D.i1z.symm za))
    have nez : e ≠ z := fun y => by
      rw [y, zd] at hoe
      cases hoe
      simp at hce
    refine wpAny_setField_rec zd (by simp) fun hf _ sf => hE hf e (fun c o c1 c2 c3 c4 y => ?_) ⟨oe, sf.extBut _ _ nez hoe, hce⟩
    exact sf.extBut _ _ c1 (sd _ _ c4 (sc.extBut _ _ c2 (sb.extBut _ _ c3 (sa.extBut _ _ c1 y))))
theorem pyNextZip_hot {z TI TO i1 i2 l1 l2 x1 : Addr} {k1 k2 : Nat} {xs ys : Array Value} {a b : Value} {Q : Option Value → Shared → Prop} (hot : HotAt A x1 s.heap) (nz : x1 ≠ z) (nTO : x1 ≠ TO) (n1 : x1 ≠ i1) (n2 : x1 ≠ i2) (D : ZipApart z TI TO i1 i2 l1 l2)
    (hz : IsZip s.heap z TI TO .none) (hTI : IsPair s.heap TI (.ref i1) (.ref i2)) (hTO : IsPair s.heap TO a b)
    (h1 : s.heap.IsListIter i1 l1 k1) (h2 : s.heap.IsListIter i2 l2 k2) (hl1 : s.heap.IsList l1 xs) (hl2 : s.heap.IsList l2 ys) (hend : xs[k1]? = none ∨ ys[k2]? = none)
    (hQ : ∀ h', (∀ c o, c ≠ z → c ≠ TO → c ≠ i1 → c ≠ i2 → s.heap.get? c = some o → h'.get? c = some o) → Q none { s with heap := h' }) : wpAny (model prog w) A (pyNext (.ref z)) Q E s := by
  have tz : s.TypeIs (.ref z) "zip" := ⟨_, hz, rfl⟩
  unfold pyNext
  refine wpAny_bind (wpAny_attempt (wpAny_callSpecial?_slot (name := Str.ofString "__next__") tz F.slot_zip_next (wpAny_call_entry F.slot_zip_next tz F.entry_zip_next
    (zipNext_hot (x1 := x1) ⟨hot.1, hot.2⟩ nz nTO n1 n2 D hz hTI hTO h1 h2 hl1 hl2 hend fun h' e hk he => ?_) (F.args_zip_next_1 _))))
  obtain ⟨o, ho, hc⟩ := he
  refine wpAny_bind (wpAny_isInstance (T := "StopIteration") (b := true) ⟨o, ho, hc⟩ isSubtype_stop ?_)
  exact wpAny_pure (hQ _ hk)
/-! ### a tuple unpacked there -/
theorem tupEnd_hot {it t x1 : Addr} {i : Nat} {items : Array Value} {Q : Option Value → Shared → Prop} (hot : HotAt A x1 s.heap) (hne : x1 ≠ it)
    (hit : IsTupIter s.heap it t i) (ht : IsTup s.heap t items) (hx : items[i]? = none)
    (hQ : ∀ h', Heap.ExtBut it s.heap h' → Q none { s with heap := h' }) : wpAny (model prog w) A (pyNext (.ref it)) Q E s := by
  obtain ⟨o, g1, c1, d1⟩ := id hit
  obtain ⟨ol, g2, _, nl, d2⟩ := ht
  obtain ⟨hh, ox, vx, gx, dx, cx⟩ := hot
  unfold pyNext
  refine wpAny_bind (wpAny_attempt (wpAny_callSpecial?_slot (name := Str.ofString "__next__") hit.typeIs slot_tupleiter_next (wpAny_call_entry slot_tupleiter_next hit.typeIs entry_tupleiter_next ?_ (args_tupleiter_next _))))
  show wpAny _ _ (field (.ref it) 0 >>= _) _ _ s
  refine wpAny_bind (wpAny_field g1 d1 (x := .ref t) rfl ?_)
  show wpAny _ _ (if (Value.ref t == Value.none) = true then _ else _) _ _ s
  rw [if_neg (fun z => Bool.noConfusion z)]
  show wpAny _ _ (field (.ref it) 1 >>= _) _ _ s
  refine wpAny_bind (wpAny_field g1 d1 (x := .int i 0) rfl ?_)
  show wpAny _ _ (seqItems? (.ref t) >>= _) _ _ s
  refine wpAny_bind (wpAny_seqItems g2 d2 ?_)
  simp only [Int.toNat_natCast, hx]
  refine wpAny_bind (wpAny_rule (wpAny_bind (wpAny_setField g1 d1 (by simp) ?_)))
  show wpAny _ _ (newExc (.type "StopIteration") [] >>= _) _ _ _
  refine wpAny_bind ?_
  simp only [newExc, newTuple]
  refine wpAny_bind (wpAny_newObj_type ?_ (by size_fits))
  refine wpAny_bind (m := firstArgMember _ _) (wpAny_of_eq (a := Value.none) (by first | rfl | (simp only [firstArgMember]; rfl)) ?_)
  refine wpAny_newObj_type ?_ (by size_fits)
  have gx' := (Heap.get?_update_other s.heap (Obj.mapFields (·.setIfInBounds 0 Value.none)) (Ne.symm hne)).trans gx
  refine raiseNew_hot (x1 := x1) ⟨hh, ox, vx, Heap.get?_push_of_some _ (Heap.get?_push_of_some _ gx'), dx, cx⟩ (Nat.ne_of_lt (Heap.lt_size (Heap.get?_push_of_some _ gx'))) (Heap.get?_push_size _ rfl) rfl (by first | (simp; done) | (simp; omega) | (simp only [Array.size_append]; simp; omega)) ?_
  refine wpAny_bind (wpAny_isInstance (T := "StopIteration") (b := true) ⟨_, Heap.get?_update_self _ (Heap.get?_push_size _ rfl) rfl, rfl⟩ isSubtype_stop ?_)
  refine wpAny_pure (hQ _ fun b o hb g => ?_)
  have g' := (Heap.get?_update_other s.heap (Obj.mapFields (·.setIfInBounds 0 Value.none)) (Ne.symm hb)).trans g
  rw [Heap.get?_update_other _ _ (Nat.ne_of_gt (Heap.lt_size (Heap.get?_push_of_some _ g')))]
  exact Heap.get?_push_of_some _ (Heap.get?_push_of_some _ g')
theorem unpackItems_hot {t x1 : Addr} {items : Array Value} {Q : List Value → Shared → Prop} (hot : HotAt A x1 s.heap) (ht : IsTup s.heap t items)
    (hQ : ∀ h', Heap.ExtBut s.heap.objs.size s.heap h' → Q items.toList { s with heap := h' }) : wpAny (model prog w) A (unpackItems (.ref t) items.size none) Q E s := by
  have hlt : t ≠ s.heap.objs.size := by
    obtain ⟨o, ho, _⟩ := ht
    exact Nat.ne_of_lt (Heap.lt_size ho)
  obtain ⟨hh, ox, vx, gx, dx, cx⟩ := hot
  have hxl : x1 ≠ s.heap.objs.size := Nat.ne_of_lt (Heap.lt_size gx)
  unfold unpackItems
  refine wpAny_bind ?_
  unfold notIterableAtAll
  refine wpAny_bind (wpAny_specialOf ht.typeIs slot_tuple_iter.lookup ?_)
  refine wpAny_pure ?_
  simp only [Bool.false_eq_true, if_false]
  refine wpAny_bind (wpAny_holding (iter_tuple ht ?_))
  refine wpAny_bind (wpAny_holding (draw_tuple hlt items.size 0 _ _ ⟨_, Heap.get?_push_size _ rfl, rfl, rfl⟩ (ht.push _) (by omega) fun ha ia sa => ?_))
  have hall : List.take items.size (List.drop 0 items.toList) = items.toList := by
    rw [List.drop_zero]
    exact List.take_of_length_le (by simp)
  rw [hall, if_neg (by simp)]
  have ta : IsTup ha t items := (ht.push _).extBut sa.extBut hlt
  have gxa := sa.extBut _ _ hxl (Heap.get?_push_of_some _ gx)
  refine wpAny_bind (wpAny_holding (tupEnd_hot (x1 := x1) ⟨hh, ox, vx, gxa, dx, cx⟩ hxl ia ta (by simp) fun hb eb => ?_))
  simp only [Option.isSome_none, Bool.false_eq_true, if_false]
  exact wpAny_pure (hQ hb fun b o hn g => eb b o hn (sa.extBut b o hn (Heap.get?_push_of_some _ g)))
end
section
variable {X : Cx}
theorem pg_tupH {es : List Expr} {k : Nat} {t : TGs} {n : Nat} {pos : Pos} (hc : HotC X) (h : PGs X es t)
    (hn : (assignEach es X.env).length = n := by rfl) (hst : (assignEach es X.env).findIdx? (·.1) = none := by rfl) : PG X (.Tuple es k pos) (gTup X.K n t) := by
  refine ⟨fun pins s σ H v u Q I r hw => ?_⟩
  obtain ⟨a, xs, e1, hq, hl, hw⟩ := hw
  subst e1
  cases r
  obtain ⟨its, rv, ht, hz⟩ := I.tuple hq
  obtain ⟨x1, hot⟩ := hc.at I
  rw [assign_Tuple]
  refine wpAny_bind (wpAny_standAt ?_)
  unfold unpack
  rw [hst, show (assignEach es X.env).length = its.toArray.size by simp [hn, ← hl, rv.length]]
  refine wpAny_bind (wpAny_holding (unpackItems_hot hot ht fun h' hx => ?_))
  have I1 : Inv X pins σ H { s with heap := h' } := I.kept (t' := s.toks) fun b o g => hx b o (Nat.ne_of_lt (Heap.lt_size g)) g
  exact h.run pins _ σ H xs _ Q I1 (by simpa using rv) hw
end
end DH
namespace DH
open PySem PySem.Spec PyProof.Rows L2 L2H HotX
abbrev zt (a b z TI TO i1 i2 : Addr) : Nat → Heap → Prop := fun i h => IsZip h z TI TO .none ∧ IsPair h TI (.ref i1) (.ref i2) ∧ (∃ x y, IsPair h TO x y) ∧ h.IsListIter i1 a i ∧ h.IsListIter i2 b i
/-- the iterator's turns do not look at what is handled, but its end does -/
theorem turn_zipH {P : Program} {w : World} {K : PySem.W.Frag} {elts : List Expr} {kk : Nat} {tpos : Pos} {a b z TI TO i1 i2 : Addr} (D : ZipApart z TI TO i1 i2 a b) :
    TurnH P w K (.Tuple elts kk tpos) (Itz K a b) [z, TI, TO, i1, i2] z (zt a b z TI TO i1 i2) where
  mem := (turn_zip (P := P) (w := w) (K := K) (elts := elts) (kk := kk) (tpos := tpos) D).mem
  obj := (turn_zip (P := P) (w := w) (K := K) (elts := elts) (kk := kk) (tpos := tpos) D).obj
  keep := (turn_zip (P := P) (w := w) (K := K) (elts := elts) (kk := kk) (tpos := tpos) D).keep
  self := (turn_zip (P := P) (w := w) (K := K) (elts := elts) (kk := kk) (tpos := tpos) D).self
  item := by
    intro X hP hw hK hc i pins s σ H E I hf st hg
    subst hP hw hK
    obtain ⟨hz, hTI, ⟨x0, y0, hTO⟩, h1, h2⟩ := st
    obtain ⟨xs, ys, x, y, qx, qy, hx, hy⟩ := hg
    obtain ⟨its, rv, p, _⟩ := I.list qx
    obtain ⟨its2, rv2, p2, _⟩ := I.list qy
    obtain ⟨u, hu, ru⟩ := rv.get hx
    obtain ⟨u2, hu2, ru2⟩ := rv2.get hy
    have lz : z < s.heap.objs.size := Heap.lt_size hz
    refine wpAny_pyNext_zip_item D hz hTI hTO h1 h2 p.isList p2.isList (x := u) (y := u2) (by simpa using hu) (by simpa using hu2) fun ha za ta ia ja hT hsz hk => ?_
    refine ⟨_, rfl, wpAny_letOwnedTupleGo_zip (s := { s with heap := ha }) za fun hb zb sb => ?_⟩
    have tb : hb.get? s.heap.objs.size = some { cls := .type "tuple", data := .seq #[u, u2] } := (sb.2 _ (Nat.ne_of_gt lz)).trans hT
    have far : ∀ c o, c ∉ [z, TI, TO, i1, i2] → s.heap.get? c = some o → hb.get? c = some o := fun c o nc g => by
      have n1 : c ≠ z := fun e => nc (by simp [e])
      have n2 : c ≠ TO := fun e => nc (by simp [e])
      have n3 : c ≠ i1 := fun e => nc (by simp [e])
      have n4 : c ≠ i2 := fun e => nc (by simp [e])
      exact (sb.2 c n1).trans (hk c o n1 n2 n3 n4 g)
    have I1 : Inv X pins σ (upd H s.heap.objs.size (.tup [x, y])) { s with heap := hb } :=
      I.turnedNew (t' := s.toks) (ch := [z, TI, TO, i1, i2]) far hf (Nat.le_refl _) ⟨by show 2 ≤ sizeLine; decide, [u, u2], .cons ru (.cons ru2 .nil), ⟨_, tb, rfl, _, rfl⟩⟩
    refine ⟨.ref s.heap.objs.size, _, I1, rfl, ⟨_, x, y, rfl, I.hok.fresh (Nat.le_refl _), rfl, fun l hl => ?_, fun l hl => ?_⟩, ⟨zb, ?_, ⟨u, u2, ?_⟩, ?_, ?_⟩, fun c hcm => ?_⟩
    · rw [I.list_inj hl qx]
      exact hx
    · rw [I.list_inj hl qy]
      exact hy
    · exact (sb.2 _ D.TIz).trans (hk _ _ D.TIz D.TITO D.TIi1 D.TIi2 hTI)
    · exact (sb.2 _ D.TOz).trans ta
    · exact ia.at fun o q => (sb.2 _ D.i1z).trans q
    · exact ja.at fun o q => (sb.2 _ D.i2z).trans q
    · obtain ⟨oc, gc, _⟩ := (turn_zip (P := X.prog) (w := X.w) (K := X.K) (elts := elts) (kk := kk) (tpos := tpos) D).obj i s.heap ⟨hz, hTI, ⟨x0, y0, hTO⟩, h1, h2⟩ c hcm
      rw [upd_ne (Nat.ne_of_lt (Heap.lt_size gc))]
      exact (hf c hcm).1
  done := by
    intro X hP hw hK hc i pins s σ H E I hf st hg
    subst hP hw hK
    obtain ⟨hz, hTI, ⟨x0, y0, hTO⟩, h1, h2⟩ := st
    obtain ⟨xs, ys, qx, qy, hend⟩ := hg
    obtain ⟨its, rv, p, _⟩ := I.list qx
    obtain ⟨its2, rv2, p2, _⟩ := I.list qy
    have l1 := rv.length
    have l2 := rv2.length
    have he : its.toArray[i]? = none ∨ its2.toArray[i]? = none := by
      rcases hend with q | q
      · exact .inl (by simp; omega)
      · exact .inr (by simp; omega)
    obtain ⟨q, ⟨hh, v1, e1, c1⟩, hp⟩ := hc
    have hp' : q ∈ X.pn ++ pins := List.mem_append_left _ hp
    have far : ∀ b ∈ [z, TI, TO, i1, i2], q.1 ≠ b := fun b hb => (hf b hb).2.2.2.2.2 q hp'
    refine pyNextZip_hot (x1 := q.1) ⟨hh, q.2, v1, (I.pin q hp').1, e1, c1⟩ (far z (by simp)) (far TO (by simp)) (far i1 (by simp)) (far i2 (by simp)) D hz hTI hTO h1 h2 p.isList p2.isList he fun h' hk => ⟨rfl, ?_⟩
    refine I.turnedL (t' := s.toks) (ch := [z, TI, TO, i1, i2]) (fun c o nc g => ?_) hf
    exact hk c o (fun e => nc (by simp [e])) (fun e => nc (by simp [e])) (fun e => nc (by simp [e])) (fun e => nc (by simp [e])) g
section
variable {X : Cx}
theorem pi_zipH {e e2 : Expr} {ta : TA} {p pos tpos : Pos} {elts : List Expr} {kk : Nat} (hg : Gl X "zip") (hm : X.mg "zip" = none) (ha : PA X [e, e2] ta)
    (hs : starEach [e, e2] X.env = (false, eval e X.env) :: starEach [e2] X.env := by rfl) (hpl : (backTo pos (starEach [e2] X.env)).any (·.1) = false := by rfl) :
    PIH X (.Tuple elts kk tpos) (.Call (.Name "zip" p) [e, e2] [] pos) (iZip X.K ta) := by
  refine ⟨fun pins s σ H R I h => ?_⟩
  refine Call_ (ld_blt I hg hm PyProof.Rows.boot_zip (PyProof.Rows.callWith_type1 (thn (ha.run pos pins s σ H _ I h) fun us s1 ⟨vs, H1, I1, r1, q1⟩ => ?_) hs hpl))
  obtain ⟨a, b, xs, ys, rfl, qx, qy, q⟩ := q1
  cases r1 with
  | cons r rr =>
    cases rr with
    | cons r' rr =>
      cases rr
      cases r
      cases r'
      obtain ⟨its, rv, p1, _⟩ := I1.list qx
      obtain ⟨its2, rv2, p2, _⟩ := I1.list qy
      refine call_zip_2 p1.isList p2.isList fun hb hz hTI hTO h1 h2 hsz hk => wpAny_pyIter_zip hz ?_
      have I2 : Inv X pins σ H1 { s1 with heap := hb } := I1.kept (t' := s1.toks) hk
      refine ⟨_, [s1.heap.objs.size + 4, s1.heap.objs.size + 2, s1.heap.objs.size + 3, s1.heap.objs.size, s1.heap.objs.size + 1], _, _, H1, rfl, I2, turn_zipH (PySem.W.ktu_apart s1.heap.objs.size a b p1.lt p2.lt), ⟨hz, hTI, ⟨_, _, hTO⟩, h1, h2⟩, fun c hcm => ?_, q⟩
      have hle : s1.heap.objs.size ≤ c := by
        simp only [List.mem_cons, List.not_mem_nil, or_false] at hcm
        rcases hcm with z | z | z | z | z <;> rw [z] <;> first | exact Nat.le_add_right _ _ | exact Nat.le_refl _
      exact I1.fpOk hle (I1.hok.fresh hle)
/-- a block's context that keeps the pins -/
abbrev blkH (X : Cx) (s : Shared) (H : Hp) (scope : Scope) (cenv : Env) (fp : List Addr) : Cx := { X.blk s H scope cenv fp with pn := X.pn }
theorem okH {s : Shared} {H : Hp} {scope : Scope} {cenv : Env} {fp : List Addr} (k : (X.blk s H scope cenv fp).Ok) : (blkH X s H scope cenv fp).Ok :=
  ⟨k.mod, k.kind, k.glob, k.blt, k.above, k.inj, k.has, k.cab, k.hd, k.frames, k.stk, k.exf, k.bs, k.bsz, k.noex, k.exfs, k.funs, k.frf⟩
theorem invH {s s' : Shared} {H H' : Hp} {scope : Scope} {cenv : Env} {fp : List Addr} {σ : L2.St} (I : Inv (X.blk s H scope cenv fp) [] σ H' s')
    (h : ∀ p ∈ X.pn, s'.heap.get? p.1 = some p.2 ∧ H' p.1 = none ∧ p.1 ≠ cenv.locals ∧ p.1 ∉ frs X.stack ∧ ∀ v, p.2.data ≠ .cell v) : Inv (blkH X s H scope cenv fp) [] σ H' s' :=
  ⟨okH I.ok, I.os, I.bare, I.base, I.loc, I.cell, I.free, I.freeC, fun p hp => h p ((List.mem_append.mp hp).elim id fun z => nomatch z), I.hok, I.len⟩
end
end DH
namespace DH
open PySem PySem.Spec PyProof.Rows L2 L2H HotX
section
variable {X : Cx}
theorem thenF {α : Type} {m : Sem α} {P Q : α → Shared → Prop} {M : Model} {A : Around} {E : Value → Shared → Prop} {s : Shared} (h : wpAny M A m P (fun _ _ => False) s) (hQ : ∀ a s, P a s → Q a s) : wpAny M A m Q E s :=
  wpAny_mono h hQ fun _ _ z => False.elim z
/-- [elt for target in iter if ..] where an exception is handled -/
theorem pe_lcH {elt tg iter : Expr} {ifs : List Expr} {scope : Scope} {own : List (Str × Nat)} {pos : Pos} {wi : TI} {g : TG} {tt : TT} {te : TE} (hc : HotC X) (hN : X.N.Nodup) (hi : PIH X tg iter wi) (ok : BlkOk X.N X.env.scope scope own)
    (hg : ∀ (s : Shared) (H : Hp) (C : Addr) (cl : List (Str × Addr)) (fp : List Addr), PG (blkH X s H scope (compEnvC scope cl C X.env) fp) tg g)
    (ht : ∀ (s : Shared) (H : Hp) (C : Addr) (cl : List (Str × Addr)) (fp : List Addr), PTs (blkH X s H scope (compEnvC scope cl C X.env) fp) ifs tt)
    (he : ∀ (s : Shared) (H : Hp) (C : Addr) (cl : List (Str × Addr)) (fp : List Addr), PE (blkH X s H scope (compEnvC scope cl C X.env) fp) elt te)
    (hs : ∀ x, foldedSetIterable iter X.env x = pure x := by intro _; rfl) : PE X (.ListComp elt [⟨tg, iter, ifs, 0⟩] scope pos) (tLc wi g tt te (own.map (·.2))) := by
  refine ⟨fun pins s σ H Q I h => ?_⟩
  rw [eval_ListComp]
  have hfree : ∀ y ∈ scope.names, y.2 = .free → ∃ c, X.env.cells.lookup y.1 = some c := fun y hy e => (ok.free y hy e).elim (fun k => I.ok.has _ (.inl k)) fun k => I.ok.has _ (.inr k)
  refine wpAny_comprehension_free (use := none) rfl hs (closure_ok hfree) ok.kind (fun y hy e => by rw [ok.uniq y hy, e]) (thn (hi.run pins s σ H _ I h) fun xv s1 hx => thn hx fun itv s2 h2 => ?_)
  obtain ⟨it, fp, tn, J, H2, rfl, I2, T, st2, f2, q⟩ := h2
  refine wpAny_newObj_type (newEnv_comp ?_) (by show 0 ≤ sizeLine; decide)
  generalize eD : s2.heap.objs.size = D
  obtain ⟨W, ⟨m0, w0⟩, turn⟩ := q D (I2.hok.fresh (Nat.le_of_eq eD))
  generalize es3 : ({ s2 with heap := s2.heap.push { cls := .type "list", data := .seq ([] : List Value).toArray } } : Shared) = s3
  have up3 : ∀ b o, s2.heap.get? b = some o → s3.heap.get? b = some o := fun b o k => by
    rw [← es3]
    exact Heap.get?_push_of_some _ k
  have I3 : Inv X pins σ (upd H2 D (.lst [])) s3 := by
    rw [← es3]
    refine I2.laid (t' := s2.toks) (fun b o k => Heap.get?_push_of_some _ k) (Nat.le_of_eq eD) ⟨Nat.zero_le _, [], 0, .nil, ?_⟩
    rw [← eD]
    exact Heap.get?_push_size _ rfl
  have f3 : ∀ b ∈ fp, FpOk X pins (upd H2 D (.lst [])) b ∧ b < s3.heap.objs.size := fun b hb => by
    obtain ⟨o, k, _⟩ := T.obj _ _ st2 b hb
    refine ⟨⟨?_, (f2 b hb).2⟩, Heap.lt_size (up3 b o k)⟩
    rw [upd_ne (by rw [← eD]; exact Nat.ne_of_lt (Heap.lt_size k))]
    exact (f2 b hb).1
  have st3 : tn 0 s3.heap := T.keep _ _ _ st2 fun b _ o k => up3 b o k
  have B4 := block_start I3 ok hN f3
  generalize hcl : cellsFrom (s3.heap.objs.size + 1) scope.names (cloFrom X.env.cells scope.names []) = cl at B4
  have pg := hg s3 (upd H2 D (.lst [])) s3.heap.objs.size cl fp
  have pt := ht s3 (upd H2 D (.lst [])) s3.heap.objs.size cl fp
  have pe := he s3 (upd H2 D (.lst [])) s3.heap.objs.size cl fp
  have cL : (compEnvC scope cl s3.heap.objs.size X.env).locals = s3.heap.objs.size := rfl
  have up4 : ∀ b o, s3.heap.get? b = some o → (pushCells (s3.heap.push { cls := .type "dict", data := .dict #[] }) scope.names).get? b = some o := fun b o k => pushCells_keeps _ _ _ _ (Heap.get?_push_of_some _ k)
  have I4 := invH B4 fun p hp => by
    obtain ⟨k1, k2, k3, k4, k5⟩ := I3.pin p (List.mem_append_left _ hp)
    refine ⟨up4 _ _ k1, k2, Nat.ne_of_lt (Heap.lt_size k1), fun hm => ?_, k5⟩
    exact (List.mem_cons.mp (I3.stkSub p.1 hm)).elim k3 k4
  show codeAny _ _ (.compStart (.ListComp elt [⟨tg, iter, ifs, 0⟩] scope pos) 0 (.ref it) (.ref D) (compEnvC scope cl s3.heap.objs.size X.env)) (compPost (model X.prog X.w) X.A X.xe none (EP X pins σ Q) (.ref D) s3.heap.objs.size) { s3 with heap := pushCells (s3.heap.push { cls := .type "dict", data := .dict #[] }) scope.names }
  generalize hce : compEnvC scope cl s3.heap.objs.size X.env = ce at I4 pg pt pe cL ⊢
  have n3 : ∀ b ∈ fp, (upd H2 D (.lst [])) b = none := fun b hb => (f3 b hb).1.1
  generalize hH3 : upd H2 D (.lst []) = H3 at I3 I4 pg pt pe w0 n3 f3
  generalize hs4 : ({ s3 with heap := pushCells (s3.heap.push { cls := .type "dict", data := .dict #[] }) scope.names } : Shared) = s4 at I4 ⊢
  have st4 : tn 0 s4.heap := T.keep _ _ _ st3 fun b _ o k => by
    rw [← hs4]
    exact up4 b o k
  have hcB : HotC (blkH X s3 H3 scope ce fp) := hc
  have fpB : ∀ {σ' : L2.St} {H' : Hp} {s' : Shared}, Inv (blkH X s3 H3 scope ce fp) [] σ' H' s' → (∀ b ∈ fp, H' b = none) → ∀ b ∈ fp, FpOk (blkH X s3 H3 scope ce fp) [] H' b := fun {σ' H' s'} I' hn b hb =>
    ⟨hn b hb, (I'.ok.exf b hb).1, I'.ok.exfs b hb, .inl hb, fun x c k => (I'.ok.exf b hb).2 x c k, fun p hp => (f3 b hb).1.2.2.2.2.2 p (List.mem_append_left _ ((List.mem_append.mp hp).elim id fun z => nomatch z))⟩
  have loop : codeAny (model X.prog X.w) X.A (.compLoop (.ListComp elt [⟨tg, iter, ifs, 0⟩] scope pos) 0 (.ref it) (.ref D) ce) (compPost (model X.prog X.w) X.A X.xe none (EP X pins σ Q) (.ref D) s3.heap.objs.size) s4 := by
    refine compLoop_any (fun n s' => ∃ i H', Inv (blkH X s3 H3 scope ce fp) [] (wipe σ (own.map (·.2))) H' s' ∧ tn i s'.heap ∧ (∀ b ∈ fp, H' b = none) ∧ W i n H') ?_ m0 ⟨0, H3, I4, st4, n3, w0⟩
    rintro n s5 ⟨i, H5, I5, st5, n5, w5⟩
    rcases turn i n H5 w5 with ⟨stop, qq⟩ | ⟨go, Nx, hNx, step⟩
    · refine thenF (T.done (blkH X s3 H3 scope ce fp) rfl rfl rfl hcB i [] s5 _ H5 (fun _ _ => False) I5 (fpB I5 n5) st5 stop) fun r s6 ⟨hr, I6⟩ => ?_
      subst hr
      have I7 : Inv X pins σ H5 s6 := I3.call' (ch := fp) I6.os I6.base I6.hok I6.bare fun b hb => ⟨(f3 b hb).1.2.2.2.1, (f3 b hb).1.2.1, (f3 b hb).1.2.2.2.2.1, (f3 b hb).1.2.2.2.2.2⟩
      have nC : H5 s3.heap.objs.size = none := by
        have k : H5 ce.locals = none := I6.free
        rw [cL] at k
        exact k
      obtain ⟨m, hn, _⟩ := I6.loc
      replace hn : s6.heap.Ns ce.locals m := hn
      rw [cL] at hn
      obtain ⟨f0, f1, _, fa, fb, fc⟩ : FpOk X pins H5 s3.heap.objs.size := I3.fpOk (Nat.le_refl _) nC
      refine ⟨m, hn, fun h'' sb => ?_⟩
      exact ⟨.ref D, H5, I7.turned (t' := s6.toks) (fun b o hb k => (sb.2 b hb).trans k) f0 f1 fa fb fc, rfl, qq⟩
    · refine thenF (T.item (blkH X s3 H3 scope ce fp) rfl rfl rfl hcB i [] s5 _ H5 (fun _ _ => False) I5 (fpB I5 n5) st5 go) fun r s6 ⟨u, hr, h6⟩ => ?_
      subst hr
      refine thenF h6 fun _ s7 ⟨x, H7, I7, r7, y7, st7, n7⟩ => ?_
      have P7 := I7.pinned (fpB I7 n7) (T.obj _ _ st7)
      refine thenF (pg.run _ s7 _ H7 x u _ P7 r7 (step x H7 y7)) fun _ s8 ⟨σ8, H8, I8, hw8, q8⟩ => ?_
      refine thenF (pt.run _ s8 σ8 H8 _ I8 q8) fun b s9 ⟨H9, I9, q9⟩ => ?_
      have fin : ∀ {s' : Shared} {H' : Hp}, Inv (blkH X s3 H3 scope ce fp) ([] ++ pinsAt fp s7.heap) σ8 H' s' → Nx H' → ∃ m, m < n ∧ ∃ i H', Inv (blkH X s3 H3 scope ce fp) [] (wipe σ (own.map (·.2))) H' s' ∧ tn i s'.heap ∧ (∀ b ∈ fp, H' b = none) ∧ W i m H' := fun {s' H'} I' nx => by
        obtain ⟨m', hm, w'⟩ := hNx H' nx
        have keep : ∀ b ∈ fp, ∀ o, s7.heap.get? b = some o → s'.heap.get? b = some o ∧ H' b = none := fun b hb o k => by
          have z := I'.pin (b, o) (List.mem_append_right _ (List.mem_append_right _ (mem_pinsAt hb k)))
          exact ⟨z.1, z.2.1⟩
        refine ⟨m', hm, i + 1, H', (I'.unpinned (pins := [])).weak (by rw [← hw8, wipe_length]) (fun j v k => ?_), T.keep _ _ _ st7 fun b hb o k => (keep b hb o k).1, fun b hb => ?_, w'⟩
        · rw [← hw8] at k
          exact (wipe_some k).1
        · obtain ⟨o, k, _⟩ := T.obj _ _ st7 b hb
          exact (keep b hb o k).2
      cases b with
      | false =>
        simp only [Bool.false_eq_true, if_false] at q9 ⊢
        exact fin I9 q9
      | true =>
        simp only [if_true] at q9 ⊢
        refine thenF (pe.run _ s9 σ8 H9 _ I9 q9) fun z s10 ⟨yv, H10, I10, r10, acc, hD10, hz10, nx⟩ => ?_
        exact app_ok (X := blkH X s3 H3 scope ce fp) I10 hD10 hz10 r10 fun s11 I11 => fin I11 nx
  exact codeAny_compStart_list loop (T.self X.A 0 _ _ _ st4 loop)
end
end DH
namespace DH
open PySem PySem.Spec PyProof.Rows L2 L2H HotX
/-! ### a def that is handed the exception that is handled -/
structure FnE (P : Program) (w : World) (K : PySem.W.Frag) (mg : Str → Option Value) (base : Heap) (k : Nat) (f : Addr) (fd : FuncData) (ps : List Str) (sp : Addr → Addr → Sp) : Prop where
  len : ∀ a D vs H Q E, sp a D vs H Q E → vs.length = ps.length
  run : ∀ (A : Around) (outer : List Env) (s : Shared) (H : Hp) (us : List Value) (vs : List V) (Q : VK) (p : Addr × Obj) (D : Addr), RoomH k A → Hot1 A p → Zc (.ref D) none p.2 → PinOk outer H s p → Env0 P w K mg base A outer s H →
    BindsTo s fd ⟨us, []⟩ (ps.zip us) → Vals vs us → sp p.1 D vs H Q E0 → codeAny (model P w) A (.call (.ref f) ⟨us, []⟩) (CR CX0 outer P w H s Q E0) s
section
variable {P : Program} {w : World} {K : PySem.W.Frag} {mg : Str → Option Value} {base : Heap}
theorem fnE_of {x qual : Str} {st : Stmt} {f : Addr} {fd : FuncData} {N ps : List Str} {k : Nat} {sp : Addr → Addr → Sp} (F : Fun K x qual st f fd) (S : FnScope N ps (defScope st)) (len : ∀ a D vs H Q E, sp a D vs H Q E → vs.length = ps.length)
    (hbody : ∀ (cdv : Value) (A : Around) (outer : List Env) (s : Shared) (H : Hp) (vs : List V) (Q : VK) (p : Addr × Obj) (D : Addr), Hot1 A p → Zc (.ref D) none p.2 → RoomH k (A.deeper (envOfC qual (defScope st) s.heap.objs.size f cdv)) → sp p.1 D vs H Q E0 →
      ∃ t, PSs (cxH CX0 P w K mg base N qual (defScope st) f cdv A outer s H E0 p) (defBody st) t ∧ t { nx := fun _ H' => Q .non H', rt := Q } (L2.start N vs) H) : FnE P w K mg base (k + 1) f fd ps sp := by
  obtain ⟨oc, od, kV, doc, pm, an, cdv, ct, osl, rfl, lk, hcd⟩ := F.ex
  refine ⟨len, fun A outer s H us vs Q p D hr hot hz hpin e0 hb r hsp => ?_⟩
  have KX : K.In s.heap := e0.mod.kin.keeps fun b o g => (e0.bs b o g).1
  have lim : s.heap.NoLimit := e0.mod.nolimit.keeps fun b o g => (e0.bs b o g).1
  refine codeAny_call_function hr.depth (KX _ _ lk) rfl S.co S.gen rfl (PySem.W.codeRec_of KX hcd) (hb _ _ _ _ ?_)
  refine wpAny_newFunctionEnv_cells S.kind (fun ⟨n, v⟩ hy => ?_) fun env he s1 x => ?_
  · rcases S.par n (List.of_mem_zip hy).1 with q | q
    · exact .inl q
    · exact .inr ⟨q, PySem.W.cellsFrom_some _ _ _ (.inl q)⟩
  · subst he
    refine ⟨lim.keeps x.toInCall.keep, codeAny_func ?_⟩
    obtain ⟨t, ht, hq⟩ := hbody cdv A outer s H vs Q p D hot hz (hr.deeper _) hsp
    refine wpAny_mono (ht.run [] s1 (L2.start N vs) H _ (inv_startH S hpin e0 (len _ _ _ _ _ _ hsp) r x) hq) (fun fl s' hs => ?_) fun e s' hs => hs
    cases fl with
    | ret u =>
      obtain ⟨v, σ', H', J, rv, q⟩ := hs
      exact ⟨v, H', J.os, J.bare, J.base, J.hok, rv, q⟩
    | next =>
      obtain ⟨σ', H', J, q⟩ := hs
      exact ⟨V.non, H', J.os, J.bare, J.base, J.hok, rfl, q⟩
    | brk =>
      obtain ⟨_, _, _, q⟩ := hs
      exact False.elim q
    | cont =>
      obtain ⟨_, _, _, q⟩ := hs
      exact False.elim q
end
section
variable {X : Cx}
/-- isinstance(e, c), e the exception that is handled -/
theorem call_isP {p : Addr × Obj} {D : Addr} (hp : p ∈ X.pn) (C : ExcC X.K D) (hz : Zc (.ref D) none p.2) (hf : ∃ vs, p.2.data = .fields vs) : CallR X (.builtin "isinstance") (rIsE X.K D p.1) := by
  intro pins s σ H xs us Q I r h
  obtain ⟨c, cv, b, rfl, hcv, e, q⟩ := h
  obtain ⟨a, oe⟩ := p
  cases r with
  | cons rx rr =>
    cases rr with
    | cons rt rr =>
      cases rr
      cases rx
      cases hcv _ rt
      obtain ⟨hget, _⟩ := I.pin (a, oe) (List.mem_append_left _ hp)
      obtain ⟨vs, hv⟩ := hf
      have J : PySem.W.InstAt s.heap a oe D none := by
        obtain ⟨oc, od, oda, osl⟩ := oe
        obtain ⟨h1, h2⟩ := hz
        dsimp only at h1 h2 hv
        subst h1 h2 hv
        exact ⟨hget, rfl, rfl, trivial⟩
      refine PySem.W.kia_one (PySem.W.handS_kitx_exc C.hg C.hk C.hs C.hd C.ha C.hn C.ht C.hm) I.kIn J e (fun z => nomatch z) fun tk => ?_
      exact ⟨.bl b, H, I.kept (t' := tk) fun _ _ z => z, rfl, q⟩
/-- f(e) within the suite that holds the exception at a -/
theorem pe_callE {k : Nat} {f a : Addr} {oe : Obj} {pn : List (Addr × Obj)} {cls : Value} {d : Option Addr} {fd : FuncData} {ps : List Str} {sp : Addr → Addr → Sp} {x : Str} {q pos : Pos} {e : Expr} {te : TE} (F : FnE X.prog X.w X.K X.mg X.base k f fd ps sp) (hr : RoomH k X.A)
    (hz : L2N.Zn cls d oe) (hf : ∃ vs, oe.data = .fields vs) (hg : Gl X x) (hm : X.mg x = some (.ref f)) (hk : PySem.W.keepIn X.K (.ref f) = true) (hb : Binds X.K fd ps []) (he : PE (X.suite a ((a, oe) :: pn)) e te)
    (hdb : (x == ("__debug__" : Str)) = false := by decide) (hs : starEach [e] X.env = (false, eval e X.env) :: starEach [] X.env := by rfl) (hpl : (backTo pos (starEach [] X.env)).any (·.1) = false := by rfl) :
    PE (X.suite a ((a, oe) :: pn)) (.Call (.Name x q) [e] [] pos) (fun σ H Q => te σ H fun v H1 => ∃ D, cls = .ref D ∧ d = none ∧ sp a D [v] H1 Q E0) := by
  refine ⟨fun pins s σ H Q I h => ?_⟩
  refine wpAny_Call_Name_kw (ld_glob (X := X.suite a ((a, oe) :: pn)) I hg hm ?_ hdb)
  refine PySem.W.callWith_K (h₀ := X.base) I.ok.mod.kin hk ?_ hs hpl
  rw [hs]
  show wpAny _ _ (spliced ((false, eval e X.env) :: backTo pos (starEach [] X.env))) _ _ s
  refine Calls.spliced_cons (thn (he.run pins s σ H _ I h) fun u s1 ⟨v, H1, I1, rv, D, ec, ed, hsp⟩ => Calls.spliced_nil ⟨I1.kIn, ?_⟩)
  show wpAny _ _ (call (.ref f) [u]) _ _ _
  · subst ec ed
    have r : Vals [v] [u] := .cons rv .nil
    have pinA := I1.pin (a, oe) (List.mem_append_left _ List.mem_cons_self)
    obtain ⟨vs', hv⟩ := hf
    have hl : [u].length = ps.length := by
      rw [← r.length]
      exact F.len _ _ _ _ _ _ hsp
    have b := hb s1 [u] I1.kIn (by rw [List.append_nil]; exact hl)
    rw [List.append_nil] at b
    refine wpAny_call (codeAny_mono (F.run (X.A.mark (some (.ref a))) X.stack s1 H1 [u] [v] Q (a, oe) D ⟨hr.dp, hr.un⟩ ⟨rfl, vs', hv, hz.2.2 vs' hv⟩ hz.zc ⟨pinA.1, pinA.2.1, fun hm' => (List.mem_cons.mp (I1.stkSub a hm')).elim pinA.2.2.1 pinA.2.2.2.1, pinA.2.2.2.2⟩ I1.env0 b r hsp) fun rs s' hq => ?_)
    cases rs with
    | error e => exact False.elim hq
    | ok fl =>
      cases fl with
      | ret u => exact I1.after hq
      | next => exact False.elim hq
      | brk => exact False.elim hq
      | cont => exact False.elim hq
end
/-! ### raising, for defs whose errors have no context -/
section
variable {X : Cx} {C : Addr} {bmB : List Value} {B newId initId : String}
theorem pmkN {x : Str} {e : Expr} {ta : TE} {p pos : Pos} (F : ExcBaseFacts B newId initId bmB) (q : PySem.W.excIn X.K C bmB newId = true) (gC : X.mg x = some (.ref C)) (kC : PySem.W.keepIn X.K (.ref C) = true) (r : Raises X (.ref C)) (hg : Gl X x)
    (he : PE X e ta) (hs : starEach [e] X.env = (false, eval e X.env) :: starEach [] X.env := by rfl) (hdb : (x == ("__debug__" : Str)) = false := by decide) :
    L2N.PMk X (.Call (.Name x p) [e] [] pos) (fun σ H Q => ta σ H fun _ H1 => Q (.ref C) none H1) := by
  intro pins s σ H Q I h
  refine wpAny_Call_Name_kw (ld_glob I hg gC ?_ hdb)
  refine PySem.W.callWith_K (h₀ := X.base) I.ok.mod.kin kC ?_ hs (by rfl)
  rw [hs]
  show wpAny _ _ (spliced ((false, eval e X.env) :: backTo pos (starEach [] X.env))) _ _ s
  refine Calls.spliced_cons (thn (he.run pins s σ H _ I h) fun u s1 ⟨v, H1, I1, r1, q1⟩ => Calls.spliced_nil ⟨I1.kIn, ?_⟩)
  show wpAny _ _ (call (.ref C) [u]) _ _ _
  obtain ⟨bm, N, nm, qn, bs, hdct, sn, sub, ab, col, dd, k0, k1, k2, k3, k5, mN, hC, hN, hni, T⟩ := exc_obj I1.kIn q
  refine wpAny_call_exc_subT F T hC hN hni (fun h' e hm => ?_) (by show 1 ≤ sizeLine; decide)
  exact L2N.mk_of I1 hm r q1 (I1.hok.gone hm.new)
end
section
variable {P : Program} {w : World} {K : PySem.W.Frag} {mg : Str → Option Value} {base : Heap}
/-- a def that may raise -/
theorem okN {x qual : Str} {st : Stmt} {f : Addr} {fd : FuncData} {N ps : List Str} {k : Nat} {sp : Sp} (F : Fun K x qual st f fd) (S : FnScope N ps (defScope st)) (len : ∀ vs H Q E, sp vs H Q E → vs.length = ps.length)
    (hbody : ∀ (cdv : Value) (A : Around) (outer : List Env) (s : Shared) (H : Hp) (vs : List V) (Q : VK) (E : XK), Room k (A.deeper (envOfC qual (defScope st) s.heap.objs.size f cdv)) → sp vs H Q E →
      ∃ t, PSs (cxOf (L2N.CX P w) P w K mg base N qual (defScope st) f cdv A outer s H E) (defBody st) t ∧ t { nx := fun _ H' => Q .non H', rt := Q } (start N vs) H) : FnOk P w K mg base (L2N.CX P w) (k + 1) f fd ps sp := by
  obtain ⟨oc, od, kV, doc, pm, an, cdv, ct, osl, rfl, lk, hcd⟩ := F.ex
  exact fn_of lk hcd S len fun A outer s H vs Q E hr hsp => hbody cdv A outer s H vs Q E hr hsp
end
/-! a call of a slot s def with a star -/
section
variable {X : Cx} {CX : CXT} {k i : Nat} {f : Addr} {fd : FuncData} {ps : List Str} {sp : Sp} {E : XK} {x : Str} {p pos : Pos} {e : Expr} {es : List Expr} {t : TA}
def tCallM (X : Cx) (CX : CXT) (k i : Nat) (E : XK) (t : TA) : TE := fun σ H Q => ∃ (f : Addr) (fd : FuncData) (ps : List Str) (sp : Sp), FnOk X.prog X.w X.K X.mg X.base CX k f fd ps sp ∧ PySem.W.keepIn X.K (.ref f) = true ∧ Binds X.K fd ps [] ∧ σ[i]? = some (some (.ref f)) ∧ t σ H fun vs H1 => sp vs H1 Q E
theorem pe_callM (hr : Room k X.A) (hN : X.N[i]? = some x) (hv : Vis X.env.scope x) (hx : Passes CX X E) (ha : PA X (e :: es) t)
    (hdb : (x == ("__debug__" : Str)) = false := by decide) (hcd : (x == ("__classdict__" : Str)) = false := by decide)
    (he : starEach (e :: es) X.env = (false, eval e X.env) :: starEach es X.env := by rfl) (hst : (backTo pos (starEach es X.env)).any (·.1) = true := by rfl) : PE X (.Call (.Name x p) (e :: es) [] pos) (tCallM X CX k i E t) := by
  refine ⟨fun pins s σ H Q I h => ?_⟩
  obtain ⟨f, fd, ps, sp, F, hk, hb, hs, ht⟩ := h
  refine wpAny_Call_Name_kw (thn ((pe_var (pos := p) hN hv hdb hcd).run pins s σ H (fun v H1 => v = .ref f ∧ H1 = H) I ⟨.ref f, hs, rfl, rfl⟩) fun u s1 ⟨v, H1, I1, r1, q1, q2⟩ => ?_)
  subst q1 q2
  cases r1
  refine PySem.W.callWith_S2 (h₀ := X.base) I.ok.mod.kin hk (thn (ha.run pos pins s1 σ _ _ I1 ht) fun us s2 ⟨vs, H2, I2, r, q⟩ => ⟨I2.kIn, ?_⟩) he hst
  exact run_fn (dvs := []) (ds := []) F hr hb .nil hx I2 r (by rw [List.append_nil]; exact q)
end
end DH
namespace DH
open PySem PySem.Spec PyProof.Rows L2 L2H HotX
section
variable {X : Cx} {e : Expr} {te : TE} {p apos cpos pos : Pos}
/-- list(e.values()) -/
def tListVals (te : TE) : TE := fun σ H Q => te σ H fun x H1 => ∃ (d : Addr) (kvs : List (Key × V)), x = .ref d ∧ H1 d = some (.dK kvs) ∧ ∀ q, H1 q = none → Q (.ref q) (upd H1 q (.lst (kvs.map (·.2))))
theorem vals_of : ∀ {kvs : List (Key × V)} {vs : List (Key × Value)}, KV kvs vs → Vals (kvs.map (·.2)) (vs.map (·.2))
  | _, _, .nil => .nil
  | _, _, .cons h t => .cons h.2 (vals_of t)
theorem pe_listVals (hc : X.calm = true) (he : PE X e te) (hg : Gl X "list") (hm : X.mg "list" = none) (hv : bootBuiltins "list" = some (.type "list")) (hbase : attributeBase e "values" X.env (eval e X.env) = eval e X.env := by rfl) (hline : (apos.endLine == cpos.line) = true := by rfl)
    (hs : starEach [.Call (.Attribute e "values" apos) [] [] cpos] X.env = (false, eval (.Call (.Attribute e "values" apos) [] [] cpos) X.env) :: starEach [] X.env := by rfl) :
    PE X (.Call (.Name "list" p) [.Call (.Attribute e "values" apos) [] [] cpos] [] pos) (tListVals te) := by
  refine ⟨fun pins s σ H Q I hq => ?_⟩
  refine wpAny_Call_Name_kw (ld_blt I hg hm hv ?_)
  refine PyProof.Rows.callWith_type1 ?_ hs rfl
  rw [hs]
  show wpAny _ _ (spliced ((false, eval (.Call (.Attribute e "values" apos) [] [] cpos) X.env) :: backTo pos (starEach [] X.env))) _ _ s
  refine Calls.spliced_cons ?_
  refine wpAny_Call_method (T := "dict") (id := "dict.values") hbase rfl hline F.plainAttrs_dict F.slot_dict_values F.type_dict_values (thn (he.run pins s σ H _ I hq) fun u s1 ⟨x, H1, I1, rx, d, kvs, ex, hd, q⟩ => ?_)
  subst ex
  obtain rfl : u = Value.ref d := rx
  obtain ⟨hz, hs0, vs, kv, hdo⟩ := I1.hok d _ hd
  obtain ⟨ep, hat⟩ := hdo.dictAt
  have lk : kvs.length = vs.length := Paired.length kv
  have I2 : Inv X pins σ H1 { s1 with heap := s1.heap.push { cls := .type "dict_values", data := .fields #[.ref d] } } := I1.kept (t' := s1.toks) fun b ob k => Heap.get?_push_of_some _ k
  refine ⟨hdo.typeIs, hdo.mapOf.noDict, ?_⟩
  show wpAny _ _ (callWith cpos (.builtin "dict.values") [.ref d] [] []) _ X.xe s1
  refine method_meetsIn F.slot_dict_values F.entry_dict_values rfl (PySem.evalArgs_none ⟨rfl, hdo.typeIs, F.args_dict_values_1 _, _, meets_dict_values (mixKind X.prog X.w) d hs0, ⟨vs, hdo⟩, ?_⟩)
  refine Calls.spliced_nil ?_
  refine PySem.W.kdl_call (PySem.W.kdl_values (knd := mixKind X.prog X.w) (kvs := vs) (ep := ep)) (I1.ok.hd hc) ⟨⟨_, Heap.get?_push_size _ rfl, rfl, rfl⟩, hat.push _⟩ (by omega) fun h' tk acc c' hk hD hacc => ?_
  have ev : acc.toList = vs.map (·.2) := PySem.W.kdl_vals_eq acc.toList (by rw [Array.length_toList]; exact hacc.1) fun j v k => hacc.2 j v (by rw [← Array.getElem?_toList]; exact k)
  refine ⟨.ref _, upd H1 _ (.lst (kvs.map (·.2))), I2.laid (t' := tk) hk (Nat.le_refl _) ⟨by rw [List.length_map]; exact hz, acc.toList, c', by rw [ev]; exact vals_of kv, by rw [Array.toArray_toList]; exact hD⟩, rfl, q _ ?_⟩
  exact I2.hok.fresh (Nat.le_refl _)
end
end DH
namespace DY
open PySem PySem.Spec PyProof.Rows L2
def topS (i : Nat) : Stmt := PySem.Challenge.pw_dunnage_k08_yards_that_are_full.main.body.getD i (.Pass ⟨0, 0, 0, 0⟩)
/-- a def of the text -/
structure DefF (K : PySem.W.Frag) (mg : Str → Option Value) (x : Str) (st : Stmt) (ps : List Str) where
  a : Addr
  d : FuncData
  F : Fun K x x st a d
  g : mg x = some (.ref a)
  b : Binds K d ps []
/-- an error class of the text -/
structure ErrF (K : PySem.W.Frag) (mg : Str → Option Value) (x : Str) where
  a : Addr
  g : mg x = some (.ref a)
  x : PySem.W.excIn K a [.type "ValueError", .type "Exception", .type "BaseException", .type "object"] "ValueError.__new__" = true
  k : PySem.W.keepIn K (.ref a) = true
  b : PySem.W.subIn K (.ref a) (.type "BaseException") = some true
  t : PySem.W.typeIn K (.ref a) = some (.type "type")
abbrev s_is_number : Stmt := topS 25
abbrev N_is_number : List Str := ["value"]
theorem sc_is_number : FnScope N_is_number ["value"] (defScope s_is_number) := ⟨rfl, rfl, rfl, by decide +kernel, rfl, by decide +kernel, by decide +kernel⟩
abbrev s_is_place : Stmt := topS 26
abbrev N_is_place : List Str := ["value"]
theorem sc_is_place : FnScope N_is_place ["value"] (defScope s_is_place) := ⟨rfl, rfl, rfl, by decide +kernel, rfl, by decide +kernel, by decide +kernel⟩
abbrev s_is_course : Stmt := topS 27
abbrev N_is_course : List Str := ["value"]
theorem sc_is_course : FnScope N_is_course ["value"] (defScope s_is_course) := ⟨rfl, rfl, rfl, by decide +kernel, rfl, by decide +kernel, by decide +kernel⟩
abbrev s_is_weight : Stmt := topS 28
abbrev N_is_weight : List Str := ["value"]
theorem sc_is_weight : FnScope N_is_weight ["value"] (defScope s_is_weight) := ⟨rfl, rfl, rfl, by decide +kernel, rfl, by decide +kernel, by decide +kernel⟩
abbrev s_is_name : Stmt := topS 24
abbrev N_is_name : List Str := ["text", "letter"]
theorem sc_is_name : FnScope N_is_name ["text"] (defScope s_is_name) := ⟨rfl, rfl, rfl, by decide +kernel, rfl, by decide +kernel, by decide +kernel⟩
abbrev s_check_course : Stmt := topS 37
abbrev N_check_course : List Str := ["course"]
theorem sc_check_course : FnScope N_check_course ["course"] (defScope s_check_course) := ⟨rfl, rfl, rfl, by decide +kernel, rfl, by decide +kernel, by decide +kernel⟩
abbrev s_check_places : Stmt := topS 38
abbrev N_check_places : List Str := ["left", "right"]
theorem sc_check_places : FnScope N_check_places ["left", "right"] (defScope s_check_places) := ⟨rfl, rfl, rfl, by decide +kernel, rfl, by decide +kernel, by decide +kernel⟩
abbrev s_check_weight : Stmt := topS 39
abbrev N_check_weight : List Str := ["weight"]
theorem sc_check_weight : FnScope N_check_weight ["weight"] (defScope s_check_weight) := ⟨rfl, rfl, rfl, by decide +kernel, rfl, by decide +kernel, by decide +kernel⟩
abbrev s_check_count : Stmt := topS 40
abbrev N_check_count : List Str := ["rows", "most"]
theorem sc_check_count : FnScope N_check_count ["rows", "most"] (defScope s_check_count) := ⟨rfl, rfl, rfl, by decide +kernel, rfl, by decide +kernel, by decide +kernel⟩
/-! ### what a name, a number is -/
def letters : Str := "abcdefghijklmnopqrstuvwxyz"
def isName (z : Str) : Bool := decide (1 ≤ z.length) && (decide (z.length ≤ 8) && z.cps.toList.all fun c => decide (c ∈ letters.cps.toList))
def isPlace (i : Int) : Bool := decide (-1000000 ≤ i) && decide (i ≤ 1000000)
def isCourse (i : Int) : Bool := decide (1 ≤ i) && decide (i ≤ 9)
def isWeight (i : Int) : Bool := decide (1 ≤ i) && decide (i ≤ 1000000000)
structure T0 (K : PySem.W.Frag) (mg : Str → Option Value) where
  n_isinstance : mg "isinstance" = none
  n_int : mg "int" = none
  n_bool : mg "bool" = none
  n_len : mg "len" = none
  n_all : mg "all" = none
  c_FARTHEST_PLACE : ∃ t, mg "FARTHEST_PLACE" = some (.int 1000000 t)
  c_HIGHEST_COURSE : ∃ t, mg "HIGHEST_COURSE" = some (.int 9 t)
  c_GREATEST_WEIGHT : ∃ t, mg "GREATEST_WEIGHT" = some (.int 1000000000 t)
  c_LONGEST_NAME : ∃ t, mg "LONGEST_NAME" = some (.int 8 t)
  c_LETTERS : ∃ t, mg "LETTERS" = some (.str letters t)
  d_is_number : DefF K mg "is_number" s_is_number ["value"]
  d_is_place : DefF K mg "is_place" s_is_place ["value"]
  d_is_course : DefF K mg "is_course" s_is_course ["value"]
  d_is_weight : DefF K mg "is_weight" s_is_weight ["value"]
  d_is_name : DefF K mg "is_name" s_is_name ["text"]
  d_check_course : DefF K mg "check_course" s_check_course ["course"]
  d_check_places : DefF K mg "check_places" s_check_places ["left", "right"]
  d_check_weight : DefF K mg "check_weight" s_check_weight ["weight"]
  d_check_count : DefF K mg "check_count" s_check_count ["rows", "most"]
  x_BadCourse : ErrF K mg "BadCourse"
  x_BadPlace : ErrF K mg "BadPlace"
  x_BadWeight : ErrF K mg "BadWeight"
  x_Full : ErrF K mg "Full"
theorem same_upd {H : Hp} {p : Addr} {o : HO} (h : H p = none) : Same H (upd H p o) := fun b x e => by
  rw [upd_ne (ne_of_none e h)]
  exact e
theorem yes {σ : L2.St} {H : Hp} {Q : Bool → Hp → Prop} (h : Q true H) : tYes σ H Q := h
section
variable {P : Program} {w : World} {K : PySem.W.Frag} {mg : Str → Option Value} {base : Heap}
def spIs (g : Int → Bool) : Sp := fun vs H Q _ => ∃ i : Int, vs = [.int i] ∧ Q (.bl (g i)) H
theorem ok_is_number (T : T0 K mg) : FnOk P w K mg base CX0 1 T.d_is_number.a T.d_is_number.d ["value"] (spIs fun _ => true) := by
  refine T.d_is_number.F.ok sc_is_number (fun vs H Q E h => ?_) (fun cdv A outer s H vs Q E hr h => ?_)
  · obtain ⟨i, rfl, _⟩ := h
    rfl
  · obtain ⟨i, rfl, q⟩ := h
    refine ⟨_, pss_one (ps_ret (pe_and (pe_callB call_isi (by rfl) T.n_isinstance (by decide +kernel) (pa_cons (pv 0) (pa_cons (pe_bltn (v := .ty "int") (by rfl) T.n_int (by decide +kernel) rfl) pa_nil))) (pe_one (pe_not (pe_callB call_isi (by rfl) T.n_isinstance (by decide +kernel) (pa_cons (pv 0) (pa_cons (pe_bltn (v := .ty "bool") (by rfl) T.n_bool (by decide +kernel) rfl) pa_nil))))))), ?_⟩
    refine ⟨_, rfl, _, _, _, _, true, rfl, .ty _, .base (.int i), kit_ty (by decide +kernel), _, rfl, iteT ?_⟩
    exact ⟨_, rfl, _, _, _, _, false, rfl, .ty _, .base (.int i), kit_ty (by decide +kernel), _, rfl, q⟩
theorem ok_is_place (T : T0 K mg) : FnOk P w K mg base CX0 2 T.d_is_place.a T.d_is_place.d ["value"] (spIs isPlace) := by
  have G_is_number : FnOk P w K mg base CX0 1 T.d_is_number.a T.d_is_number.d ["value"] (spIs fun _ => true) := ok_is_number T
  obtain ⟨tk, c_FARTHEST_PLACE⟩ := T.c_FARTHEST_PLACE
  refine T.d_is_place.F.ok sc_is_place (fun vs H Q E h => ?_) (fun cdv A outer s H vs Q E hr h => ?_)
  · obtain ⟨i, rfl, _⟩ := h
    rfl
  · obtain ⟨i, rfl, q⟩ := h
    refine ⟨_, pss_one (ps_ret (pe_and (pe_call G_is_number (hr.mono (by decide)) (by rfl) T.d_is_number.g T.d_is_number.F.kp T.d_is_number.b .nil pass0 (pa_cons (pv 0) pa_nil)) (pe_one (pe_chain op_le op_le (pe_un un_neg (pe_glob (v := .int 1000000) rfl c_FARTHEST_PLACE ⟨_, rfl⟩)) (pv 0) (pe_glob (v := .int 1000000) rfl c_FARTHEST_PLACE ⟨_, rfl⟩))))), ?_⟩
    refine ⟨_, rfl, i, rfl, _, rfl, iteT ?_⟩
    refine ⟨_, rfl, _, rfl, _, _, rfl, rfl, _, rfl, ite2 (fun e => ?_) (fun e => ?_)⟩
    · refine ⟨_, _, rfl, rfl, ?_⟩
      have e1 : isPlace i = decide (i ≤ 1000000) := by
        unfold isPlace
        rw [show decide (-1000000 ≤ i) = true from e, Bool.true_and]
      rw [e1] at q
      exact q
    · have e1 : isPlace i = false := by
        unfold isPlace
        rw [show decide (-1000000 ≤ i) = false from Bool.eq_false_iff.mpr e, Bool.false_and]
      rw [e1] at q
      exact q
theorem ok_is_course (T : T0 K mg) : FnOk P w K mg base CX0 2 T.d_is_course.a T.d_is_course.d ["value"] (spIs isCourse) := by
  have G_is_number : FnOk P w K mg base CX0 1 T.d_is_number.a T.d_is_number.d ["value"] (spIs fun _ => true) := ok_is_number T
  obtain ⟨tk, c_HIGHEST_COURSE⟩ := T.c_HIGHEST_COURSE
  refine T.d_is_course.F.ok sc_is_course (fun vs H Q E h => ?_) (fun cdv A outer s H vs Q E hr h => ?_)
  · obtain ⟨i, rfl, _⟩ := h
    rfl
  · obtain ⟨i, rfl, q⟩ := h
    refine ⟨_, pss_one (ps_ret (pe_and (pe_call G_is_number (hr.mono (by decide)) (by rfl) T.d_is_number.g T.d_is_number.F.kp T.d_is_number.b .nil pass0 (pa_cons (pv 0) pa_nil)) (pe_one (pe_chain op_le op_le pe_int (pv 0) (pe_glob (v := .int 9) rfl c_HIGHEST_COURSE ⟨_, rfl⟩))))), ?_⟩
    refine ⟨_, rfl, i, rfl, _, rfl, iteT ?_⟩
    refine ⟨_, rfl, _, _, rfl, rfl, _, rfl, ite2 (fun e => ?_) (fun e => ?_)⟩
    · refine ⟨_, _, rfl, rfl, ?_⟩
      have e1 : isCourse i = decide (i ≤ 9) := by
        unfold isCourse
        rw [show decide (1 ≤ i) = true from e, Bool.true_and]
      rw [e1] at q
      exact q
    · have e1 : isCourse i = false := by
        unfold isCourse
        rw [show decide (1 ≤ i) = false from Bool.eq_false_iff.mpr e, Bool.false_and]
      rw [e1] at q
      exact q
theorem ok_is_weight (T : T0 K mg) : FnOk P w K mg base CX0 2 T.d_is_weight.a T.d_is_weight.d ["value"] (spIs isWeight) := by
  have G_is_number : FnOk P w K mg base CX0 1 T.d_is_number.a T.d_is_number.d ["value"] (spIs fun _ => true) := ok_is_number T
  obtain ⟨tk, c_GREATEST_WEIGHT⟩ := T.c_GREATEST_WEIGHT
  refine T.d_is_weight.F.ok sc_is_weight (fun vs H Q E h => ?_) (fun cdv A outer s H vs Q E hr h => ?_)
  · obtain ⟨i, rfl, _⟩ := h
    rfl
  · obtain ⟨i, rfl, q⟩ := h
    refine ⟨_, pss_one (ps_ret (pe_and (pe_call G_is_number (hr.mono (by decide)) (by rfl) T.d_is_number.g T.d_is_number.F.kp T.d_is_number.b .nil pass0 (pa_cons (pv 0) pa_nil)) (pe_one (pe_chain op_le op_le pe_int (pv 0) (pe_glob (v := .int 1000000000) rfl c_GREATEST_WEIGHT ⟨_, rfl⟩))))), ?_⟩
    refine ⟨_, rfl, i, rfl, _, rfl, iteT ?_⟩
    refine ⟨_, rfl, _, _, rfl, rfl, _, rfl, ite2 (fun e => ?_) (fun e => ?_)⟩
    · refine ⟨_, _, rfl, rfl, ?_⟩
      have e1 : isWeight i = decide (i ≤ 1000000000) := by
        unfold isWeight
        rw [show decide (1 ≤ i) = true from e, Bool.true_and]
      rw [e1] at q
      exact q
    · have e1 : isWeight i = false := by
        unfold isWeight
        rw [show decide (1 ≤ i) = false from Bool.eq_false_iff.mpr e, Bool.false_and]
      rw [e1] at q
      exact q
def spName : Sp := fun vs H Q _ => ∃ z : Str, vs = [.str z] ∧ z.length ≤ 1000 ∧ ∀ H', Same H H' → Q (.bl (isName z)) H'
theorem len_cps (z : Str) : z.length = z.cps.size := rfl
theorem ok_is_name (T : T0 K mg) : FnOk P w K mg base CX0 1 T.d_is_name.a T.d_is_name.d ["text"] spName := by
  obtain ⟨tk, c_LONGEST_NAME⟩ := T.c_LONGEST_NAME
  obtain ⟨tk2, c_LETTERS⟩ := T.c_LETTERS
  refine T.d_is_name.F.ok sc_is_name (fun vs H Q E h => ?_) (fun cdv A outer s H vs Q E hr h => ?_)
  · obtain ⟨i, rfl, _⟩ := h
    rfl
  · obtain ⟨z, rfl, hz, q⟩ := h
    refine ⟨_, pss_one (ps_ret (pe_and (pe_chain op_le op_le pe_int (pe_callB call_len_str (by rfl) T.n_len (by decide +kernel) (pa_cons (pv 0) pa_nil)) (pe_glob (v := .int 8) rfl c_LONGEST_NAME ⟨_, rfl⟩)) (pe_one (pe_callB (cr_all rfl) (by rfl) T.n_all (by decide +kernel) (pa_cons (pe_lc (own := [("letter", 1)]) (g := (gName 1)) (tt := tYes) (by rfl) sc_is_name.nd (pi_str (pv 0)) (blkOk_by (N := N_is_name) (sc := defScope s_is_name) (by decide +kernel)) (fun _ _ _ _ _ => (pg_name (i := 1) sc_is_name.nd rfl (Or.inl rfl))) (fun _ _ _ _ _ => pts_nil) (fun _ _ _ _ _ => (pe_cmpR op_in_sign (pv 1) (pe_glob (v := .str letters) rfl c_LETTERS ⟨_, rfl⟩) rfl))) pa_nil))))), ?_⟩
    refine ⟨_, rfl, z, rfl, Nat.le_of_lt (small1000 hz), _, _, rfl, rfl, _, rfl, ite2 (fun e => ?_) (fun e => ?_)⟩
    · refine ⟨_, _, rfl, rfl, _, rfl, ite2 (fun e2 => ?_) (fun e2 => ?_)⟩
      · refine ⟨_, rfl, z, rfl, fun D nD => ?_⟩
        refine lc_it walk_str (fun i H' => Same H H' ∧ H' D = some (.lst ((z.cps.toList.take i).map fun c => .bl (decide (c ∈ letters.cps.toList))))) ⟨same_upd nD, upd_same⟩ (fun _ _ _ _ => trivial) (fun i x H2 H3 hi p hy => ?_) (fun H2 p => ?_)
        · obtain ⟨p1, p2⟩ := p
          obtain ⟨rfl, c, hc, rfl⟩ := hy
          refine ⟨rfl, yes (iteT ?_)⟩
          refine ⟨_, rfl, c, letters, rfl, rfl, _, p2, ?_, ?_, ?_⟩
          · rw [List.length_map, List.length_take]
            exact small1000 (by rw [len_cps] at hz; omega)
          · intro b o e
            rw [upd_ne (ne_of_none e nD)]
            exact p1 _ _ e
          · rw [upd_same, List.take_add_one, Array.getElem?_toList, hc]
            simp
        · refine ⟨D, (z.cps.toList.take z.cps.size).map fun c => decide (c ∈ letters.cps.toList), rfl, ?_, ?_⟩
          · refine SqL.of ?_
            rw [p.2, List.map_map]
            rfl
          · have e1 : isName z = ((z.cps.toList.take z.cps.size).map fun c => decide (c ∈ letters.cps.toList)).all id := by
              have a1 : decide (1 ≤ z.length) = true := by
                have : decide ((1 : Int) ≤ (z.length : Int)) = true := e
                simp only [decide_eq_true_eq] at this ⊢
                omega
              have a2 : decide (z.length ≤ 8) = true := by
                have : decide ((z.length : Int) ≤ 8) = true := e2
                simp only [decide_eq_true_eq] at this ⊢
                omega
              unfold isName
              rw [a1, a2, Bool.true_and, Bool.true_and, List.take_of_length_le (by simp), List.all_map]
              rfl
            rw [← e1]
            exact q _ p.1
      · have e1 : isName z = false := by
          have a2 : decide (z.length ≤ 8) = false := by
            have : decide ((z.length : Int) ≤ 8) = false := Bool.eq_false_iff.mpr e2
            simp only [decide_eq_false_iff_not] at this ⊢
            omega
          unfold isName
          rw [a2, Bool.false_and, Bool.and_false]
        have q0 := q H (Same.refl H)
        rw [e1] at q0
        exact q0
    · have e1 : isName z = false := by
        have a2 : decide (1 ≤ z.length) = false := by
          have : decide ((1 : Int) ≤ (z.length : Int)) = false := Bool.eq_false_iff.mpr e
          simp only [decide_eq_false_iff_not] at this ⊢
          omega
        unfold isName
        rw [a2, Bool.false_and]
      have q0 := q H (Same.refl H)
      rw [e1] at q0
      exact ⟨_, rfl, iteF q0⟩
end
end DY
namespace DY
open PySem PySem.Spec PyProof.Rows L2
abbrev s_check_new_name : Stmt := topS 36
abbrev N_check_new_name : List Str := ["yard", "name", "rows"]
theorem sc_check_new_name : FnScope N_check_new_name ["yard", "name"] (defScope s_check_new_name) := ⟨rfl, rfl, rfl, by decide +kernel, rfl, by decide +kernel, by decide +kernel⟩
abbrev s_check_room : Stmt := topS 41
abbrev N_check_room : List Str := ["yard", "name", "course", "left", "right", "row"]
theorem sc_check_room : FnScope N_check_room ["yard", "name", "course", "left", "right"] (defScope s_check_room) := ⟨rfl, rfl, rfl, by decide +kernel, rfl, by decide +kernel, by decide +kernel⟩
abbrev s_set_trestle : Stmt := topS 49
abbrev N_set_trestle : List Str := ["yard", "name", "course", "left", "right"]
theorem sc_set_trestle : FnScope N_set_trestle ["yard", "name", "course", "left", "right"] (defScope s_set_trestle) := ⟨rfl, rfl, rfl, by decide +kernel, rfl, by decide +kernel, by decide +kernel⟩
abbrev s_lay_board : Stmt := topS 50
abbrev N_lay_board : List Str := ["yard", "name", "course", "left", "right", "weight"]
theorem sc_lay_board : FnScope N_lay_board ["yard", "name", "course", "left", "right", "weight"] (defScope s_lay_board) := ⟨rfl, rfl, rfl, by decide +kernel, rfl, by decide +kernel, by decide +kernel⟩
abbrev s_rows_by_names : Stmt := topS 60
abbrev N_rows_by_names : List Str := ["rows", "name"]
theorem sc_rows_by_names : FnScope N_rows_by_names ["rows"] (defScope s_rows_by_names) := ⟨rfl, rfl, rfl, by decide +kernel, rfl, by decide +kernel, by decide +kernel⟩
abbrev s_Yard___init__ : Stmt := inClass (topS 61) 0
abbrev N_Yard___init__ : List Str := ["self"]
theorem sc_Yard___init__ : FnScope N_Yard___init__ ["self"] (defScope s_Yard___init__) := ⟨rfl, rfl, rfl, by decide +kernel, rfl, by decide +kernel, by decide +kernel⟩
abbrev s_Yard_do : Stmt := inClass (topS 61) 1
abbrev N_Yard_do : List Str := ["self", "deed", "action", "things"]
theorem sc_Yard_do : FnScope N_Yard_do ["self", "deed"] (defScope s_Yard_do) := ⟨rfl, rfl, rfl, by decide +kernel, rfl, by decide +kernel, by decide +kernel⟩
abbrev s_Yard_boards : Stmt := inClass (topS 61) 2
abbrev N_Yard_boards : List Str := ["self"]
theorem sc_Yard_boards : FnScope N_Yard_boards ["self"] (defScope s_Yard_boards) := ⟨rfl, rfl, rfl, by decide +kernel, rfl, by decide +kernel, by decide +kernel⟩
abbrev s_Yard_trestles : Stmt := inClass (topS 61) 3
abbrev N_Yard_trestles : List Str := ["self"]
theorem sc_Yard_trestles : FnScope N_Yard_trestles ["self"] (defScope s_Yard_trestles) := ⟨rfl, rfl, rfl, by decide +kernel, rfl, by decide +kernel, by decide +kernel⟩
abbrev s_Yard_sacks : Stmt := inClass (topS 61) 4
abbrev N_Yard_sacks : List Str := ["self"]
theorem sc_Yard_sacks : FnScope N_Yard_sacks ["self"] (defScope s_Yard_sacks) := ⟨rfl, rfl, rfl, by decide +kernel, rfl, by decide +kernel, by decide +kernel⟩
abbrev s_Yard_cords : Stmt := inClass (topS 61) 5
abbrev N_Yard_cords : List Str := ["self"]
theorem sc_Yard_cords : FnScope N_Yard_cords ["self"] (defScope s_Yard_cords) := ⟨rfl, rfl, rfl, by decide +kernel, rfl, by decide +kernel, by decide +kernel⟩
/-! ### a yard: tables of rows, each under its name, in the order in which they came -/
abbrev TrR := Int × Int × Int
abbrev BoR := Int × Int × Int × Int
abbrev SaR := Str × Int × Int
abbrev CoR := Str × Str × Int
structure Yd where
  tr : List (Str × TrR)
  bo : List (Str × BoR)
  sa : List (Str × SaR)
  co : List (Str × CoR)
def trV (x : TrR) : List V := [.int x.1, .int x.2.1, .int x.2.2]
def boV (x : BoR) : List V := [.int x.1, .int x.2.1, .int x.2.2.1, .int x.2.2.2]
def saV (x : SaR) : List V := [.str x.1, .int x.2.1, .int x.2.2]
def coV (x : CoR) : List V := [.str x.1, .str x.2.1, .int x.2.2]
/-- the pairs of a dict and the rows that they stand for -/
inductive Rows {α : Type} (H : Hp) (f : Str → α → List V) : List (Key × V) → List (Str × α) → Prop
  | nil : Rows H f [] []
  | cons {n : Str} {x : α} {p : Addr} {kvs : List (Key × V)} {T : List (Str × α)} (h : H p = some (.tup (f n x))) (r : Rows H f kvs T) : Rows H f ((Sum.inr n, .ref p) :: kvs) ((n, x) :: T)
/-- tuples stay -/
def TS (H H' : Hp) : Prop := ∀ p xs, H p = some (.tup xs) → H' p = some (.tup xs)
theorem TS.of {H H' : Hp} (s : Same H H') : TS H H' := fun p xs e => s _ _ e
theorem TS.upd {H : Hp} {a : Addr} {o : HO} (h : ∀ xs, H a ≠ some (.tup xs)) : TS H (L2.upd H a o) := fun p xs e => by
  rw [upd_ne (fun z => h xs (by rw [← z]; exact e))]
  exact e
theorem TS.trans {H1 H2 H3 : Hp} (a : TS H1 H2) (b : TS H2 H3) : TS H1 H3 := fun p xs e => b _ _ (a _ _ e)
section
variable {α : Type} {H H' : Hp} {f : Str → α → List V} {kvs : List (Key × V)} {T : List (Str × α)}
theorem Rows.keep (s : TS H H') (r : Rows H f kvs T) : Rows H' f kvs T := by
  induction r with
  | nil => exact .nil
  | cons h _ ih => exact .cons (s _ _ h) ih
theorem Rows.len (r : Rows H f kvs T) : kvs.length = T.length := by
  induction r with
  | nil => rfl
  | cons h _ ih => rw [List.length_cons, List.length_cons, ih]
theorem Rows.keys (r : Rows H f kvs T) : kvs.map (·.1) = (T.map (·.1)).map Sum.inr := by
  induction r with
  | nil => rfl
  | cons h _ ih => rw [List.map_cons, List.map_cons, List.map_cons, ih]
/-- a row by its name -/
def getT (T : List (Str × α)) (n : Str) : Option α := (T.find? fun q => decide (q.1 = n)).map (·.2)
def hasT (T : List (Str × α)) (n : Str) : Bool := (getT T n).isSome
theorem Rows.get (r : Rows H f kvs T) (n : Str) : (valV kvs (Sum.inr n) = none ∧ getT T n = none) ∨ ∃ p x, valV kvs (Sum.inr n) = some (.ref p) ∧ getT T n = some x ∧ H p = some (.tup (f n x)) := by
  induction r with
  | nil => exact .inl ⟨rfl, rfl⟩
  | @cons m x p kvs T h _ ih =>
    by_cases e : m = n
    · subst e
      exact .inr ⟨p, x, valV_pos rfl, by simp [getT], h⟩
    · have e1 : ¬ (Sum.inr m : Key) = Sum.inr n := fun z => e (Sum.inr.inj z)
      rw [valV_neg (p := (Sum.inr m, V.ref p)) e1]
      have e2 : getT ((m, x) :: T) n = getT T n := by simp [getT, e]
      rw [e2]
      exact ih
theorem Rows.has (r : Rows H f kvs T) (n : Str) : (valV kvs (Sum.inr n)).isSome = hasT T n := by
  unfold hasT
  rcases r.get n with ⟨h1, h2⟩ | ⟨p, x, h1, h2, _⟩
  · rw [h1, h2]
    rfl
  · rw [h1, h2]
    rfl
theorem Rows.snoc {n : Str} {x : α} {p : Addr} (r : Rows H f kvs T) (h : H p = some (.tup (f n x))) : Rows H f (kvs ++ [(Sum.inr n, .ref p)]) (T ++ [(n, x)]) := by
  induction r with
  | nil => exact .cons h .nil
  | cons h0 _ ih => exact .cons h0 ih
end
abbrev trP (n : Str) (x : TrR) : List V := .str n :: trV x
abbrev boP (n : Str) (x : BoR) : List V := .str n :: boV x
abbrev saP (n : Str) (x : SaR) : List V := .str n :: saV x
abbrev coP (n : Str) (x : CoR) : List V := .str n :: coV x
/-- where a yard stands: its own place, and its four dicts -/
structure YA where
  y : Addr
  b : Addr
  t : Addr
  s : Addr
  c : Addr
def fldsY (A : YA) : List (Str × V) := [("board_rows", .ref A.b), ("trestle_rows", .ref A.t), ("sack_rows", .ref A.s), ("cord_rows", .ref A.c)]
/-- the yard at A holds Y -/
structure IsY (C : Addr) (A : YA) (H : Hp) (Y : Yd) : Prop where
  ob : ∃ dx, H A.y = some (.ins C dx (fldsY A))
  bo : ∃ kvs, H A.b = some (.dK kvs) ∧ Rows H boP kvs Y.bo
  tr : ∃ kvs, H A.t = some (.dK kvs) ∧ Rows H trP kvs Y.tr
  sa : ∃ kvs, H A.s = some (.dK kvs) ∧ Rows H saP kvs Y.sa
  co : ∃ kvs, H A.c = some (.dK kvs) ∧ Rows H coP kvs Y.co
  nd : A.b ≠ A.t ∧ A.b ≠ A.s ∧ A.b ≠ A.c ∧ A.t ≠ A.s ∧ A.t ≠ A.c ∧ A.s ≠ A.c
  le : Y.tr.length ≤ 6 ∧ Y.bo.length ≤ 6 ∧ Y.sa.length ≤ 8 ∧ Y.co.length ≤ 4
theorem IsY.keep {C : Addr} {A : YA} {H H' : Hp} {Y : Yd} (h : IsY C A H Y) (s : Same H H') : IsY C A H' Y := by
  obtain ⟨⟨dx, e⟩, ⟨k1, e1, r1⟩, ⟨k2, e2, r2⟩, ⟨k3, e3, r3⟩, ⟨k4, e4, r4⟩, nd, le⟩ := h
  exact ⟨⟨dx, s _ _ e⟩, ⟨k1, s _ _ e1, r1.keep (.of s)⟩, ⟨k2, s _ _ e2, r2.keep (.of s)⟩, ⟨k3, s _ _ e3, r3.keep (.of s)⟩, ⟨k4, s _ _ e4, r4.keep (.of s)⟩, nd, le⟩
theorem fld_b (A : YA) : (fldsY A).lookup ("board_rows" : Str) = some (.ref A.b) := by unfold fldsY; rfl
end DY
namespace DY
open PySem PySem.Spec PyProof.Rows L2
section
variable {P : Program} {w : World} {K : PySem.W.Frag} {mg : Str → Option Value} {base : Heap}
def spCk (g : Int → Bool) (C : Addr) : Sp := fun vs H Q E => ∃ i : Int, vs = [.int i] ∧ (g i = true → Q .non H) ∧ (g i = false → E (.ref C) none H)
theorem notT {b : Bool} (h : (!b) = true) : b = false := by cases b <;> simp_all
theorem notF {b : Bool} (h : ¬ (!b) = true) : b = true := by cases b <;> simp_all
theorem ok_check_course (T : T0 K mg) : FnOk P w K mg base (L2N.CX P w) 3 T.d_check_course.a T.d_check_course.d ["course"] (spCk isCourse T.x_BadCourse.a) := by
  have G_is_course : FnOk P w K mg base CX0 2 T.d_is_course.a T.d_is_course.d ["value"] (spIs isCourse) := ok_is_course T
  refine DH.okN T.d_check_course.F sc_check_course (fun vs H Q E h => ?_) (fun cdv A outer s H vs Q E hr h => ?_)
  · obtain ⟨i, rfl, _⟩ := h
    rfl
  · obtain ⟨i, rfl, q1, q2⟩ := h
    refine ⟨_, pss_one (ps_if (pt_not (pt_val (pe_call G_is_course (hr.mono (by decide)) (by rfl) T.d_is_course.g T.d_is_course.F.kp T.d_is_course.b .nil pass0 (pa_cons (pv 0) pa_nil)))) (pss_one (L2N.ps_raise rfl (L2N.takes_of rfl rfl rfl rfl) (DH.pmkN PySem.F.excBase_ValueError T.x_BadCourse.x T.x_BadCourse.g T.x_BadCourse.k (raises_own T.x_BadCourse.b T.x_BadCourse.t) (by rfl) pe_str))) pss_nil), ?_⟩
    exact ⟨_, rfl, i, rfl, _, rfl, ite2 (fun e => q2 (notT e)) (fun e => q1 (notF e))⟩
theorem ok_check_weight (T : T0 K mg) : FnOk P w K mg base (L2N.CX P w) 3 T.d_check_weight.a T.d_check_weight.d ["weight"] (spCk isWeight T.x_BadWeight.a) := by
  have G_is_weight : FnOk P w K mg base CX0 2 T.d_is_weight.a T.d_is_weight.d ["value"] (spIs isWeight) := ok_is_weight T
  refine DH.okN T.d_check_weight.F sc_check_weight (fun vs H Q E h => ?_) (fun cdv A outer s H vs Q E hr h => ?_)
  · obtain ⟨i, rfl, _⟩ := h
    rfl
  · obtain ⟨i, rfl, q1, q2⟩ := h
    refine ⟨_, pss_one (ps_if (pt_not (pt_val (pe_call G_is_weight (hr.mono (by decide)) (by rfl) T.d_is_weight.g T.d_is_weight.F.kp T.d_is_weight.b .nil pass0 (pa_cons (pv 0) pa_nil)))) (pss_one (L2N.ps_raise rfl (L2N.takes_of rfl rfl rfl rfl) (DH.pmkN PySem.F.excBase_ValueError T.x_BadWeight.x T.x_BadWeight.g T.x_BadWeight.k (raises_own T.x_BadWeight.b T.x_BadWeight.t) (by rfl) pe_str))) pss_nil), ?_⟩
    exact ⟨_, rfl, i, rfl, _, rfl, ite2 (fun e => q2 (notT e)) (fun e => q1 (notF e))⟩
def spPl (C : Addr) : Sp := fun vs H Q E => ∃ i j : Int, vs = [.int i, .int j] ∧ (isPlace i = true → isPlace j = true → Q .non H) ∧ (isPlace i = false ∨ isPlace j = false → E (.ref C) none H)
theorem ok_check_places (T : T0 K mg) : FnOk P w K mg base (L2N.CX P w) 3 T.d_check_places.a T.d_check_places.d ["left", "right"] (spPl T.x_BadPlace.a) := by
  have G_is_place : FnOk P w K mg base CX0 2 T.d_is_place.a T.d_is_place.d ["value"] (spIs isPlace) := ok_is_place T
  refine DH.okN T.d_check_places.F sc_check_places (fun vs H Q E h => ?_) (fun cdv A outer s H vs Q E hr h => ?_)
  · obtain ⟨i, j, rfl, _⟩ := h
    rfl
  · obtain ⟨i, j, rfl, q1, q2⟩ := h
    refine ⟨_, pss_one (ps_if (PW.pt (pw_or (pt_not (pt_val (pe_call G_is_place (hr.mono (by decide)) (by rfl) T.d_is_place.g T.d_is_place.F.kp T.d_is_place.b .nil pass0 (pa_cons (pv 0) pa_nil)))) (pw_or1 (pt_not (pt_val (pe_call G_is_place (hr.mono (by decide)) (by rfl) T.d_is_place.g T.d_is_place.F.kp T.d_is_place.b .nil pass0 (pa_cons (pv 1) pa_nil))))))) (pss_one (L2N.ps_raise rfl (L2N.takes_of rfl rfl rfl rfl) (DH.pmkN PySem.F.excBase_ValueError T.x_BadPlace.x T.x_BadPlace.g T.x_BadPlace.k (raises_own T.x_BadPlace.b T.x_BadPlace.t) (by rfl) pe_str))) pss_nil), ?_⟩
    refine ⟨_, rfl, i, rfl, _, rfl, ite2 (fun e => ?_) (fun e => ?_)⟩
    · exact iteT (q2 (.inl (notT e)))
    · exact ⟨_, rfl, j, rfl, _, rfl, ite2 (fun e2 => q2 (.inr (notT e2))) (fun e2 => q1 (notF e) (notF e2))⟩
def spCo (C : Addr) : Sp := fun vs H Q E => ∃ (a : Addr) (kvs : List (Key × V)) (m : Int), vs = [.ref a, .int m] ∧ H a = some (.dK kvs) ∧ ((kvs.length : Int) < m → Q .non H) ∧ (m ≤ (kvs.length : Int) → E (.ref C) none H)
theorem ok_check_count (T : T0 K mg) : FnOk P w K mg base (L2N.CX P w) 1 T.d_check_count.a T.d_check_count.d ["rows", "most"] (spCo T.x_Full.a) := by
  refine DH.okN T.d_check_count.F sc_check_count (fun vs H Q E h => ?_) (fun cdv A outer s H vs Q E hr h => ?_)
  · obtain ⟨a, kvs, m, rfl, _⟩ := h
    rfl
  · obtain ⟨a, kvs, m, rfl, ha, q1, q2⟩ := h
    refine ⟨_, pss_one (ps_if (pt_cmpR op_ge (pe_callB call_lenD (by rfl) T.n_len (by decide +kernel) (pa_cons (pv 0) pa_nil)) (pv 1) (nomark _)) (pss_one (L2N.ps_raise rfl (L2N.takes_of rfl rfl rfl rfl) (DH.pmkN PySem.F.excBase_ValueError T.x_Full.x T.x_Full.g T.x_Full.k (raises_own T.x_Full.b T.x_Full.t) (by rfl) pe_str))) pss_nil), ?_⟩
    refine ⟨_, rfl, a, kvs, rfl, ha, _, rfl, _, _, rfl, rfl, _, rfl, ite2 (fun e => q2 (of_decide_eq_true e)) (fun e => q1 ?_)⟩
    have : ¬ m ≤ (kvs.length : Int) := fun z => e (decide_eq_true z)
    omega
/-! ### names -/
structure T1 (K : PySem.W.Frag) (mg : Str → Option Value) extends T0 K mg where
  n_list : mg "list" = none
  n_max : mg "max" = none
  n_min : mg "min" = none
  n_sorted : mg "sorted" = none
  x_BadName : ErrF K mg "BadName"
  x_Taken : ErrF K mg "Taken"
  x_Crowded : ErrF K mg "Crowded"
  x_NoThing : ErrF K mg "NoThing"
  x_InUse : ErrF K mg "InUse"
  x_NoSack : ErrF K mg "NoSack"
  x_NoCord : ErrF K mg "NoCord"
  x_BadCord : ErrF K mg "BadCord"
  x_BadDeed : ErrF K mg "BadDeed"
  CY : Addr
  cl : Cls K CY
  nb : NoAttr K CY "board_rows"
  nt : NoAttr K CY "trestle_rows"
  ns : NoAttr K CY "sack_rows"
  nc : NoAttr K CY "cord_rows"
  d_check_new_name : DefF K mg "check_new_name" s_check_new_name ["yard", "name"]
  d_check_room : DefF K mg "check_room" s_check_room ["yard", "name", "course", "left", "right"]
def taken (Y : Yd) (n : Str) : Bool := hasT Y.bo n || (hasT Y.tr n || (hasT Y.sa n || hasT Y.co n))
def spNN (C C1 C2 : Addr) : Sp := fun vs H Q E => ∃ (A : YA) (Y : Yd) (z : Str), vs = [.ref A.y, .str z] ∧ IsY C A H Y ∧ z.length ≤ 1000 ∧ ∀ H', Same H H' → (isName z = true → taken Y z = false → Q .non H') ∧ (isName z = false → E (.ref C1) none H') ∧ (isName z = true → taken Y z = true → E (.ref C2) none H')
theorem sm {n : Nat} (h : n ≤ 1000000) : n ≤ sizeLine := Nat.le_trans h (by decide)
theorem len_app (x y : Str) : (x ++ y).length = x.length + y.length := by
  show (x.cps ++ y.cps).size = x.cps.size + y.cps.size
  exact Array.size_append
theorem ok_check_new_name (T : T1 K mg) : FnOk P w K mg base (L2N.CX P w) 2 T.d_check_new_name.a T.d_check_new_name.d ["yard", "name"] (spNN T.CY T.x_BadName.a T.x_Taken.a) := by
  have G_is_name : FnOk P w K mg base CX0 1 T.d_is_name.a T.d_is_name.d ["text"] spName := ok_is_name T.toT0
  refine DH.okN T.d_check_new_name.F sc_check_new_name (fun vs H Q E h => ?_) (fun cdv A outer s H vs Q E hr h => ?_)
  · obtain ⟨a, kvs, m, rfl, _⟩ := h
    rfl
  · obtain ⟨B, Y, z, rfl, hy, hz, q⟩ := h
    have hu := hu_of hr
    refine ⟨_, pss_cons (ps_if (pt_not (pt_val (pe_call G_is_name (hr.mono (by decide)) (by rfl) T.d_is_name.g T.d_is_name.F.kp T.d_is_name.b .nil pass0 (pa_cons (pv 1) pa_nil)))) (pss_one (L2N.ps_raise rfl (L2N.takes_of rfl rfl rfl rfl) (DH.pmkN PySem.F.excBase_ValueError T.x_BadName.x T.x_BadName.g T.x_BadName.k (raises_own T.x_BadName.b T.x_BadName.t) (by rfl) pe_str))) pss_nil)
      (pss_one (ps_for PassesOwn.leaving rfl (pi_tup (pe_tup (pa_cons (pe_fld (pv 0) rfl) (pa_cons (pe_fld (pv 0) rfl) (pa_cons (pe_fld (pv 0) rfl) (pa_cons (pe_fld (pv 0) rfl) pa_nil)))))) (pg_name (i := 2) sc_check_new_name.nd rfl (Or.inl rfl))
        (pss_one (ps_if (pt_cmp (pc_din hu (pv 1) (pv 2))) (pss_one (L2N.ps_raise rfl (L2N.takes_of rfl rfl rfl rfl) (DH.pmkN PySem.F.excBase_ValueError T.x_Taken.x T.x_Taken.g T.x_Taken.k (raises_own T.x_Taken.b T.x_Taken.t) (by rfl) (pe_joined (PJ.cons (pe_fmt (pv 1)) (PJ.cons pe_str PJ.nil)))))) pss_nil)))), ?_⟩
    refine ⟨_, rfl, z, rfl, hz, fun H1 s1 => ?_⟩
    refine ⟨_, rfl, ite2 (fun e => (q H1 s1).2.1 (notT e)) (fun e => ?_)⟩
    have hn := notF e
    have h1 := hy.keep s1
    obtain ⟨dx, eo⟩ := h1.ob
    obtain ⟨k1, e1, r1⟩ := h1.bo
    obtain ⟨k2, e2, r2⟩ := h1.tr
    obtain ⟨k3, e3, r3⟩ := h1.sa
    obtain ⟨k4, e4, r4⟩ := h1.co
    refine ⟨_, rfl, B.y, _, dx, _, _, rfl, eo, T.cl, T.nb, rfl, _, rfl, B.y, _, dx, _, _, rfl, eo, T.cl, T.nt, rfl, _, rfl, B.y, _, dx, _, _, rfl, eo, T.cl, T.ns, rfl, _, rfl, B.y, _, dx, _, _, rfl, eo, T.cl, T.nc, rfl, by show 4 ≤ sizeLine; decide, fun tp ntp => ?_⟩
    have s2 : Same H1 (upd H1 tp (.tup [.ref B.b, .ref B.t, .ref B.s, .ref B.c])) := same_upd ntp
    have et : (upd H1 tp (.tup [.ref B.b, .ref B.t, .ref B.s, .ref B.c])) tp = some (.tup [.ref B.b, .ref B.t, .ref B.s, .ref B.c]) := upd_same
    generalize upd H1 tp (.tup [.ref B.b, .ref B.t, .ref B.s, .ref B.c]) = H2 at s2 et ⊢
    refine ⟨tp, rfl, ⟨_, SqT.of et⟩, ?_⟩
    have done := q H2 (s1.trans s2)
    have turn : ∀ (a : Addr) (kvs : List (Key × V)) (b : Bool), H2 a = some (.dK kvs) → (valV kvs (Sum.inr z)).isSome = b → (b = true → taken Y z = true) → ∀ (D : Ends), (b = false → ∀ y2, D.nx [some (.ref B.y), some (.str z), y2] H2) →
        tIfS (tB (tDIn (tVar 1) (tVar 2))) (fun (_ : Ends) σ H => tJs [tFmt (tVar 1), tC (.str " is another thing's name")] Str.empty σ H fun out H1 => E (.ref T.x_Taken.a) none H1) tNext D [some (.ref B.y), some (.str z), some (.ref a)] H2 := by
      intro a kvs b ea eb hb D hD
      refine ⟨_, rfl, _, rfl, a, _, rfl, DGet.k (k := Sum.inr z) ea, _, rfl, ?_⟩
      rw [eb]
      cases b with
      | true =>
        refine iteT ?_
        refine ⟨_, rfl, .inl ⟨z, rfl, sm (by omega), z, rfl, ?_, _, rfl, ?_, done.2.2 hn (hb rfl)⟩⟩
        · exact sm (by rw [len_app]; show 0 + z.length ≤ _; omega)
        · refine sm ?_
          rw [len_app, len_app]
          show 0 + z.length + 24 ≤ _
          omega
      | false => exact iteF (hD rfl _)
    have g1 := r1.has z
    have g2 := r2.has z
    have g3 := r3.has z
    have g4 := r4.has z
    refine for_tup (K := K) (a := tp) (xs := [.ref B.b, .ref B.t, .ref B.s, .ref B.c]) (fun i σ H' => H' = H2 ∧ (∃ y2, σ = [some (.ref B.y), some (.str z), y2]) ∧ (([hasT Y.bo z, hasT Y.tr z, hasT Y.sa z, hasT Y.co z].take i).any id) = false)
      ⟨rfl, ⟨_, rfl⟩, rfl⟩ (fun i σ H' _ p => ?_) (fun i x σ H' hx p => ?_) (fun σ H' p => ?_)
    · rw [p.1]
      exact SqT.of et
    · obtain ⟨rfl, ⟨y2, rfl⟩, hp⟩ := p
      match i, hx with
      | 0, hx =>
        cases hx
        exact turn B.b k1 _ (s2 _ _ e1) g1 (fun z => by unfold taken; rw [z]; rfl) _ (fun z y => ⟨rfl, ⟨_, rfl⟩, by simp [z]⟩)
      | 1, hx =>
        cases hx
        exact turn B.t k2 _ (s2 _ _ e2) g2 (fun z => by unfold taken; rw [z]; simp) _ (fun z y => ⟨rfl, ⟨_, rfl⟩, by simp at hp; simp [z, hp]⟩)
      | 2, hx =>
        cases hx
        exact turn B.s k3 _ (s2 _ _ e3) g3 (fun z => by unfold taken; rw [z]; simp) _ (fun z y => ⟨rfl, ⟨_, rfl⟩, by simp at hp; simp [z, hp]⟩)
      | 3, hx =>
        cases hx
        exact turn B.c k4 _ (s2 _ _ e4) g4 (fun z => by unfold taken; rw [z]; simp) _ (fun z y => ⟨rfl, ⟨_, rfl⟩, by simp at hp; simp [z, hp]⟩)
      | _ + 4, hx => cases hx
    · obtain ⟨rfl, ⟨y2, rfl⟩, hp⟩ := p
      refine done.1 hn ?_
      unfold taken
      simpa using hp
/-! ### room -/
/-- course, left and right of all that lies -/
def lies (Y : Yd) : List (Str × Int × Int × Int) := Y.bo.map (fun q => (q.1, q.2.1, q.2.2.1, q.2.2.2.1)) ++ Y.tr.map (fun q => (q.1, q.2.1, q.2.2.1, q.2.2.2))
def meets (n : Str) (c l r : Int) (q : Str × Int × Int × Int) : Bool := !(decide (q.1 = n)) && (decide (q.2.1 = c) && decide ((if q.2.2.1 > l then q.2.2.1 else l) < (if q.2.2.2 < r then q.2.2.2 else r)))
def crowd (Y : Yd) (n : Str) (c l r : Int) : Bool := (lies Y).any (meets n c l r)
/-- the addresses of rows and what they begin with -/
theorem Rows.at {α : Type} {H : Hp} {f : Str → α → List V} {kvs : List (Key × V)} {T : List (Str × α)} (r : Rows H f kvs T) : ∀ (i : Nat) (x : V), (kvs.map (·.2))[i]? = some x → ∃ p n a, x = .ref p ∧ T[i]? = some (n, a) ∧ H p = some (.tup (f n a)) := by
  induction r with
  | nil => intro i x h; cases h
  | @cons n a p kvs T h _ ih =>
    intro i x hx
    match i, hx with
    | 0, hx => cases hx; exact ⟨p, n, a, rfl, rfl, h⟩
    | i + 1, hx => exact ih i x hx
def spRoom (C C1 : Addr) : Sp := fun vs H Q E => ∃ (A : YA) (Y : Yd) (z : Str) (c l r : Int), vs = [.ref A.y, .str z, .int c, .int l, .int r] ∧ IsY C A H Y ∧ z.length ≤ 1000 ∧ (∀ q ∈ lies Y, q.1.length ≤ 1000) ∧ ∀ H', Same H H' → (crowd Y z c l r = false → Q .non H') ∧ (crowd Y z c l r = true → E (.ref C1) none H')
theorem ok_check_room (T : T1 K mg) : FnOk P w K mg base (L2N.CX P w) 1 T.d_check_room.a T.d_check_room.d ["yard", "name", "course", "left", "right"] (spRoom T.CY T.x_Crowded.a) := by
  refine DH.okN T.d_check_room.F sc_check_room (fun vs H Q E h => ?_) (fun cdv A outer s H vs Q E hr h => ?_)
  · obtain ⟨_, _, _, _, _, _, rfl, _⟩ := h
    rfl
  · obtain ⟨B, Y, z, c, l, r, rfl, hy, hz, hq, q⟩ := h
    refine ⟨_, pss_one (ps_for PassesOwn.leaving rfl (pi_list (pe_op op_cat (DH.pe_listVals rfl (pe_fld (pv 0) rfl) (by rfl) T.n_list (by decide +kernel)) (DH.pe_listVals rfl (pe_fld (pv 0) rfl) (by rfl) T.n_list (by decide +kernel)))) (pg_name (i := 5) sc_check_room.nd rfl (Or.inl rfl))
        (pss_cons (ps_if (PW.pt (pw_or (pt_cmpR op_eq (pe_ix ix_tup (pv 5) pe_int (fun _ _ => rfl)) (pv 1) (nomark _)) (pw_or1 (pt_cmpR op_ne (pe_ix ix_tup (pv 5) pe_int (fun _ _ => rfl)) (pv 2) (nomark _))))) (pss_one ps_continue) pss_nil)
      (pss_one (ps_if (pt_cmpR op_lt (pe_callB (call_max2 rfl) (by rfl) T.n_max (by decide +kernel) (pa_cons (pv 3) (pa_cons (pe_ix ix_tup (pv 5) pe_int (fun _ _ => rfl)) pa_nil))) (pe_callB (call_min2 rfl) (by rfl) T.n_min (by decide +kernel) (pa_cons (pv 4) (pa_cons (pe_ix ix_tup (pv 5) pe_int (fun _ _ => rfl)) pa_nil))) (nomark _)) (pss_one (L2N.ps_raise rfl (L2N.takes_of rfl rfl rfl rfl) (DH.pmkN PySem.F.excBase_ValueError T.x_Crowded.x T.x_Crowded.g T.x_Crowded.k (raises_own T.x_Crowded.b T.x_Crowded.t) (by rfl) (pe_joined (PJ.cons (pe_fmt (pv 1)) (PJ.cons pe_str (PJ.cons (pe_fmt (pe_ix ix_tup (pv 5) pe_int (fun _ _ => rfl))) PJ.nil))))))) pss_nil)))), ?_⟩
    obtain ⟨dx, eo⟩ := hy.ob
    obtain ⟨k1, e1, r1⟩ := hy.bo
    obtain ⟨k2, e2, r2⟩ := hy.tr
    refine ⟨_, rfl, B.y, _, dx, _, _, rfl, eo, T.cl, T.nb, rfl, B.b, k1, rfl, e1, fun l1 n1 => ?_⟩
    have s1 : Same H (upd H l1 (.lst (k1.map (·.2)))) := same_upd n1
    have el1 : (upd H l1 (.lst (k1.map (·.2)))) l1 = some (.lst (k1.map (·.2))) := upd_same
    generalize upd H l1 (.lst (k1.map (·.2))) = Ha at s1 el1 ⊢
    refine ⟨_, rfl, B.y, _, dx, _, _, rfl, s1 _ _ eo, T.cl, T.nt, rfl, B.t, k2, rfl, s1 _ _ e2, fun l2 n2 => ?_⟩
    have s2 : Same Ha (upd Ha l2 (.lst (k2.map (·.2)))) := same_upd n2
    have el2 : (upd Ha l2 (.lst (k2.map (·.2)))) l2 = some (.lst (k2.map (·.2))) := upd_same
    generalize upd Ha l2 (.lst (k2.map (·.2))) = Hb at s2 el2 ⊢
    have ln1 := r1.len
    have ln2 := r2.len
    have le := hy.le
    refine ⟨l1, l2, _, _, rfl, rfl, s2 _ _ el1, el2, ?_, fun l3 n3 => ?_⟩
    · refine sm ?_
      rw [List.length_map, List.length_map]
      omega
    have s3 : Same Hb (upd Hb l3 (.lst (k1.map (·.2) ++ k2.map (·.2)))) := same_upd n3
    have el3 : (upd Hb l3 (.lst (k1.map (·.2) ++ k2.map (·.2)))) l3 = some (.lst (k1.map (·.2) ++ k2.map (·.2))) := upd_same
    generalize upd Hb l3 (.lst (k1.map (·.2) ++ k2.map (·.2))) = Hc at s3 el3 ⊢
    have sc : Same H Hc := s1.trans (s2.trans s3)
    have done := q Hc sc
    have hlen : (k1.map (·.2) ++ k2.map (·.2)).length = (lies Y).length := by
      unfold lies
      simp only [List.length_append, List.length_map]
      omega
    -- each row begins by name, course, left, right
    have pick : ∀ (i : Nat) (x : V), (k1.map (·.2) ++ k2.map (·.2))[i]? = some x → ∃ p n c' l' r' rest, x = .ref p ∧ (lies Y)[i]? = some (n, c', l', r') ∧ Hc p = some (.tup (.str n :: .int c' :: .int l' :: .int r' :: rest)) := by
      intro i x hx
      have lk : (k1.map (·.2)).length = k1.length := List.length_map ..
      by_cases hi : i < k1.length
      · rw [List.getElem?_append_left (by omega)] at hx
        obtain ⟨p, n, a, rfl, ha, hp⟩ := r1.at i x hx
        refine ⟨p, n, a.1, a.2.1, a.2.2.1, [.int a.2.2.2], rfl, ?_, sc _ _ hp⟩
        unfold lies
        rw [List.getElem?_append_left (by rw [List.length_map]; omega), List.getElem?_map, ha]
        rfl
      · rw [List.getElem?_append_right (by omega), lk] at hx
        obtain ⟨p, n, a, rfl, ha, hp⟩ := r2.at _ x hx
        refine ⟨p, n, a.1, a.2.1, a.2.2, [], rfl, ?_, sc _ _ hp⟩
        unfold lies
        rw [List.getElem?_append_right (by rw [List.length_map]; omega), List.length_map, ← ln1, List.getElem?_map, ha]
        rfl
    refine ⟨l3, rfl, ⟨_, SqL.of el3⟩, ?_⟩
    refine for_list (K := K) (a := l3) (xs := k1.map (·.2) ++ k2.map (·.2)) (fun i σ H' => H' = Hc ∧ (∃ y5, σ = [some (.ref B.y), some (.str z), some (.int c), some (.int l), some (.int r), y5]) ∧ ((lies Y).take i).any (meets z c l r) = false)
      ⟨rfl, ⟨_, rfl⟩, rfl⟩ (fun i σ H' _ p => ?_) (fun i x σ H' hx p => ?_) (fun σ H' p => ?_)
    · rw [p.1]
      exact SqL.of el3
    · obtain ⟨rfl, ⟨y5, rfl⟩, hp⟩ := p
      obtain ⟨p, n, c', l', r', rest, rfl, hl, ep⟩ := pick i x hx
      have nx : meets z c l r (n, c', l', r') = false → ((lies Y).take (i + 1)).any (meets z c l r) = false := fun hm => by
        rw [List.take_add_one, hl, List.any_append, hp]
        simp [hm]
      have at0 : atI (.str n :: .int c' :: .int l' :: .int r' :: rest : List V) (0 : Int) = some (.str n) := atI_nat (j := 0) rfl
      have at1 : atI (.str n :: .int c' :: .int l' :: .int r' :: rest : List V) (1 : Int) = some (.int c') := atI_nat (j := 1) rfl
      have at2 : atI (.str n :: .int c' :: .int l' :: .int r' :: rest : List V) (2 : Int) = some (.int l') := atI_nat (j := 2) rfl
      have at3 : atI (.str n :: .int c' :: .int l' :: .int r' :: rest : List V) (3 : Int) = some (.int r') := atI_nat (j := 3) rfl
      refine ⟨_, rfl, p, _, _, _, rfl, rfl, SqT.of ep, at0, _, rfl, rfl, _, rfl, ite2 (fun e => ?_) (fun e => ?_)⟩
      · -- its own row
        refine iteT ⟨rfl, ⟨_, rfl⟩, nx ?_⟩
        have e1 : n = z := V.str.inj (of_decide_eq_true e)
        unfold meets
        simp [e1]
      · have e1 : ¬ n = z := fun y => e (decide_eq_true (by rw [y]))
        refine ⟨_, rfl, p, _, _, _, rfl, rfl, SqT.of ep, at1, _, rfl, rfl, _, rfl, ite2 (fun e2 => ?_) (fun e2 => ?_)⟩
        · refine ⟨rfl, ⟨_, rfl⟩, nx ?_⟩
          have e3 : ¬ c' = c := fun y => by
            rw [y] at e2
            simp at e2
          unfold meets
          simp [e3]
        · have e3 : c' = c := by
            have y := notF e2
            exact V.int.inj (of_decide_eq_true y)
          refine ⟨_, rfl, _, rfl, p, _, _, _, rfl, rfl, SqT.of ep, at2, l, l', rfl, ?_⟩
          refine ⟨_, rfl, _, rfl, p, _, _, _, rfl, rfl, SqT.of ep, at3, r, r', rfl, _, _, rfl, rfl, _, rfl, ite2 (fun e4 => ?_) (fun e4 => ?_)⟩
          · have hm : meets z c l r (n, c', l', r') = true := by
              unfold meets
              simp only [e1, e3, decide_false, decide_true, Bool.not_false, Bool.true_and]
              exact e4
            have hc : crowd Y z c l r = true := by
              unfold crowd
              exact List.any_eq_true.mpr ⟨_, List.mem_of_getElem? hl, hm⟩
            have nl : n.length ≤ 1000 := hq _ (List.mem_of_getElem? hl)
            refine ⟨_, rfl, .inl ⟨z, rfl, sm (by omega), z, rfl, sm (by rw [len_app]; show 0 + z.length ≤ _; omega), _, rfl, ?_, _, rfl, p, _, _, _, rfl, rfl, SqT.of ep, at0, .inl ⟨n, rfl, sm (by omega), n, rfl, ?_, done.2 hc⟩⟩⟩
            · refine sm ?_
              rw [len_app, len_app]
              show 0 + z.length + 38 ≤ _
              omega
            · refine sm ?_
              rw [len_app, len_app, len_app]
              show 0 + z.length + 38 + n.length ≤ _
              omega
          · refine ⟨rfl, ⟨_, rfl⟩, nx ?_⟩
            unfold meets
            simp only [e1, e3, decide_false, decide_true, Bool.not_false, Bool.true_and]
            exact Bool.eq_false_iff.mpr e4
    · obtain ⟨rfl, ⟨y5, rfl⟩, hp⟩ := p
      rw [hlen, List.take_length] at hp
      exact done.1 hp
end
end DY
namespace DY
open PySem PySem.Spec PyProof.Rows L2
section
variable {P : Program} {w : World} {K : PySem.W.Frag} {mg : Str → Option Value} {base : Heap}
inductive Er
  | BadName | Taken | BadCourse | BadPlace | BadWeight | Full | Crowded | NoThing | InUse | NoSack | NoCord | BadCord | BadDeed
  deriving DecidableEq
structure T2 (K : PySem.W.Frag) (mg : Str → Option Value) extends T1 K mg where
  c_MOST_TRESTLES : ∃ t, mg "MOST_TRESTLES" = some (.int 6 t)
  c_MOST_BOARDS : ∃ t, mg "MOST_BOARDS" = some (.int 6 t)
  d_set_trestle : DefF K mg "set_trestle" s_set_trestle ["yard", "name", "course", "left", "right"]
  d_lay_board : DefF K mg "lay_board" s_lay_board ["yard", "name", "course", "left", "right", "weight"]
/-- the faults of a trestle, in their order -/
def faultT (Y : Yd) (n : Str) (c l r : Int) : Option Er :=
  if isName n = false then some .BadName else if taken Y n = true then some .Taken else if isCourse c = false then some .BadCourse else if (isPlace l && isPlace r) = false then some .BadPlace else if r < l then some .BadPlace
  else if 6 ≤ Y.tr.length then some .Full else if crowd Y n c l r = true then some .Crowded else none
def faultB (Y : Yd) (n : Str) (c l r g : Int) : Option Er :=
  if isName n = false then some .BadName else if taken Y n = true then some .Taken else if isCourse c = false then some .BadCourse else if (isPlace l && isPlace r) = false then some .BadPlace else if r ≤ l then some .BadPlace
  else if isWeight g = false then some .BadWeight else if 6 ≤ Y.bo.length then some .Full else if crowd Y n c l r = true then some .Crowded else none
/-- what an action promises: refused with the class of the fault, nothing changed; or done, only the yard's dicts changed -/
def Act (C : Addr) (ec : Er → Addr) (A : YA) (H : Hp) (Q : VK) (E : XK) (f : Option Er) (Y' : Yd) : Prop :=
  (∀ e, f = some e → ∀ H', Same H H' → E (.ref (ec e)) none H') ∧ (f = none → ∀ H', TS H H' → (∀ p o, H p = some o → p ≠ A.b → p ≠ A.t → p ≠ A.s → p ≠ A.c → H' p = some o) → IsY C A H' Y' → Q .non H')
def nmOk (Y : Yd) : Prop := ∀ q ∈ lies Y, q.1.length ≤ 1000
def spTr (C : Addr) (ec : Er → Addr) : Sp := fun vs H Q E => ∃ (A : YA) (Y : Yd) (n : Str) (c l r : Int), vs = [.ref A.y, .str n, .int c, .int l, .int r] ∧ IsY C A H Y ∧ n.length ≤ 1000 ∧ nmOk Y ∧ Act C ec A H Q E (faultT Y n c l r) { Y with tr := Y.tr ++ [(n, c, l, r)] }
def spBo (C : Addr) (ec : Er → Addr) : Sp := fun vs H Q E => ∃ (A : YA) (Y : Yd) (n : Str) (c l r g : Int), vs = [.ref A.y, .str n, .int c, .int l, .int r, .int g] ∧ IsY C A H Y ∧ n.length ≤ 1000 ∧ nmOk Y ∧ Act C ec A H Q E (faultB Y n c l r g) { Y with bo := Y.bo ++ [(n, c, l, r, g)] }
def ec (T : T1 K mg) : Er → Addr
  | .BadName => T.x_BadName.a
  | .Taken => T.x_Taken.a
  | .BadCourse => T.x_BadCourse.a
  | .BadPlace => T.x_BadPlace.a
  | .BadWeight => T.x_BadWeight.a
  | .Full => T.x_Full.a
  | .Crowded => T.x_Crowded.a
  | .NoThing => T.x_NoThing.a
  | .InUse => T.x_InUse.a
  | .NoSack => T.x_NoSack.a
  | .NoCord => T.x_NoCord.a
  | .BadCord => T.x_BadCord.a
  | .BadDeed => T.x_BadDeed.a
theorem ok_set_trestle (T : T2 K mg) :
    FnOk P w K mg base (L2N.CX P w) 4 T.d_set_trestle.a T.d_set_trestle.d ["yard", "name", "course", "left", "right"] (spTr T.CY (ec T.toT1)) := by
  have G_check_new_name : FnOk P w K mg base (L2N.CX P w) 2 T.d_check_new_name.a T.d_check_new_name.d ["yard", "name"] (spNN T.CY T.x_BadName.a T.x_Taken.a) := ok_check_new_name T.toT1
  have G_check_course : FnOk P w K mg base (L2N.CX P w) 3 T.d_check_course.a T.d_check_course.d ["course"] (spCk isCourse T.x_BadCourse.a) := ok_check_course T.toT0
  have G_check_places : FnOk P w K mg base (L2N.CX P w) 3 T.d_check_places.a T.d_check_places.d ["left", "right"] (spPl T.x_BadPlace.a) := ok_check_places T.toT0
  have G_check_count : FnOk P w K mg base (L2N.CX P w) 1 T.d_check_count.a T.d_check_count.d ["rows", "most"] (spCo T.x_Full.a) := ok_check_count T.toT0
  have G_check_room : FnOk P w K mg base (L2N.CX P w) 1 T.d_check_room.a T.d_check_room.d ["yard", "name", "course", "left", "right"] (spRoom T.CY T.x_Crowded.a) := ok_check_room T.toT1
  obtain ⟨tk, c_MOST_TRESTLES⟩ := T.c_MOST_TRESTLES
  refine DH.okN T.d_set_trestle.F sc_set_trestle (fun vs H Q E h => ?_) (fun cdv A outer s H vs Q E hr h => ?_)
  · obtain ⟨_, _, _, _, _, _, rfl, _⟩ := h
    rfl
  · obtain ⟨B, Y, n, c, l, r, rfl, hy, hz, hq, qe, qn⟩ := h
    have hu := hu_of hr
    refine ⟨_, pss_cons (ps_expr (pe_call G_check_new_name (hr.mono (by decide)) (by rfl) T.d_check_new_name.g T.d_check_new_name.F.kp T.d_check_new_name.b .nil (L2N.passes_call (L2N.takes_of rfl rfl rfl rfl) (fun _ _ _ _ h => h)) (pa_cons (pv 0) (pa_cons (pv 1) pa_nil))))
      (pss_cons (ps_expr (pe_call G_check_course (hr.mono (by decide)) (by rfl) T.d_check_course.g T.d_check_course.F.kp T.d_check_course.b .nil (L2N.passes_call (L2N.takes_of rfl rfl rfl rfl) (fun _ _ _ _ h => h)) (pa_cons (pv 2) pa_nil)))
      (pss_cons (ps_expr (pe_call G_check_places (hr.mono (by decide)) (by rfl) T.d_check_places.g T.d_check_places.F.kp T.d_check_places.b .nil (L2N.passes_call (L2N.takes_of rfl rfl rfl rfl) (fun _ _ _ _ h => h)) (pa_cons (pv 3) (pa_cons (pv 4) pa_nil))))
      (pss_cons (ps_if (pt_cmpR op_gt (pv 3) (pv 4) (nomark _)) (pss_one (L2N.ps_raise rfl (L2N.takes_of rfl rfl rfl rfl) (DH.pmkN PySem.F.excBase_ValueError T.x_BadPlace.x T.x_BadPlace.g T.x_BadPlace.k (raises_own T.x_BadPlace.b T.x_BadPlace.t) (by rfl) pe_str))) pss_nil)
      (pss_cons (ps_expr (pe_call G_check_count (hr.mono (by decide)) (by rfl) T.d_check_count.g T.d_check_count.F.kp T.d_check_count.b .nil (L2N.passes_call (L2N.takes_of rfl rfl rfl rfl) (fun _ _ _ _ h => h)) (pa_cons (pe_fld (pv 0) rfl) (pa_cons (pe_glob (v := .int 6) rfl c_MOST_TRESTLES ⟨_, rfl⟩) pa_nil))))
      (pss_cons (ps_expr (pe_call G_check_room (hr.mono (by decide)) (by rfl) T.d_check_room.g T.d_check_room.F.kp T.d_check_room.b .nil (L2N.passes_call (L2N.takes_of rfl rfl rfl rfl) (fun _ _ _ _ h => h)) (pa_cons (pv 0) (pa_cons (pv 1) (pa_cons (pv 2) (pa_cons (pv 3) (pa_cons (pv 4) pa_nil)))))))
      (pss_one (ps_dput hu (pe_fld (pv 0) rfl) (pv 1) (pe_tup (pa_cons (pv 1) (pa_cons (pv 2) (pa_cons (pv 3) (pa_cons (pv 4) pa_nil))))) rfl))))))), ?_⟩
    refine ⟨_, rfl, _, rfl, B, Y, n, rfl, hy, hz, fun H1 s1 => ⟨fun a1 a2 => ?_, fun a1 => ?_, fun a1 a2 => ?_⟩⟩
    · refine ⟨_, rfl, c, rfl, fun a3 => ?_, fun a3 => ?_⟩
      · refine ⟨_, rfl, _, rfl, l, r, rfl, fun a4 a5 => ?_, fun a4 => ?_⟩
        · have ap : (isPlace l && isPlace r) = true := by rw [a4, a5]; rfl
          refine ⟨_, rfl, _, rfl, _, _, rfl, rfl, _, rfl, ite2 (fun e => ?_) (fun e => ?_)⟩
          · have a6 : r < l := of_decide_eq_true e
            have ef : faultT Y n c l r = some .BadPlace := by
              unfold faultT
              simp [a1, a2, a3, ap, a6]
            exact qe _ ef H1 s1
          · have a6 : ¬ r < l := fun z => e (decide_eq_true z)
            have hy1 := hy.keep s1
            obtain ⟨dx, eo⟩ := hy1.ob
            obtain ⟨k2, e2, r2⟩ := hy1.tr
            have ln2 := r2.len
            refine ⟨_, rfl, B.y, _, dx, _, _, rfl, eo, T.cl, T.nt, rfl, B.t, k2, 6, rfl, e2, fun a7 => ?_, fun a7 => ?_⟩
            · have a8 : ¬ 6 ≤ Y.tr.length := by omega
              refine ⟨_, rfl, _, rfl, _, rfl, _, rfl, _, rfl, B, Y, n, c, l, r, rfl, hy1, hz, hq, fun H2 s2 => ⟨fun a9 => ?_, fun a9 => ?_⟩⟩
              · have ef : faultT Y n c l r = none := by
                  unfold faultT
                  simp [a1, a2, a3, ap, a6, a8, a9]
                refine ⟨_, rfl, _, rfl, _, rfl, _, rfl, by show 4 ≤ sizeLine; decide, fun tp ntp => ?_⟩
                have s3 : Same H2 (upd H2 tp (.tup [.str n, .int c, .int l, .int r])) := same_upd ntp
                have et : (upd H2 tp (.tup [.str n, .int c, .int l, .int r])) tp = some (.tup [.str n, .int c, .int l, .int r]) := upd_same
                have hy3 := (hy1.keep s2).keep s3
                generalize upd H2 tp (.tup [.str n, .int c, .int l, .int r]) = H3 at s3 et hy3 ⊢
                obtain ⟨dx3, eo3⟩ := hy3.ob
                obtain ⟨kb, eb, rb⟩ := hy3.bo
                obtain ⟨kt, et3, rt⟩ := hy3.tr
                obtain ⟨ks, es, rs⟩ := hy3.sa
                obtain ⟨kc, ecc, rc⟩ := hy3.co
                have lt3 := rt.len
                have nv : valV kt (Sum.inr n) = none := by
                  have z := rt.has n
                  have z2 : hasT Y.tr n = false := by
                    unfold taken at a2
                    simp at a2
                    exact a2.2.1
                  rw [z2] at z
                  cases y : valV kt (Sum.inr n) with
                  | none => rfl
                  | some v => rw [y] at z; cases z
                refine ⟨_, rfl, B.y, _, dx3, _, _, rfl, eo3, T.cl, T.nt, rfl, _, rfl, B.t, _, rfl, DPut.k (k := Sum.inr n) et3 ?_, ?_⟩
                · exact small1000 (by have := hy.le; omega)
                · rw [putK_new _ nv]
                  have ts : TS H3 (upd H3 B.t (.dK (kt ++ [(Sum.inr n, .ref tp)]))) := .upd fun xs z => by rw [et3] at z; cases z
                  obtain ⟨n1, n2, n3, n4, n5, n6⟩ := hy.nd
                  have ny : B.y ≠ B.t := fun z => by rw [z, et3] at eo3; cases eo3
                  refine qn ef _ ((TS.of (s1.trans (s2.trans s3))).trans ts) (fun p o e _ nt _ _ => ?_) ⟨⟨dx3, ?_⟩, ⟨kb, ?_, rb.keep ts⟩, ⟨_, upd_same, (rt.keep ts).snoc (ts _ _ et)⟩, ⟨ks, ?_, rs.keep ts⟩, ⟨kc, ?_, rc.keep ts⟩, hy.nd, ?_⟩
                  · rw [upd_ne nt]
                    exact s3 _ _ (s2 _ _ (s1 _ _ e))
                  · rw [upd_ne ny]
                    exact eo3
                  · rw [upd_ne n1]
                    exact eb
                  · rw [upd_ne n4.symm]
                    exact es
                  · rw [upd_ne n5.symm]
                    exact ecc
                  · have := hy.le
                    simp only [List.length_append, List.length_cons, List.length_nil]
                    omega
              · have ef : faultT Y n c l r = some .Crowded := by
                  unfold faultT
                  simp [a1, a2, a3, ap, a6, a8, a9]
                exact qe _ ef H2 (s1.trans s2)
            · have a8 : 6 ≤ Y.tr.length := by omega
              have ef : faultT Y n c l r = some .Full := by
                unfold faultT
                simp [a1, a2, a3, ap, a6, a8]
              exact qe _ ef H1 s1
        · have ap : (isPlace l && isPlace r) = false := by
            rcases a4 with z | z <;> rw [z] <;> simp
          have ef : faultT Y n c l r = some .BadPlace := by
            unfold faultT
            simp [a1, a2, a3, ap]
          exact qe _ ef H1 s1
      · have ef : faultT Y n c l r = some .BadCourse := by
          unfold faultT
          simp [a1, a2, a3]
        exact qe _ ef H1 s1
    · have ef : faultT Y n c l r = some .BadName := by
        unfold faultT
        simp [a1]
      exact qe _ ef H1 s1
    · have ef : faultT Y n c l r = some .Taken := by
        unfold faultT
        simp [a1, a2]
      exact qe _ ef H1 s1
theorem ok_lay_board (T : T2 K mg) :
    FnOk P w K mg base (L2N.CX P w) 4 T.d_lay_board.a T.d_lay_board.d ["yard", "name", "course", "left", "right", "weight"] (spBo T.CY (ec T.toT1)) := by
  have G_check_new_name : FnOk P w K mg base (L2N.CX P w) 2 T.d_check_new_name.a T.d_check_new_name.d ["yard", "name"] (spNN T.CY T.x_BadName.a T.x_Taken.a) := ok_check_new_name T.toT1
  have G_check_course : FnOk P w K mg base (L2N.CX P w) 3 T.d_check_course.a T.d_check_course.d ["course"] (spCk isCourse T.x_BadCourse.a) := ok_check_course T.toT0
  have G_check_places : FnOk P w K mg base (L2N.CX P w) 3 T.d_check_places.a T.d_check_places.d ["left", "right"] (spPl T.x_BadPlace.a) := ok_check_places T.toT0
  have G_check_weight : FnOk P w K mg base (L2N.CX P w) 3 T.d_check_weight.a T.d_check_weight.d ["weight"] (spCk isWeight T.x_BadWeight.a) := ok_check_weight T.toT0
  have G_check_count : FnOk P w K mg base (L2N.CX P w) 1 T.d_check_count.a T.d_check_count.d ["rows", "most"] (spCo T.x_Full.a) := ok_check_count T.toT0
  have G_check_room : FnOk P w K mg base (L2N.CX P w) 1 T.d_check_room.a T.d_check_room.d ["yard", "name", "course", "left", "right"] (spRoom T.CY T.x_Crowded.a) := ok_check_room T.toT1
  obtain ⟨tk, c_MOST_BOARDS⟩ := T.c_MOST_BOARDS
  refine DH.okN T.d_lay_board.F sc_lay_board (fun vs H Q E h => ?_) (fun cdv A outer s H vs Q E hr h => ?_)
  · obtain ⟨_, _, _, _, _, _, _, rfl, _⟩ := h
    rfl
  · obtain ⟨B, Y, n, c, l, r, g, rfl, hy, hz, hq, qe, qn⟩ := h
    have hu := hu_of hr
    refine ⟨_, pss_cons (ps_expr (pe_call G_check_new_name (hr.mono (by decide)) (by rfl) T.d_check_new_name.g T.d_check_new_name.F.kp T.d_check_new_name.b .nil (L2N.passes_call (L2N.takes_of rfl rfl rfl rfl) (fun _ _ _ _ h => h)) (pa_cons (pv 0) (pa_cons (pv 1) pa_nil))))
      (pss_cons (ps_expr (pe_call G_check_course (hr.mono (by decide)) (by rfl) T.d_check_course.g T.d_check_course.F.kp T.d_check_course.b .nil (L2N.passes_call (L2N.takes_of rfl rfl rfl rfl) (fun _ _ _ _ h => h)) (pa_cons (pv 2) pa_nil)))
      (pss_cons (ps_expr (pe_call G_check_places (hr.mono (by decide)) (by rfl) T.d_check_places.g T.d_check_places.F.kp T.d_check_places.b .nil (L2N.passes_call (L2N.takes_of rfl rfl rfl rfl) (fun _ _ _ _ h => h)) (pa_cons (pv 3) (pa_cons (pv 4) pa_nil))))
      (pss_cons (ps_if (pt_cmpR op_ge (pv 3) (pv 4) (nomark _)) (pss_one (L2N.ps_raise rfl (L2N.takes_of rfl rfl rfl rfl) (DH.pmkN PySem.F.excBase_ValueError T.x_BadPlace.x T.x_BadPlace.g T.x_BadPlace.k (raises_own T.x_BadPlace.b T.x_BadPlace.t) (by rfl) pe_str))) pss_nil)
      (pss_cons (ps_expr (pe_call G_check_weight (hr.mono (by decide)) (by rfl) T.d_check_weight.g T.d_check_weight.F.kp T.d_check_weight.b .nil (L2N.passes_call (L2N.takes_of rfl rfl rfl rfl) (fun _ _ _ _ h => h)) (pa_cons (pv 5) pa_nil)))
      (pss_cons (ps_expr (pe_call G_check_count (hr.mono (by decide)) (by rfl) T.d_check_count.g T.d_check_count.F.kp T.d_check_count.b .nil (L2N.passes_call (L2N.takes_of rfl rfl rfl rfl) (fun _ _ _ _ h => h)) (pa_cons (pe_fld (pv 0) rfl) (pa_cons (pe_glob (v := .int 6) rfl c_MOST_BOARDS ⟨_, rfl⟩) pa_nil))))
      (pss_cons (ps_expr (pe_call G_check_room (hr.mono (by decide)) (by rfl) T.d_check_room.g T.d_check_room.F.kp T.d_check_room.b .nil (L2N.passes_call (L2N.takes_of rfl rfl rfl rfl) (fun _ _ _ _ h => h)) (pa_cons (pv 0) (pa_cons (pv 1) (pa_cons (pv 2) (pa_cons (pv 3) (pa_cons (pv 4) pa_nil)))))))
      (pss_one (ps_dput hu (pe_fld (pv 0) rfl) (pv 1) (pe_tup (pa_cons (pv 1) (pa_cons (pv 2) (pa_cons (pv 3) (pa_cons (pv 4) (pa_cons (pv 5) pa_nil)))))) rfl)))))))), ?_⟩
    refine ⟨_, rfl, _, rfl, B, Y, n, rfl, hy, hz, fun H1 s1 => ⟨fun a1 a2 => ?_, fun a1 => ?_, fun a1 a2 => ?_⟩⟩
    · refine ⟨_, rfl, c, rfl, fun a3 => ?_, fun a3 => ?_⟩
      · refine ⟨_, rfl, _, rfl, l, r, rfl, fun a4 a5 => ?_, fun a4 => ?_⟩
        · have ap : (isPlace l && isPlace r) = true := by rw [a4, a5]; rfl
          refine ⟨_, rfl, _, rfl, _, _, rfl, rfl, _, rfl, ite2 (fun e => ?_) (fun e => ?_)⟩
          · have a6 : r ≤ l := of_decide_eq_true e
            have ef : faultB Y n c l r g = some .BadPlace := by
              unfold faultB
              simp [a1, a2, a3, ap, a6]
            exact qe _ ef H1 s1
          · have a6 : ¬ r ≤ l := fun z => e (decide_eq_true z)
            refine ⟨_, rfl, g, rfl, fun aw => ?_, fun aw => ?_⟩
            · have hy1 := hy.keep s1
              obtain ⟨dx, eo⟩ := hy1.ob
              obtain ⟨k2, e2, r2⟩ := hy1.bo
              have ln2 := r2.len
              refine ⟨_, rfl, B.y, _, dx, _, _, rfl, eo, T.cl, T.nb, rfl, B.b, k2, 6, rfl, e2, fun a7 => ?_, fun a7 => ?_⟩
              · have a8 : ¬ 6 ≤ Y.bo.length := by omega
                refine ⟨_, rfl, _, rfl, _, rfl, _, rfl, _, rfl, B, Y, n, c, l, r, rfl, hy1, hz, hq, fun H2 s2 => ⟨fun a9 => ?_, fun a9 => ?_⟩⟩
                · have ef : faultB Y n c l r g = none := by
                    unfold faultB
                    simp [a1, a2, a3, ap, a6, aw, a8, a9]
                  refine ⟨_, rfl, _, rfl, _, rfl, _, rfl, _, rfl, by show 5 ≤ sizeLine; decide, fun tp ntp => ?_⟩
                  have s3 : Same H2 (upd H2 tp (.tup [.str n, .int c, .int l, .int r, .int g])) := same_upd ntp
                  have et : (upd H2 tp (.tup [.str n, .int c, .int l, .int r, .int g])) tp = some (.tup [.str n, .int c, .int l, .int r, .int g]) := upd_same
                  have hy3 := (hy1.keep s2).keep s3
                  generalize upd H2 tp (.tup [.str n, .int c, .int l, .int r, .int g]) = H3 at s3 et hy3 ⊢
                  obtain ⟨dx3, eo3⟩ := hy3.ob
                  obtain ⟨kb, eb, rb⟩ := hy3.bo
                  obtain ⟨kt, et3, rt⟩ := hy3.tr
                  obtain ⟨ks, es, rs⟩ := hy3.sa
                  obtain ⟨kc, ecc, rc⟩ := hy3.co
                  have lt3 := rb.len
                  have nv : valV kb (Sum.inr n) = none := by
                    have z := rb.has n
                    have z2 : hasT Y.bo n = false := by
                      unfold taken at a2
                      simp at a2
                      exact a2.1
                    rw [z2] at z
                    cases y : valV kb (Sum.inr n) with
                    | none => rfl
                    | some v => rw [y] at z; cases z
                  refine ⟨_, rfl, B.y, _, dx3, _, _, rfl, eo3, T.cl, T.nb, rfl, _, rfl, B.b, _, rfl, DPut.k (k := Sum.inr n) eb ?_, ?_⟩
                  · exact small1000 (by have := hy.le; omega)
                  · rw [putK_new _ nv]
                    have ts : TS H3 (upd H3 B.b (.dK (kb ++ [(Sum.inr n, .ref tp)]))) := .upd fun xs z => by rw [eb] at z; cases z
                    obtain ⟨n1, n2, n3, n4, n5, n6⟩ := hy.nd
                    have ny : B.y ≠ B.b := fun z => by rw [z, eb] at eo3; cases eo3
                    refine qn ef _ ((TS.of (s1.trans (s2.trans s3))).trans ts) (fun p o e nt _ _ _ => ?_) ⟨⟨dx3, ?_⟩, ⟨_, upd_same, (rb.keep ts).snoc (ts _ _ et)⟩, ⟨kt, ?_, rt.keep ts⟩, ⟨ks, ?_, rs.keep ts⟩, ⟨kc, ?_, rc.keep ts⟩, hy.nd, ?_⟩
                    · rw [upd_ne nt]
                      exact s3 _ _ (s2 _ _ (s1 _ _ e))
                    · rw [upd_ne ny]
                      exact eo3
                    · rw [upd_ne n1.symm]
                      exact et3
                    · rw [upd_ne n2.symm]
                      exact es
                    · rw [upd_ne n3.symm]
                      exact ecc
                    · have := hy.le
                      simp only [List.length_append, List.length_cons, List.length_nil]
                      omega
                · have ef : faultB Y n c l r g = some .Crowded := by
                    unfold faultB
                    simp [a1, a2, a3, ap, a6, aw, a8, a9]
                  exact qe _ ef H2 (s1.trans s2)
              · have a8 : 6 ≤ Y.bo.length := by omega
                have ef : faultB Y n c l r g = some .Full := by
                  unfold faultB
                  simp [a1, a2, a3, ap, a6, aw, a8]
                exact qe _ ef H1 s1
            · have ef : faultB Y n c l r g = some .BadWeight := by
                unfold faultB
                simp [a1, a2, a3, ap, a6, aw]
              exact qe _ ef H1 s1
        · have ap : (isPlace l && isPlace r) = false := by
            rcases a4 with z | z <;> rw [z] <;> simp
          have ef : faultB Y n c l r g = some .BadPlace := by
            unfold faultB
            simp [a1, a2, a3, ap]
          exact qe _ ef H1 s1
      · have ef : faultB Y n c l r g = some .BadCourse := by
          unfold faultB
          simp [a1, a2, a3]
        exact qe _ ef H1 s1
    · have ef : faultB Y n c l r g = some .BadName := by
        unfold faultB
        simp [a1]
      exact qe _ ef H1 s1
    · have ef : faultB Y n c l r g = some .Taken := by
        unfold faultB
        simp [a1, a2]
      exact qe _ ef H1 s1
end
end DY
namespace DY
open PySem PySem.Spec PyProof.Rows L2
/-! ### sorted names are one list -/
theorem lt_tri : ∀ (a b : List Nat), ltCps a b = false → ltCps b a = false → a = b
  | [], [], _, _ => rfl
  | [], _ :: _, h, _ => by cases h
  | _ :: _, [], _, h => by cases h
  | x :: a, y :: b, h1, h2 => by
    simp only [ltCps, Bool.or_eq_false_iff, decide_eq_false_iff_not, Bool.and_eq_false_iff, beq_eq_false_iff_ne] at h1 h2
    have e : x = y := by omega
    subst e
    rw [lt_tri a b (by simpa using h1.2) (by simpa using h2.2)]
theorem le_tr : ∀ (a b c : List Nat), ltCps b a = false → ltCps c b = false → ltCps c a = false
  | [], _, c, _, h2 => by cases c <;> rfl
  | _ :: _, [], _, h, _ => by cases h
  | _ :: _, _ :: _, [], _, h => by cases h
  | x :: a, y :: b, z :: c, h1, h2 => by
    simp only [ltCps, Bool.or_eq_false_iff, decide_eq_false_iff_not, Bool.and_eq_false_iff, beq_eq_false_iff_ne] at h1 h2 ⊢
    refine ⟨by omega, ?_⟩
    by_cases e : z = x
    · subst e
      have e2 : y = z := by omega
      subst e2
      exact .inr (le_tr a b c (by simpa using h1.2) (by simpa using h2.2))
    · exact .inl e
theorem rising_pw : ∀ (p : Str) (l : List Str), risingS p l = true → (p :: l).Pairwise (fun a b => ltCps b.cps.toList a.cps.toList = false)
  | p, [], _ => List.pairwise_singleton _ _
  | p, x :: r, h => by
    have h' : (!ltCps x.cps.toList p.cps.toList && risingS x r) = true := h
    obtain ⟨h1, h2⟩ := Bool.and_eq_true_iff.mp h'
    have h3 : ltCps x.cps.toList p.cps.toList = false := by simpa using h1
    have ih := rising_pw x r h2
    refine List.pairwise_cons.mpr ⟨fun b hb => ?_, ih⟩
    rcases List.mem_cons.mp hb with e | hb
    · rw [e]
      exact h3
    · exact le_tr _ _ _ h3 (List.rel_of_pairwise_cons ih hb)
theorem sorted_pw : ∀ (l : List Str), sortedS l = true → l.Pairwise (fun a b => ltCps b.cps.toList a.cps.toList = false)
  | [], _ => List.Pairwise.nil
  | x :: r, h => rising_pw x r h
theorem str_ext {a b : Str} (h : a.cps.toList = b.cps.toList) : a = b := by
  cases a
  cases b
  simp only [Str.mk.injEq]
  exact Array.ext' h
theorem sorted_one {a b c : List Str} (ha : a.Perm c) (hb : b.Perm c) (sa : sortedS a = true) (sb : sortedS b = true) : a = b :=
  (ha.trans hb.symm).eq_of_pairwise (fun x y _ _ h1 h2 => str_ext (lt_tri _ _ h2 h1)) (sorted_pw a sa) (sorted_pw b sb)
/-! ### the rows by their names -/
structure T3 (w : World) (K : PySem.W.Frag) (mg : Str → Option Value) extends T2 K mg where
  d_rows_by_names : DefF K mg "rows_by_names" s_rows_by_names ["rows"]
/-- ys: the names, sorted -/
def Srt {α : Type} (T : List (Str × α)) (ys : List Str) : Prop := ys.Perm (T.map (·.1)) ∧ sortedS ys = true
/-- a list of rows that stand for T, by their names -/
def Told {α : Type} (H : Hp) (f : Str → α → List V) (T : List (Str × α)) (vs : List V) : Prop := ∃ ys, Srt T ys ∧ Paired (fun n v => ∃ p x, v = V.ref p ∧ getT T n = some x ∧ H p = some (.tup (f n x))) ys vs
theorem paired_keep {α : Type} {f : Str → α → List V} {T : List (Str × α)} {H H' : Hp} (s : TS H H') : ∀ {ys : List Str} {vs : List V}, Paired (fun n v => ∃ p x, v = V.ref p ∧ getT T n = some x ∧ H p = some (.tup (f n x))) ys vs → Paired (fun n v => ∃ p x, v = V.ref p ∧ getT T n = some x ∧ H' p = some (.tup (f n x))) ys vs
  | _, _, .nil => .nil
  | _, _, .cons ⟨p, x, e1, e2, e3⟩ t => .cons ⟨p, x, e1, e2, s _ _ e3⟩ (paired_keep s t)
theorem paired_snoc {α β : Type} {R : α → β → Prop} {x : α} {y : β} (h : R x y) : ∀ {xs : List α} {ys : List β}, Paired R xs ys → Paired R (xs ++ [x]) (ys ++ [y])
  | _, _, .nil => .cons h .nil
  | _, _, .cons h0 t => .cons h0 (paired_snoc h t)
theorem Told.keep {α : Type} {H H' : Hp} {f : Str → α → List V} {T : List (Str × α)} {vs : List V} (s : TS H H') (h : Told H f T vs) : Told H' f T vs := by
  obtain ⟨ys, hs, hp⟩ := h
  exact ⟨ys, hs, paired_keep s hp⟩
def spRN {α : Type} (f : Str → α → List V) : Sp := fun vs H Q _ => ∃ (a : Addr) (kvs : List (Key × V)) (T : List (Str × α)), vs = [.ref a] ∧ H a = some (.dK kvs) ∧ Rows H f kvs T ∧ T.length < 64 ∧ ∀ H' p us, Same H H' → H p = none → H' p = some (.lst us) → Told H' f T us → Q (.ref p) H'
theorem has_mem {α : Type} {T : List (Str × α)} {n : Str} (h : n ∈ T.map (·.1)) : ∃ x, getT T n = some x := by
  obtain ⟨q, hq, rfl⟩ := List.mem_map.mp h
  unfold getT
  cases e : T.find? (fun r => decide (r.1 = q.1)) with
  | none =>
    have := List.find?_eq_none.mp e q hq
    simp at this
  | some r => exact ⟨r.2, rfl⟩
section
variable {P : Program} {w : World} {K : PySem.W.Frag} {mg : Str → Option Value} {base : Heap}
theorem ok_rows_by_names {α : Type} (f : Str → α → List V) (T : T3 w K mg) : FnOk P w K mg base CX0 1 T.d_rows_by_names.a T.d_rows_by_names.d ["rows"] (spRN f) := by
  refine T.d_rows_by_names.F.ok sc_rows_by_names (fun vs H Q E h => ?_) (fun cdv A outer s H vs Q E hr h => ?_)
  · obtain ⟨_, _, _, rfl, _⟩ := h
    rfl
  · obtain ⟨a, kvs, Tb, rfl, ha, r, hl, q⟩ := h
    have hu := hu_of hr
    refine ⟨_, pss_one (ps_ret (pe_lc (own := [("name", 1)]) (g := (gName 1)) (tt := tYes) (by rfl) sc_rows_by_names.nd (pi_list (pe_callB (call_sortedD rfl) (by rfl) T.n_sorted (by decide +kernel) (pa_cons (pv 0) pa_nil))) (blkOk_by (N := N_rows_by_names) (sc := defScope s_rows_by_names) (by decide +kernel)) (fun _ _ _ _ _ => (pg_name (i := 1) sc_rows_by_names.nd rfl (Or.inl rfl))) (fun _ _ _ _ _ => pts_nil) (fun _ _ _ _ _ => (pe_dget hu (pv 0) (pv 1) (fun _ _ => rfl))))), ?_⟩
    refine ⟨_, rfl, a, kvs, Tb.map (·.1), rfl, .inl ha, r.keys, by rw [List.length_map]; exact hl, fun ys p hp hs np => ?_⟩
    have s1 : Same H (upd H p (.lst (ys.map V.str))) := same_upd np
    have ep : (upd H p (.lst (ys.map V.str))) p = some (.lst (ys.map V.str)) := upd_same
    generalize upd H p (.lst (ys.map V.str)) = H1 at s1 ep ⊢
    refine ⟨p, rfl, ⟨_, SqL.of ep⟩, fun D nD => ?_⟩
    refine lc_list (K := K) (a := p) (xs := ys.map V.str) (fun i H' => Same H1 H' ∧ ∃ us, H' D = some (.lst us) ∧ us.length = i ∧ Paired (fun n v => ∃ p x, v = V.ref p ∧ getT Tb n = some x ∧ H' p = some (.tup (f n x))) (ys.take i) us)
      ⟨same_upd nD, [], upd_same, rfl, .nil⟩ (fun i H' _ p => SqL.of (p.1 _ _ ep)) (fun i x H' hx p => ?_) (fun H' p => ?_)
    · obtain ⟨sm', us, eD, hus, pd⟩ := p
      obtain ⟨n, hn, rfl⟩ : ∃ n, ys[i]? = some n ∧ x = .str n := by
        rw [List.getElem?_map] at hx
        cases e : ys[i]? with
        | none => rw [e] at hx; cases hx
        | some n => rw [e] at hx; exact ⟨n, rfl, (Option.some.inj hx).symm⟩
      have hm : n ∈ Tb.map (·.1) := hp.mem_iff.mp (List.mem_of_getElem? hn)
      obtain ⟨x, hx2⟩ := has_mem hm
      have ts := TS.of (s1.trans sm')
      rcases (r.keep ts).get n with ⟨_, z⟩ | ⟨pr, x', hv, hx3, er⟩
      · rw [z] at hx2
        cases hx2
      · have hi : i < ys.length := (List.getElem?_eq_some_iff.mp hn).1
        have hyl : ys.length = Tb.length := by rw [hp.length_eq, List.length_map]
        refine ⟨rfl, yes (iteT ?_)⟩
        refine ⟨_, rfl, _, rfl, a, .ref pr, rfl, ?_, us, eD, ?_, ?_, us ++ [.ref pr], ?_, ?_, ?_⟩
        · have z := DGet.k (k := Sum.inr n) (s1.trans sm' _ _ ha)
          rw [hv] at z
          exact z
        · exact small1000 (by omega)
        · intro b o e
          rw [upd_ne (ne_of_none e nD)]
          exact sm' _ _ e
        · rw [upd_same]
        · rw [List.length_append, hus]
          rfl
        · have ts2 : TS H' (upd H' D (.lst (us ++ [.ref pr]))) := .upd fun xs z => by rw [eD] at z; cases z
          rw [List.take_add_one, hn]
          exact paired_snoc ⟨pr, x', rfl, hx3, ts2 _ _ er⟩ (paired_keep ts2 pd)
    · obtain ⟨sm', us, eD, hus, pd⟩ := p
      rw [List.length_map, List.take_length] at pd
      exact q H' D us (s1.trans sm') (s1.free nD) eD ⟨ys, ⟨hp, hs⟩, pd⟩
end
end DY
namespace DY
open PySem PySem.Spec PyProof.Rows L2
abbrev s_check_on_board : Stmt := topS 42
abbrev N_check_on_board : List Str := ["row", "place"]
theorem sc_check_on_board : FnScope N_check_on_board ["row", "place"] (defScope s_check_on_board) := ⟨rfl, rfl, rfl, by decide +kernel, rfl, by decide +kernel, by decide +kernel⟩
abbrev s_board_row : Stmt := topS 43
abbrev N_board_row : List Str := ["yard", "name"]
theorem sc_board_row : FnScope N_board_row ["yard", "name"] (defScope s_board_row) := ⟨rfl, rfl, rfl, by decide +kernel, rfl, by decide +kernel, by decide +kernel⟩
abbrev s_board_or_trestle_row : Stmt := topS 44
abbrev N_board_or_trestle_row : List Str := ["yard", "name"]
theorem sc_board_or_trestle_row : FnScope N_board_or_trestle_row ["yard", "name"] (defScope s_board_or_trestle_row) := ⟨rfl, rfl, rfl, by decide +kernel, rfl, by decide +kernel, by decide +kernel⟩
abbrev s_sack_row : Stmt := topS 45
abbrev N_sack_row : List Str := ["yard", "name"]
theorem sc_sack_row : FnScope N_sack_row ["yard", "name"] (defScope s_sack_row) := ⟨rfl, rfl, rfl, by decide +kernel, rfl, by decide +kernel, by decide +kernel⟩
abbrev s_cord_row : Stmt := topS 46
abbrev N_cord_row : List Str := ["yard", "name"]
theorem sc_cord_row : FnScope N_cord_row ["yard", "name"] (defScope s_cord_row) := ⟨rfl, rfl, rfl, by decide +kernel, rfl, by decide +kernel, by decide +kernel⟩
abbrev s_check_no_cord : Stmt := topS 47
abbrev N_check_no_cord : List Str := ["yard", "name", "row"]
theorem sc_check_no_cord : FnScope N_check_no_cord ["yard", "name"] (defScope s_check_no_cord) := ⟨rfl, rfl, rfl, by decide +kernel, rfl, by decide +kernel, by decide +kernel⟩
abbrev s_check_no_sack : Stmt := topS 48
abbrev N_check_no_sack : List Str := ["yard", "name", "row"]
theorem sc_check_no_sack : FnScope N_check_no_sack ["yard", "name"] (defScope s_check_no_sack) := ⟨rfl, rfl, rfl, by decide +kernel, rfl, by decide +kernel, by decide +kernel⟩
/-- an exception leaves while a dict is walked -/
theorem takesU {X : Cx} {W : WX} (tk : L2N.Takes X W) : L2N.Takes X (fun cls d σ H => ∃ a od u, H a = some (.frz od u) ∧ (∀ o' u', X.H_0 a ≠ some (.frz o' u')) ∧ W cls d σ (upd H a u)) := fun u s' x => by
  obtain ⟨a, B, sI, pins, σ, H, cls, d, e, I, nb, up, sky, na, os, ag, a1, od, u1, h1, h2, w⟩ := x
  refine tk _ _ ⟨a, B, sI, pins, σ, upd H a1 u1, cls, d, e, I.unlock h1 h2, nb, up, sky, ?_, os, ag, w⟩
  rw [upd_ne (ne_of_none h1 na).symm]
  exact na
theorem upd_back {H : Hp} {a : Addr} {x y : HO} (e : H a = some y) : upd (upd H a x) a y = H := by
  funext b
  by_cases z : b = a
  · rw [z, upd_same, e]
  · rw [upd_ne z, upd_ne z]
structure T5 (w : World) (K : PySem.W.Frag) (mg : Str → Option Value) extends T3 w K mg where
  d_check_on_board : DefF K mg "check_on_board" s_check_on_board ["row", "place"]
  d_board_row : DefF K mg "board_row" s_board_row ["yard", "name"]
  d_board_or_trestle_row : DefF K mg "board_or_trestle_row" s_board_or_trestle_row ["yard", "name"]
  d_sack_row : DefF K mg "sack_row" s_sack_row ["yard", "name"]
  d_cord_row : DefF K mg "cord_row" s_cord_row ["yard", "name"]
  d_check_no_cord : DefF K mg "check_no_cord" s_check_no_cord ["yard", "name"]
  d_check_no_sack : DefF K mg "check_no_sack" s_check_no_sack ["yard", "name"]
/-- a text that is short, also when shown -/
def Nm (z : Str) : Prop := z.length ≤ 1000 ∧ ∀ c ∈ z.cps.toList, c < 16 ^ 8
theorem Nm.repr {z : Str} (h : Nm z) : (reprText z).length ≤ 10002 := by
  have := PySem.StrLaws.reprText_len z h.2
  have := h.1
  omega
def onB (l r i : Int) : Bool := isPlace i && (decide (l ≤ i) && decide (i ≤ r))
section
variable {P : Program} {w : World} {K : PySem.W.Frag} {mg : Str → Option Value} {base : Heap}
def spOn (K : PySem.W.Frag) (C1 : Addr) : Sp := fun vs H Q E => ∃ (p : Addr) (n : Str) (c l r i : Int) (rest : List V), vs = [.ref p, .int i] ∧ SqT K H p (.str n :: .int c :: .int l :: .int r :: rest) ∧ n.length ≤ 1000 ∧ (onB l r i = true → Q .non H) ∧ (onB l r i = false → E (.ref C1) none H)
theorem ok_check_on_board (T : T5 w K mg) : FnOk P w K mg base (L2N.CX P w) 3 T.d_check_on_board.a T.d_check_on_board.d ["row", "place"] (spOn K T.x_BadPlace.a) := by
  have G_is_place : FnOk P w K mg base CX0 2 T.d_is_place.a T.d_is_place.d ["value"] (spIs isPlace) := ok_is_place T.toT0
  refine DH.okN T.d_check_on_board.F sc_check_on_board (fun vs H Q E h => ?_) (fun cdv A outer s H vs Q E hr h => ?_)
  · obtain ⟨_, _, _, _, _, _, _, rfl, _⟩ := h
    rfl
  · obtain ⟨p, n, c, l, r, i, rest, rfl, ep, hn, q1, q2⟩ := h
    refine ⟨_, pss_one (ps_if (PW.pt (pw_or (pt_not (pt_val (pe_call G_is_place (hr.mono (by decide)) (by rfl) T.d_is_place.g T.d_is_place.F.kp T.d_is_place.b .nil pass0 (pa_cons (pv 1) pa_nil)))) (pw_or1 (pt_not (pt_chain op_le op_le (pe_ix ix_tup (pv 0) pe_int (fun _ _ => rfl)) (pv 1) (pe_ix ix_tup (pv 0) pe_int (fun _ _ => rfl))))))) (pss_one (L2N.ps_raise rfl (L2N.takes_of rfl rfl rfl rfl) (DH.pmkN PySem.F.excBase_ValueError T.x_BadPlace.x T.x_BadPlace.g T.x_BadPlace.k (raises_own T.x_BadPlace.b T.x_BadPlace.t) (by rfl) (pe_joined (PJ.cons pe_str (PJ.cons (pe_fmt (pe_ix ix_tup (pv 0) pe_int (fun _ _ => rfl))) PJ.nil)))))) pss_nil), ?_⟩
    have at0 : atI (.str n :: .int c :: .int l :: .int r :: rest : List V) (0 : Int) = some (.str n) := atI_nat (j := 0) rfl
    have at2 : atI (.str n :: .int c :: .int l :: .int r :: rest : List V) (2 : Int) = some (.int l) := atI_nat (j := 2) rfl
    have at3 : atI (.str n :: .int c :: .int l :: .int r :: rest : List V) (3 : Int) = some (.int r) := atI_nat (j := 3) rfl
    have bad : onB l r i = false → (E (.ref T.x_BadPlace.a) none H) := q2
    have out : onB l r i = false → tJs [tC (.str "that place is not on "), tFmt (tOp (rIxT K) (tVar 0) (tC (.int 0)))] Str.empty [some (.ref p), some (.int i)] H fun out H1 => E (.ref T.x_BadPlace.a) none H1 := fun hb => by
      refine ⟨_, rfl, ?_, _, rfl, p, _, _, _, rfl, rfl, ep, at0, .inl ⟨n, rfl, sm (by omega), n, rfl, ?_, q2 hb⟩⟩
      · exact sm (by decide)
      · refine sm ?_
        rw [len_app, len_app]
        show 0 + 21 + n.length ≤ _
        omega
    refine ⟨_, rfl, i, rfl, _, rfl, ite2 (fun e => ?_) (fun e => ?_)⟩
    · refine iteT (out ?_)
      unfold onB
      rw [notT e, Bool.false_and]
    · have e1 := notF e
      refine ⟨_, rfl, p, _, _, _, rfl, rfl, ep, at2, _, rfl, _, _, rfl, rfl, _, rfl, ite2 (fun e2 => ?_) (fun e2 => ?_)⟩
      · refine ⟨_, rfl, p, _, _, _, rfl, rfl, ep, at3, _, _, rfl, rfl, _, rfl, ite2 (fun e3 => ?_) (fun e3 => ?_)⟩
        · refine out ?_
          unfold onB
          rw [show decide (i ≤ r) = false from notT e3, Bool.and_false, Bool.and_false]
        · refine q1 ?_
          unfold onB
          rw [e1, show decide (l ≤ i) = true from e2, show decide (i ≤ r) = true from notF e3]
          rfl
      · refine ⟨_, rfl, iteT (out ?_)⟩
        unfold onB
        rw [show decide (l ≤ i) = false from Bool.eq_false_iff.mpr e2, Bool.false_and, Bool.and_false]
def spBR {α : Type} (C : Addr) (f : Str → α → List V) (g : Yd → List (Str × α)) (C1 : Addr) : Sp := fun vs H Q E => ∃ (A : YA) (Y : Yd) (n : Str), vs = [.ref A.y, .str n] ∧ IsY C A H Y ∧ Nm n ∧ (∀ x p, getT (g Y) n = some x → H p = some (.tup (f n x)) → Q (.ref p) H) ∧ (getT (g Y) n = none → E (.ref C1) none H)
theorem ok_board_row (T : T5 w K mg) : FnOk P w K mg base (L2N.CX P w) 1 T.d_board_row.a T.d_board_row.d ["yard", "name"] (spBR T.CY boP (·.bo) T.x_NoThing.a) := by
  refine DH.okN T.d_board_row.F sc_board_row (fun vs H Q E h => ?_) (fun cdv A outer s H vs Q E hr h => ?_)
  · obtain ⟨_, _, _, rfl, _⟩ := h
    rfl
  · obtain ⟨B, Y, n, rfl, hy, hn, q1, q2⟩ := h
    have hu := hu_of hr
    refine ⟨_, pss_cons (ps_if (pt_cmp (pc_dnotin hu (pv 1) (pe_fld (pv 0) rfl))) (pss_one (L2N.ps_raise rfl (L2N.takes_of rfl rfl rfl rfl) (DH.pmkN PySem.F.excBase_ValueError T.x_NoThing.x T.x_NoThing.g T.x_NoThing.k (raises_own T.x_NoThing.b T.x_NoThing.t) (by rfl) (pe_joined (PJ.cons pe_str (PJ.cons (pe_fmtR (pv 1)) PJ.nil)))))) pss_nil)
      (pss_one (ps_ret (pe_dget hu (pe_fld (pv 0) rfl) (pv 1) (fun _ _ => rfl)))), ?_⟩
    obtain ⟨dx, eo⟩ := hy.ob
    obtain ⟨k, e, r⟩ := hy.bo
    rcases r.get n with ⟨g1, g2⟩ | ⟨p, x, g1, g2, g3⟩
    · refine ⟨_, rfl, _, rfl, B.y, _, dx, _, _, rfl, eo, T.cl, T.nb, rfl, B.b, _, rfl, DGet.k (k := Sum.inr n) e, _, rfl, ?_⟩
      rw [g1]
      refine iteT ?_
      have hr' := hn.repr
      refine ⟨_, rfl, sm (by decide), _, rfl, .inl ⟨n, rfl, sm (by omega), _, rfl, ?_, q2 g2⟩⟩
      refine sm ?_
      rw [len_app, len_app]
      show 0 + 18 + _ ≤ _
      omega
    · refine ⟨_, rfl, _, rfl, B.y, _, dx, _, _, rfl, eo, T.cl, T.nb, rfl, B.b, _, rfl, DGet.k (k := Sum.inr n) e, _, rfl, ?_⟩
      rw [g1]
      refine iteF ?_
      exact ⟨_, rfl, B.y, _, dx, _, _, rfl, eo, T.cl, T.nb, rfl, _, rfl, B.b, _, rfl, by rw [← g1]; exact DGet.k (k := Sum.inr n) e, q1 x p g2 g3⟩
theorem ok_sack_row (T : T5 w K mg) : FnOk P w K mg base (L2N.CX P w) 1 T.d_sack_row.a T.d_sack_row.d ["yard", "name"] (spBR T.CY saP (·.sa) T.x_NoSack.a) := by
  refine DH.okN T.d_sack_row.F sc_sack_row (fun vs H Q E h => ?_) (fun cdv A outer s H vs Q E hr h => ?_)
  · obtain ⟨_, _, _, rfl, _⟩ := h
    rfl
  · obtain ⟨B, Y, n, rfl, hy, hn, q1, q2⟩ := h
    have hu := hu_of hr
    refine ⟨_, pss_cons (ps_if (pt_cmp (pc_dnotin hu (pv 1) (pe_fld (pv 0) rfl))) (pss_one (L2N.ps_raise rfl (L2N.takes_of rfl rfl rfl rfl) (DH.pmkN PySem.F.excBase_ValueError T.x_NoSack.x T.x_NoSack.g T.x_NoSack.k (raises_own T.x_NoSack.b T.x_NoSack.t) (by rfl) (pe_joined (PJ.cons pe_str (PJ.cons (pe_fmtR (pv 1)) PJ.nil)))))) pss_nil)
      (pss_one (ps_ret (pe_dget hu (pe_fld (pv 0) rfl) (pv 1) (fun _ _ => rfl)))), ?_⟩
    obtain ⟨dx, eo⟩ := hy.ob
    obtain ⟨k, e, r⟩ := hy.sa
    rcases r.get n with ⟨g1, g2⟩ | ⟨p, x, g1, g2, g3⟩
    · refine ⟨_, rfl, _, rfl, B.y, _, dx, _, _, rfl, eo, T.cl, T.ns, rfl, B.s, _, rfl, DGet.k (k := Sum.inr n) e, _, rfl, ?_⟩
      rw [g1]
      refine iteT ?_
      have hr' := hn.repr
      refine ⟨_, rfl, sm (by decide), _, rfl, .inl ⟨n, rfl, sm (by omega), _, rfl, ?_, q2 g2⟩⟩
      refine sm ?_
      rw [len_app, len_app]
      show 0 + 17 + _ ≤ _
      omega
    · refine ⟨_, rfl, _, rfl, B.y, _, dx, _, _, rfl, eo, T.cl, T.ns, rfl, B.s, _, rfl, DGet.k (k := Sum.inr n) e, _, rfl, ?_⟩
      rw [g1]
      refine iteF ?_
      exact ⟨_, rfl, B.y, _, dx, _, _, rfl, eo, T.cl, T.ns, rfl, _, rfl, B.s, _, rfl, by rw [← g1]; exact DGet.k (k := Sum.inr n) e, q1 x p g2 g3⟩
theorem ok_cord_row (T : T5 w K mg) : FnOk P w K mg base (L2N.CX P w) 1 T.d_cord_row.a T.d_cord_row.d ["yard", "name"] (spBR T.CY coP (·.co) T.x_NoCord.a) := by
  refine DH.okN T.d_cord_row.F sc_cord_row (fun vs H Q E h => ?_) (fun cdv A outer s H vs Q E hr h => ?_)
  · obtain ⟨_, _, _, rfl, _⟩ := h
    rfl
  · obtain ⟨B, Y, n, rfl, hy, hn, q1, q2⟩ := h
    have hu := hu_of hr
    refine ⟨_, pss_cons (ps_if (pt_cmp (pc_dnotin hu (pv 1) (pe_fld (pv 0) rfl))) (pss_one (L2N.ps_raise rfl (L2N.takes_of rfl rfl rfl rfl) (DH.pmkN PySem.F.excBase_ValueError T.x_NoCord.x T.x_NoCord.g T.x_NoCord.k (raises_own T.x_NoCord.b T.x_NoCord.t) (by rfl) (pe_joined (PJ.cons pe_str (PJ.cons (pe_fmtR (pv 1)) PJ.nil)))))) pss_nil)
      (pss_one (ps_ret (pe_dget hu (pe_fld (pv 0) rfl) (pv 1) (fun _ _ => rfl)))), ?_⟩
    obtain ⟨dx, eo⟩ := hy.ob
    obtain ⟨k, e, r⟩ := hy.co
    rcases r.get n with ⟨g1, g2⟩ | ⟨p, x, g1, g2, g3⟩
    · refine ⟨_, rfl, _, rfl, B.y, _, dx, _, _, rfl, eo, T.cl, T.nc, rfl, B.c, _, rfl, DGet.k (k := Sum.inr n) e, _, rfl, ?_⟩
      rw [g1]
      refine iteT ?_
      have hr' := hn.repr
      refine ⟨_, rfl, sm (by decide), _, rfl, .inl ⟨n, rfl, sm (by omega), _, rfl, ?_, q2 g2⟩⟩
      refine sm ?_
      rw [len_app, len_app]
      show 0 + 17 + _ ≤ _
      omega
    · refine ⟨_, rfl, _, rfl, B.y, _, dx, _, _, rfl, eo, T.cl, T.nc, rfl, B.c, _, rfl, DGet.k (k := Sum.inr n) e, _, rfl, ?_⟩
      rw [g1]
      refine iteF ?_
      exact ⟨_, rfl, B.y, _, dx, _, _, rfl, eo, T.cl, T.nc, rfl, _, rfl, B.c, _, rfl, by rw [← g1]; exact DGet.k (k := Sum.inr n) e, q1 x p g2 g3⟩
def spBT (C C1 : Addr) : Sp := fun vs H Q E => ∃ (A : YA) (Y : Yd) (n : Str), vs = [.ref A.y, .str n] ∧ IsY C A H Y ∧ Nm n ∧ (∀ x p, getT Y.tr n = some x → H p = some (.tup (trP n x)) → Q (.ref p) H) ∧ (∀ x p, getT Y.tr n = none → getT Y.bo n = some x → H p = some (.tup (boP n x)) → Q (.ref p) H) ∧ (getT Y.tr n = none → getT Y.bo n = none → E (.ref C1) none H)
theorem ok_board_or_trestle_row (T : T5 w K mg) : FnOk P w K mg base (L2N.CX P w) 1 T.d_board_or_trestle_row.a T.d_board_or_trestle_row.d ["yard", "name"] (spBT T.CY T.x_NoThing.a) := by
  refine DH.okN T.d_board_or_trestle_row.F sc_board_or_trestle_row (fun vs H Q E h => ?_) (fun cdv A outer s H vs Q E hr h => ?_)
  · obtain ⟨_, _, _, rfl, _⟩ := h
    rfl
  · obtain ⟨B, Y, n, rfl, hy, hn, q1, q2, q3⟩ := h
    have hu := hu_of hr
    refine ⟨_, pss_cons (ps_if (pt_cmp (pc_din hu (pv 1) (pe_fld (pv 0) rfl))) (pss_one (ps_ret (pe_dget hu (pe_fld (pv 0) rfl) (pv 1) (fun _ _ => rfl)))) pss_nil)
      (pss_cons (ps_if (pt_cmp (pc_din hu (pv 1) (pe_fld (pv 0) rfl))) (pss_one (ps_ret (pe_dget hu (pe_fld (pv 0) rfl) (pv 1) (fun _ _ => rfl)))) pss_nil)
      (pss_one (L2N.ps_raise rfl (L2N.takes_of rfl rfl rfl rfl) (DH.pmkN PySem.F.excBase_ValueError T.x_NoThing.x T.x_NoThing.g T.x_NoThing.k (raises_own T.x_NoThing.b T.x_NoThing.t) (by rfl) (pe_joined (PJ.cons pe_str (PJ.cons (pe_fmtR (pv 1)) PJ.nil))))))), ?_⟩
    obtain ⟨dx, eo⟩ := hy.ob
    obtain ⟨k, e, r⟩ := hy.tr
    obtain ⟨k2, e2, r2⟩ := hy.bo
    refine ⟨_, rfl, _, rfl, B.y, _, dx, _, _, rfl, eo, T.cl, T.nt, rfl, B.t, _, rfl, DGet.k (k := Sum.inr n) e, _, rfl, ?_⟩
    rcases r.get n with ⟨g1, g2⟩ | ⟨p, x, g1, g2, g3⟩
    · rw [g1]
      refine iteF ?_
      refine ⟨_, rfl, _, rfl, B.y, _, dx, _, _, rfl, eo, T.cl, T.nb, rfl, B.b, _, rfl, DGet.k (k := Sum.inr n) e2, _, rfl, ?_⟩
      rcases r2.get n with ⟨h1, h2⟩ | ⟨p, x, h1, h2, h3⟩
      · rw [h1]
        refine iteF ?_
        have hr' := hn.repr
        refine ⟨_, rfl, sm (by decide), _, rfl, .inl ⟨n, rfl, sm (by omega), _, rfl, ?_, q3 g2 h2⟩⟩
        refine sm ?_
        rw [len_app, len_app]
        show 0 + 29 + _ ≤ _
        omega
      · rw [h1]
        refine iteT ?_
        exact ⟨_, rfl, B.y, _, dx, _, _, rfl, eo, T.cl, T.nb, rfl, _, rfl, B.b, _, rfl, by rw [← h1]; exact DGet.k (k := Sum.inr n) e2, q2 x p g2 h2 h3⟩
    · rw [g1]
      refine iteT ?_
      exact ⟨_, rfl, B.y, _, dx, _, _, rfl, eo, T.cl, T.nt, rfl, _, rfl, B.t, _, rfl, by rw [← g1]; exact DGet.k (k := Sum.inr n) e, q1 x p g2 g3⟩
def sacked (Y : Yd) (n : Str) : Bool := Y.sa.any fun q => decide (q.2.1 = n)
def corded (Y : Yd) (n : Str) : Bool := Y.co.any fun q => decide (q.2.1 = n) || decide (q.2.2.1 = n)
def spNo (C : Addr) (g : Yd → Str → Bool) (L : Yd → List Str) (C1 : Addr) : Sp := fun vs H Q E => ∃ (A : YA) (Y : Yd) (n : Str), vs = [.ref A.y, .str n] ∧ IsY C A H Y ∧ Nm n ∧ (∀ z ∈ L Y, z.length ≤ 1000) ∧ (g Y n = false → Q .non H) ∧ (g Y n = true → E (.ref C1) none H)
theorem ok_check_no_cord (T : T5 w K mg) : FnOk P w K mg base (L2N.CX P w) 1 T.d_check_no_cord.a T.d_check_no_cord.d ["yard", "name"] (spNo T.CY corded (fun Y => Y.co.map (·.1)) T.x_InUse.a) := by
  refine DH.okN T.d_check_no_cord.F sc_check_no_cord (fun vs H Q E h => ?_) (fun cdv A outer s H vs Q E hr h => ?_)
  · obtain ⟨_, _, _, rfl, _⟩ := h
    rfl
  · obtain ⟨B, Y, n, rfl, hy, hn, hl, q1, q2⟩ := h
    refine ⟨_, pss_one (ps_lock (ps_for PassesOwn.leaving rfl (pi_values (pe_fld (pv 0) rfl)) (pg_name (i := 2) sc_check_no_cord.nd rfl (Or.inl rfl))
        (pss_one (ps_if (PW.pt (pw_or (pt_cmpR op_eq (pe_ix ix_tup (pv 2) pe_int (fun _ _ => rfl)) (pv 1) (nomark _)) (pw_or1 (pt_cmpR op_eq (pe_ix ix_tup (pv 2) pe_int (fun _ _ => rfl)) (pv 1) (nomark _))))) (pss_one (L2N.ps_raise rfl (takesU (L2N.takes_of rfl rfl rfl rfl)) (DH.pmkN PySem.F.excBase_ValueError T.x_InUse.x T.x_InUse.g T.x_InUse.k (raises_own T.x_InUse.b T.x_InUse.t) (by rfl) (pe_joined (PJ.cons pe_str (PJ.cons (pe_fmt (pe_ix ix_tup (pv 2) pe_int (fun _ _ => rfl))) (PJ.cons pe_str (PJ.cons (pe_fmt (pv 1)) PJ.nil)))))))) pss_nil)))), ?_⟩
    obtain ⟨dx, eo⟩ := hy.ob
    obtain ⟨k, e, r⟩ := hy.co
    refine ⟨B.c, .dK k, e, trivial, fun od => ?_⟩
    have back : upd (upd H B.c (.frz od (.dK k))) B.c (.dK k) = H := upd_back e
    have nfz : ∀ o' u', H B.c ≠ some (.frz o' u') := fun o' u' z => by rw [e] at z; cases z
    have ef : (upd H B.c (.frz od (.dK k))) B.c = some (.frz od (.dK k)) := upd_same
    have tu : TS H (upd H B.c (.frz od (.dK k))) := .upd fun xs z => by rw [e] at z; cases z
    have eo' := (upd_ne (ne_of eo e (fun z => nomatch z)) : upd H B.c (.frz od (.dK k)) B.y = H B.y).trans eo
    generalize upd H B.c (.frz od (.dK k)) = Hf at back ef tu eo' ⊢
    refine ⟨_, rfl, B.y, _, dx, _, _, rfl, eo', T.cl, T.nc, rfl, B.c, od, k, rfl, ef, ?_⟩
    have kl := r.len
    refine for_it walk_values (fun i σ H' => H' = Hf ∧ (∃ y2, σ = [some (.ref B.y), some (.str n), y2]) ∧ (Y.co.take i).any (fun q => decide (q.2.1 = n) || decide (q.2.2.1 = n)) = false) ⟨rfl, ⟨_, rfl⟩, rfl⟩ (fun i σ H' _ p => by rw [p.1]; exact ef) (fun i x σ H1 H' hi p hy' => ?_) (fun σ H' p => ?_)
    · obtain ⟨eH, ⟨y2, rfl⟩, hp⟩ := p
      obtain ⟨eH', key, hk⟩ := hy'
      rw [eH', eH]
      obtain ⟨p, m, a, rfl, ha, ep⟩ := r.at i x (by rw [List.getElem?_map, hk]; rfl)
      have ep' := tu _ _ ep
      have ml : m.length ≤ 1000 := hl m (List.mem_map_of_mem (f := (·.1)) (List.mem_of_getElem? ha))
      have at0 : atI (coP m a : List V) (0 : Int) = some (.str m) := atI_nat (j := 0) rfl
      have at1 : atI (coP m a : List V) (1 : Int) = some (.str a.1) := atI_nat (j := 1) rfl
      have at2 : atI (coP m a : List V) (2 : Int) = some (.str a.2.1) := atI_nat (j := 2) rfl
      have hit : (decide (a.1 = n) || decide (a.2.1 = n)) = true → corded Y n = true := fun hz => List.any_eq_true.mpr ⟨(m, a), List.mem_of_getElem? ha, hz⟩
      have nx : (decide (a.1 = n) || decide (a.2.1 = n)) = false → (Y.co.take (i + 1)).any (fun q => decide (q.2.1 = n) || decide (q.2.2.1 = n)) = false := fun hz => by
        rw [List.take_add_one, ha, List.any_append, hp]
        simpa using hz
      have out : (decide (a.1 = n) || decide (a.2.1 = n)) = true → ∀ D, (fun (_ : Ends) σ Hx => tJs [tC (.str "the cord "), tFmt (tOp (rIxT K) (tVar 2) (tC (.int 0))), tC (.str " is tied to "), tFmt (tVar 1)] Str.empty σ Hx fun out H1 => ∃ a od u, H1 a = some (.frz od u) ∧ (∀ o' u', H a ≠ some (.frz o' u')) ∧ E (.ref T.x_InUse.a) none (upd H1 a u)) D [some (.ref B.y), some (.str n), some (.ref p)] Hf := fun hz D => by
        have nl := hn.1
        refine ⟨_, rfl, sm (by decide), _, rfl, p, _, _, _, rfl, rfl, SqT.of ep', at0, .inl ⟨m, rfl, sm (by omega), m, rfl, ?_, _, rfl, ?_, _, rfl, .inl ⟨n, rfl, sm (by omega), n, rfl, ?_, B.c, od, .dK k, ef, nfz, by rw [back]; exact q2 (hit hz)⟩⟩⟩
        · refine sm ?_
          rw [len_app, len_app]
          show 0 + 9 + m.length ≤ _
          omega
        · refine sm ?_
          rw [len_app, len_app, len_app]
          show 0 + 9 + m.length + 12 ≤ _
          omega
        · refine sm ?_
          rw [len_app, len_app, len_app, len_app]
          show 0 + 9 + m.length + 12 + n.length ≤ _
          omega
      refine ⟨_, rfl, p, _, _, _, rfl, rfl, SqT.of ep', at1, _, rfl, rfl, _, rfl, ite2 (fun e1 => ?_) (fun e1 => ?_)⟩
      · refine iteT (out ?_ { nx := fun _ _ => True, rt := fun _ _ => True })
        rw [show decide (a.1 = n) = true from decide_eq_true (V.str.inj (of_decide_eq_true e1)), Bool.true_or]
      · have f1 : decide (a.1 = n) = false := decide_eq_false fun z => e1 (decide_eq_true (by rw [z]))
        refine ⟨_, rfl, p, _, _, _, rfl, rfl, SqT.of ep', at2, _, rfl, rfl, _, rfl, ite2 (fun e2 => out ?_ { nx := fun _ _ => True, rt := fun _ _ => True }) (fun e2 => ⟨rfl, ⟨_, rfl⟩, nx ?_⟩)⟩
        · rw [show decide (a.2.1 = n) = true from decide_eq_true (V.str.inj (of_decide_eq_true e2)), Bool.or_true]
        · rw [f1, show decide (a.2.1 = n) = false from decide_eq_false fun z => e2 (decide_eq_true (by rw [z]))]
          rfl
    · obtain ⟨rfl, ⟨y2, rfl⟩, hp⟩ := p
      rw [kl, List.take_length] at hp
      exact ⟨ef, by rw [back]; exact q1 hp⟩
theorem ok_check_no_sack (T : T5 w K mg) : FnOk P w K mg base (L2N.CX P w) 1 T.d_check_no_sack.a T.d_check_no_sack.d ["yard", "name"] (spNo T.CY sacked (fun Y => Y.sa.map (·.1)) T.x_InUse.a) := by
  refine DH.okN T.d_check_no_sack.F sc_check_no_sack (fun vs H Q E h => ?_) (fun cdv A outer s H vs Q E hr h => ?_)
  · obtain ⟨_, _, _, rfl, _⟩ := h
    rfl
  · obtain ⟨B, Y, n, rfl, hy, hn, hl, q1, q2⟩ := h
    refine ⟨_, pss_one (ps_lock (ps_for PassesOwn.leaving rfl (pi_values (pe_fld (pv 0) rfl)) (pg_name (i := 2) sc_check_no_sack.nd rfl (Or.inl rfl))
        (pss_one (ps_if (pt_cmpR op_eq (pe_ix ix_tup (pv 2) pe_int (fun _ _ => rfl)) (pv 1) (nomark _)) (pss_one (L2N.ps_raise rfl (takesU (L2N.takes_of rfl rfl rfl rfl)) (DH.pmkN PySem.F.excBase_ValueError T.x_InUse.x T.x_InUse.g T.x_InUse.k (raises_own T.x_InUse.b T.x_InUse.t) (by rfl) (pe_joined (PJ.cons pe_str (PJ.cons (pe_fmt (pe_ix ix_tup (pv 2) pe_int (fun _ _ => rfl))) (PJ.cons pe_str (PJ.cons (pe_fmt (pv 1)) PJ.nil)))))))) pss_nil)))), ?_⟩
    obtain ⟨dx, eo⟩ := hy.ob
    obtain ⟨k, e, r⟩ := hy.sa
    refine ⟨B.s, .dK k, e, trivial, fun od => ?_⟩
    have back : upd (upd H B.s (.frz od (.dK k))) B.s (.dK k) = H := upd_back e
    have nfz : ∀ o' u', H B.s ≠ some (.frz o' u') := fun o' u' z => by rw [e] at z; cases z
    have ef : (upd H B.s (.frz od (.dK k))) B.s = some (.frz od (.dK k)) := upd_same
    have tu : TS H (upd H B.s (.frz od (.dK k))) := .upd fun xs z => by rw [e] at z; cases z
    have eo' := (upd_ne (ne_of eo e (fun z => nomatch z)) : upd H B.s (.frz od (.dK k)) B.y = H B.y).trans eo
    generalize upd H B.s (.frz od (.dK k)) = Hf at back ef tu eo' ⊢
    refine ⟨_, rfl, B.y, _, dx, _, _, rfl, eo', T.cl, T.ns, rfl, B.s, od, k, rfl, ef, ?_⟩
    have kl := r.len
    refine for_it walk_values (fun i σ H' => H' = Hf ∧ (∃ y2, σ = [some (.ref B.y), some (.str n), y2]) ∧ (Y.sa.take i).any (fun q => decide (q.2.1 = n)) = false) ⟨rfl, ⟨_, rfl⟩, rfl⟩ (fun i σ H' _ p => by rw [p.1]; exact ef) (fun i x σ H1 H' hi p hy' => ?_) (fun σ H' p => ?_)
    · obtain ⟨eH, ⟨y2, rfl⟩, hp⟩ := p
      obtain ⟨eH', key, hk⟩ := hy'
      rw [eH', eH]
      obtain ⟨p, m, a, rfl, ha, ep⟩ := r.at i x (by rw [List.getElem?_map, hk]; rfl)
      have ep' := tu _ _ ep
      have ml : m.length ≤ 1000 := hl m (List.mem_map_of_mem (f := (·.1)) (List.mem_of_getElem? ha))
      have at0 : atI (saP m a : List V) (0 : Int) = some (.str m) := atI_nat (j := 0) rfl
      have at1 : atI (saP m a : List V) (1 : Int) = some (.str a.1) := atI_nat (j := 1) rfl
      have hit : decide (a.1 = n) = true → sacked Y n = true := fun hz => List.any_eq_true.mpr ⟨(m, a), List.mem_of_getElem? ha, hz⟩
      have nx : decide (a.1 = n) = false → (Y.sa.take (i + 1)).any (fun q => decide (q.2.1 = n)) = false := fun hz => by
        rw [List.take_add_one, ha, List.any_append, hp]
        simpa using hz
      refine ⟨_, rfl, p, _, _, _, rfl, rfl, SqT.of ep', at1, _, rfl, rfl, _, rfl, ite2 (fun e1 => ?_) (fun e1 => ⟨rfl, ⟨_, rfl⟩, nx ?_⟩)⟩
      · have nl := hn.1
        have hz : decide (a.1 = n) = true := decide_eq_true (V.str.inj (of_decide_eq_true e1))
        refine ⟨_, rfl, sm (by decide), _, rfl, p, _, _, _, rfl, rfl, SqT.of ep', at0, .inl ⟨m, rfl, sm (by omega), m, rfl, ?_, _, rfl, ?_, _, rfl, .inl ⟨n, rfl, sm (by omega), n, rfl, ?_, B.s, od, .dK k, ef, nfz, by rw [back]; exact q2 (hit hz)⟩⟩⟩
        · refine sm ?_
          rw [len_app, len_app]
          show 0 + 9 + m.length ≤ _
          omega
        · refine sm ?_
          rw [len_app, len_app, len_app]
          show 0 + 9 + m.length + 11 ≤ _
          omega
        · refine sm ?_
          rw [len_app, len_app, len_app, len_app]
          show 0 + 9 + m.length + 11 + n.length ≤ _
          omega
      · exact decide_eq_false fun z => e1 (decide_eq_true (by rw [z]))
    · obtain ⟨rfl, ⟨y2, rfl⟩, hp⟩ := p
      rw [kl, List.take_length] at hp
      exact ⟨ef, by rw [back]; exact q1 hp⟩
end
end DY
namespace DY
open PySem PySem.Spec PyProof.Rows L2
abbrev s_take_away : Stmt := topS 51
abbrev N_take_away : List Str := ["yard", "name"]
theorem sc_take_away : FnScope N_take_away ["yard", "name"] (defScope s_take_away) := ⟨rfl, rfl, rfl, by decide +kernel, rfl, by decide +kernel, by decide +kernel⟩
abbrev s_shift_sacks : Stmt := topS 53
abbrev N_shift_sacks : List Str := ["yard", "board", "by", "row"]
theorem sc_shift_sacks : FnScope N_shift_sacks ["yard", "board", "by"] (defScope s_shift_sacks) := ⟨rfl, rfl, rfl, by decide +kernel, rfl, by decide +kernel, by decide +kernel⟩
abbrev s_shift_along : Stmt := topS 52
abbrev N_shift_along : List Str := ["yard", "name", "by", "row", "course", "left", "right"]
theorem sc_shift_along : FnScope N_shift_along ["yard", "name", "by"] (defScope s_shift_along) := ⟨rfl, rfl, rfl, by decide +kernel, rfl, by decide +kernel, by decide +kernel⟩
abbrev s_set_sack : Stmt := topS 54
abbrev N_set_sack : List Str := ["yard", "name", "board", "place", "weight"]
theorem sc_set_sack : FnScope N_set_sack ["yard", "name", "board", "place", "weight"] (defScope s_set_sack) := ⟨rfl, rfl, rfl, by decide +kernel, rfl, by decide +kernel, by decide +kernel⟩
abbrev s_move_sack : Stmt := topS 55
abbrev N_move_sack : List Str := ["yard", "name", "board", "place", "row"]
theorem sc_move_sack : FnScope N_move_sack ["yard", "name", "board", "place"] (defScope s_move_sack) := ⟨rfl, rfl, rfl, by decide +kernel, rfl, by decide +kernel, by decide +kernel⟩
abbrev s_lift_sack : Stmt := topS 56
abbrev N_lift_sack : List Str := ["yard", "name"]
theorem sc_lift_sack : FnScope N_lift_sack ["yard", "name"] (defScope s_lift_sack) := ⟨rfl, rfl, rfl, by decide +kernel, rfl, by decide +kernel, by decide +kernel⟩
abbrev s_tie_cord : Stmt := topS 57
abbrev N_tie_cord : List Str := ["yard", "name", "upper", "lower", "place", "upper_row", "lower_row"]
theorem sc_tie_cord : FnScope N_tie_cord ["yard", "name", "upper", "lower", "place"] (defScope s_tie_cord) := ⟨rfl, rfl, rfl, by decide +kernel, rfl, by decide +kernel, by decide +kernel⟩
abbrev s_cut_cord : Stmt := topS 58
abbrev N_cut_cord : List Str := ["yard", "name"]
theorem sc_cut_cord : FnScope N_cut_cord ["yard", "name"] (defScope s_cut_cord) := ⟨rfl, rfl, rfl, by decide +kernel, rfl, by decide +kernel, by decide +kernel⟩
/-! ### tables changed -/
section
variable {α : Type} {H : Hp} {f : Str → α → List V} {kvs : List (Key × V)} {T : List (Str × α)}
def delT (T : List (Str × α)) (n : Str) : List (Str × α) := T.filter fun q => decide (q.1 ≠ n)
def putT (T : List (Str × α)) (n : Str) (x : α) : List (Str × α) := if hasT T n = true then T.map (fun q => if q.1 = n then (q.1, x) else q) else T ++ [(n, x)]
theorem Rows.del (r : Rows H f kvs T) (n : Str) : Rows H f (dropK kvs (Sum.inr n)) (delT T n) := by
  induction r with
  | nil => exact .nil
  | @cons m x p kvs T h _ ih =>
    unfold dropK delT at *
    by_cases e : m = n
    · rw [List.filter_cons_of_neg (by simp [e]), List.filter_cons_of_neg (by simp [e])]
      exact ih
    · rw [List.filter_cons_of_pos (by simp [e]), List.filter_cons_of_pos (by simp [e])]
      exact .cons h ih
theorem Rows.map_put (r : Rows H f kvs T) {n : Str} {x : α} {p : Addr} (h : H p = some (.tup (f n x))) : Rows H f (kvs.map fun kv => if kv.1 = Sum.inr n then (kv.1, V.ref p) else kv) (T.map fun q => if q.1 = n then (q.1, x) else q) := by
  induction r with
  | nil => exact .nil
  | @cons m y q kvs T h0 _ ih =>
    rw [List.map_cons, List.map_cons]
    by_cases e : m = n
    · subst e
      rw [if_pos rfl, if_pos rfl]
      exact .cons h ih
    · rw [if_neg (fun z => e (Sum.inr.inj z)), if_neg e]
      exact .cons h0 ih
theorem Rows.put (r : Rows H f kvs T) {n : Str} {x : α} {p : Addr} (h : H p = some (.tup (f n x))) : Rows H f (putK kvs (Sum.inr n) (.ref p)) (putT T n x) := by
  unfold putK putT
  rw [valV_any, r.has n]
  by_cases e : hasT T n = true
  · rw [if_pos e, if_pos e]
    exact r.map_put h
  · rw [if_neg e, if_neg e]
    exact r.snoc h
theorem delT_len (T : List (Str × α)) (n : Str) : (delT T n).length ≤ T.length := List.length_filter_le _ _
theorem putT_len_in {n : Str} {x : α} (h : hasT T n = true) : (putT T n x).length = T.length := by
  unfold putT
  rw [if_pos h, List.length_map]
theorem putT_new {n : Str} {x : α} (h : hasT T n = false) : putT T n x = T ++ [(n, x)] := by
  unfold putT
  rw [if_neg (by rw [h]; exact Bool.false_ne_true)]
end
section
variable {C : Addr} {B : YA} {H : Hp} {Y : Yd}
structure Upd (C : Addr) (B : YA) (H H' : Hp) (Y' : Yd) : Prop where
  is : IsY C B H' Y'
  ts : TS H H'
  fr : ∀ p o, H p = some o → p ≠ B.b → p ≠ B.t → p ≠ B.s → p ≠ B.c → H' p = some o
theorem IsY.updT (hy : IsY C B H Y) {k' : List (Key × V)} {T' : List (Str × TrR)} (r : Rows H trP k' T') (hl : T'.length ≤ 6) : Upd C B H (upd H B.t (.dK k')) { Y with tr := T' } := by
  obtain ⟨dx, eo⟩ := hy.ob
  obtain ⟨kb, eb, rb⟩ := hy.bo
  obtain ⟨kt, et, rt⟩ := hy.tr
  obtain ⟨ks, es, rs⟩ := hy.sa
  obtain ⟨kc, ec, rc⟩ := hy.co
  obtain ⟨n1, n2, n3, n4, n5, n6⟩ := hy.nd
  have ts : TS H (upd H B.t (.dK k')) := .upd fun xs z => by rw [et] at z; cases z
  have le := hy.le
  refine ⟨⟨⟨dx, ?_⟩, ⟨kb, ?_, rb.keep ts⟩, ⟨_, upd_same, r.keep ts⟩, ⟨ks, ?_, rs.keep ts⟩, ⟨kc, ?_, rc.keep ts⟩, hy.nd, ?_⟩, ts, fun p o e _ nt _ _ => by rw [upd_ne nt]; exact e⟩
  · rw [upd_ne (ne_of eo et (fun z => nomatch z))]
    exact eo
  · rw [upd_ne n1]
    exact eb
  · rw [upd_ne n4.symm]
    exact es
  · rw [upd_ne n5.symm]
    exact ec
  · show T'.length ≤ 6 ∧ Y.bo.length ≤ 6 ∧ Y.sa.length ≤ 8 ∧ Y.co.length ≤ 4
    omega
theorem IsY.updB (hy : IsY C B H Y) {k' : List (Key × V)} {T' : List (Str × BoR)} (r : Rows H boP k' T') (hl : T'.length ≤ 6) : Upd C B H (upd H B.b (.dK k')) { Y with bo := T' } := by
  obtain ⟨dx, eo⟩ := hy.ob
  obtain ⟨kb, eb, rb⟩ := hy.bo
  obtain ⟨kt, et, rt⟩ := hy.tr
  obtain ⟨ks, es, rs⟩ := hy.sa
  obtain ⟨kc, ec, rc⟩ := hy.co
  obtain ⟨n1, n2, n3, n4, n5, n6⟩ := hy.nd
  have ts : TS H (upd H B.b (.dK k')) := .upd fun xs z => by rw [eb] at z; cases z
  have le := hy.le
  refine ⟨⟨⟨dx, ?_⟩, ⟨_, upd_same, r.keep ts⟩, ⟨kt, ?_, rt.keep ts⟩, ⟨ks, ?_, rs.keep ts⟩, ⟨kc, ?_, rc.keep ts⟩, hy.nd, ?_⟩, ts, fun p o e nb _ _ _ => by rw [upd_ne nb]; exact e⟩
  · rw [upd_ne (ne_of eo eb (fun z => nomatch z))]
    exact eo
  · rw [upd_ne n1.symm]
    exact et
  · rw [upd_ne n2.symm]
    exact es
  · rw [upd_ne n3.symm]
    exact ec
  · show Y.tr.length ≤ 6 ∧ T'.length ≤ 6 ∧ Y.sa.length ≤ 8 ∧ Y.co.length ≤ 4
    omega
theorem IsY.updS (hy : IsY C B H Y) {k' : List (Key × V)} {T' : List (Str × SaR)} (r : Rows H saP k' T') (hl : T'.length ≤ 8) : Upd C B H (upd H B.s (.dK k')) { Y with sa := T' } := by
  obtain ⟨dx, eo⟩ := hy.ob
  obtain ⟨kb, eb, rb⟩ := hy.bo
  obtain ⟨kt, et, rt⟩ := hy.tr
  obtain ⟨ks, es, rs⟩ := hy.sa
  obtain ⟨kc, ec, rc⟩ := hy.co
  obtain ⟨n1, n2, n3, n4, n5, n6⟩ := hy.nd
  have ts : TS H (upd H B.s (.dK k')) := .upd fun xs z => by rw [es] at z; cases z
  have le := hy.le
  refine ⟨⟨⟨dx, ?_⟩, ⟨kb, ?_, rb.keep ts⟩, ⟨kt, ?_, rt.keep ts⟩, ⟨_, upd_same, r.keep ts⟩, ⟨kc, ?_, rc.keep ts⟩, hy.nd, ?_⟩, ts, fun p o e _ _ ns _ => by rw [upd_ne ns]; exact e⟩
  · rw [upd_ne (ne_of eo es (fun z => nomatch z))]
    exact eo
  · rw [upd_ne n2]
    exact eb
  · rw [upd_ne n4]
    exact et
  · rw [upd_ne n6.symm]
    exact ec
  · show Y.tr.length ≤ 6 ∧ Y.bo.length ≤ 6 ∧ T'.length ≤ 8 ∧ Y.co.length ≤ 4
    omega
theorem IsY.updC (hy : IsY C B H Y) {k' : List (Key × V)} {T' : List (Str × CoR)} (r : Rows H coP k' T') (hl : T'.length ≤ 4) : Upd C B H (upd H B.c (.dK k')) { Y with co := T' } := by
  obtain ⟨dx, eo⟩ := hy.ob
  obtain ⟨kb, eb, rb⟩ := hy.bo
  obtain ⟨kt, et, rt⟩ := hy.tr
  obtain ⟨ks, es, rs⟩ := hy.sa
  obtain ⟨kc, ec, rc⟩ := hy.co
  obtain ⟨n1, n2, n3, n4, n5, n6⟩ := hy.nd
  have ts : TS H (upd H B.c (.dK k')) := .upd fun xs z => by rw [ec] at z; cases z
  have le := hy.le
  refine ⟨⟨⟨dx, ?_⟩, ⟨kb, ?_, rb.keep ts⟩, ⟨kt, ?_, rt.keep ts⟩, ⟨ks, ?_, rs.keep ts⟩, ⟨_, upd_same, r.keep ts⟩, hy.nd, ?_⟩, ts, fun p o e _ _ _ nc => by rw [upd_ne nc]; exact e⟩
  · rw [upd_ne (ne_of eo ec (fun z => nomatch z))]
    exact eo
  · rw [upd_ne n3]
    exact eb
  · rw [upd_ne n5]
    exact et
  · rw [upd_ne n6]
    exact es
  · show Y.tr.length ≤ 6 ∧ Y.bo.length ≤ 6 ∧ Y.sa.length ≤ 8 ∧ T'.length ≤ 4
    omega
theorem Upd.pre {H0 H1 : Hp} {Y' : Yd} (s : Same H0 H) (u : Upd C B H H1 Y') : Upd C B H0 H1 Y' := ⟨u.is, (TS.of s).trans u.ts, fun p o e n1 n2 n3 n4 => u.fr p o (s _ _ e) n1 n2 n3 n4⟩
theorem Upd.then {H1 H2 : Hp} {Y1 Y2 : Yd} (u : Upd C B H H1 Y1) (v : Upd C B H1 H2 Y2) : Upd C B H H2 Y2 := ⟨v.is, u.ts.trans v.ts, fun p o e n1 n2 n3 n4 => v.fr p o (u.fr p o e n1 n2 n3 n4) n1 n2 n3 n4⟩
theorem Act.done {ec : Er → Addr} {Q : VK} {E : XK} {f : Option Er} {Y' : Yd} {H' : Hp} (h : Act C ec B H Q E f Y') (hf : f = none) (u : Upd C B H H' Y') : Q .non H' := h.2 hf H' u.ts u.fr u.is
end
structure T6 (w : World) (K : PySem.W.Frag) (mg : Str → Option Value) extends T5 w K mg where
  d_take_away : DefF K mg "take_away" s_take_away ["yard", "name"]
  d_shift_sacks : DefF K mg "shift_sacks" s_shift_sacks ["yard", "board", "by"]
  d_shift_along : DefF K mg "shift_along" s_shift_along ["yard", "name", "by"]
  d_set_sack : DefF K mg "set_sack" s_set_sack ["yard", "name", "board", "place", "weight"]
  d_move_sack : DefF K mg "move_sack" s_move_sack ["yard", "name", "board", "place"]
  d_lift_sack : DefF K mg "lift_sack" s_lift_sack ["yard", "name"]
  d_tie_cord : DefF K mg "tie_cord" s_tie_cord ["yard", "name", "upper", "lower", "place"]
  d_cut_cord : DefF K mg "cut_cord" s_cut_cord ["yard", "name"]
  c_MOST_SACKS : ∃ t, mg "MOST_SACKS" = some (.int 8 t)
  c_MOST_CORDS : ∃ t, mg "MOST_CORDS" = some (.int 4 t)
  c_BEAM : ∃ t, mg "BEAM" = some (.str "" t)
  aBR : Addr
  c_BEAM_ROW : mg "BEAM_ROW" = some (.ref aBR)
  sBR : ∀ H, SqT K H aBR [.str "", .int 10, .int (-1000000), .int 1000000]
/-- all names are short -/
structure Sml (Y : Yd) : Prop where
  nm : nmOk Y
  sa : ∀ z ∈ Y.sa.map (·.1), z.length ≤ 1000
  co : ∀ z ∈ Y.co.map (·.1), z.length ≤ 1000
section
variable {P : Program} {w : World} {K : PySem.W.Frag} {mg : Str → Option Value} {base : Heap}
def faultAw (Y : Yd) (n : Str) : Option Er := if (hasT Y.tr n || hasT Y.bo n) = false then some .NoThing else if (sacked Y n || corded Y n) = true then some .InUse else none
def stepAw (Y : Yd) (n : Str) : Yd := if hasT Y.tr n = true then { Y with tr := delT Y.tr n } else { Y with bo := delT Y.bo n }
def spAw (C : Addr) (ec : Er → Addr) : Sp := fun vs H Q E => ∃ (A : YA) (Y : Yd) (n : Str), vs = [.ref A.y, .str n] ∧ IsY C A H Y ∧ Nm n ∧ Sml Y ∧ Act C ec A H Q E (faultAw Y n) (stepAw Y n)
theorem ok_take_away (T : T6 w K mg) : FnOk P w K mg base (L2N.CX P w) 4 T.d_take_away.a T.d_take_away.d ["yard", "name"] (spAw T.CY (ec T.toT1)) := by
  have G_board_or_trestle_row : FnOk P w K mg base (L2N.CX P w) 1 T.d_board_or_trestle_row.a T.d_board_or_trestle_row.d ["yard", "name"] (spBT T.CY T.x_NoThing.a) := ok_board_or_trestle_row T.toT5
  have G_check_no_cord : FnOk P w K mg base (L2N.CX P w) 1 T.d_check_no_cord.a T.d_check_no_cord.d ["yard", "name"] (spNo T.CY corded (fun Y => Y.co.map (·.1)) T.x_InUse.a) := ok_check_no_cord T.toT5
  have G_check_no_sack : FnOk P w K mg base (L2N.CX P w) 1 T.d_check_no_sack.a T.d_check_no_sack.d ["yard", "name"] (spNo T.CY sacked (fun Y => Y.sa.map (·.1)) T.x_InUse.a) := ok_check_no_sack T.toT5
  refine DH.okN T.d_take_away.F sc_take_away (fun vs H Q E h => ?_) (fun cdv A outer s H vs Q E hr h => ?_)
  · obtain ⟨_, _, _, rfl, _⟩ := h
    rfl
  · obtain ⟨B, Y, n, rfl, hy, hn, sml, act⟩ := h
    have hu := hu_of hr
    refine ⟨_, pss_cons (ps_expr (pe_call G_board_or_trestle_row (hr.mono (by decide)) (by rfl) T.d_board_or_trestle_row.g T.d_board_or_trestle_row.F.kp T.d_board_or_trestle_row.b .nil (L2N.passes_call (L2N.takes_of rfl rfl rfl rfl) (fun _ _ _ _ h => h)) (pa_cons (pv 0) (pa_cons (pv 1) pa_nil))))
      (pss_cons (ps_expr (pe_call G_check_no_sack (hr.mono (by decide)) (by rfl) T.d_check_no_sack.g T.d_check_no_sack.F.kp T.d_check_no_sack.b .nil (L2N.passes_call (L2N.takes_of rfl rfl rfl rfl) (fun _ _ _ _ h => h)) (pa_cons (pv 0) (pa_cons (pv 1) pa_nil))))
      (pss_cons (ps_expr (pe_call G_check_no_cord (hr.mono (by decide)) (by rfl) T.d_check_no_cord.g T.d_check_no_cord.F.kp T.d_check_no_cord.b .nil (L2N.passes_call (L2N.takes_of rfl rfl rfl rfl) (fun _ _ _ _ h => h)) (pa_cons (pv 0) (pa_cons (pv 1) pa_nil))))
      (pss_one (ps_if (pt_cmp (pc_din hu (pv 1) (pe_fld (pv 0) rfl))) (pss_one (ps_ddel (pe_fld (pv 0) rfl) (pv 1))) (pss_one (ps_ddel (pe_fld (pv 0) rfl) (pv 1))))))), ?_⟩
    obtain ⟨dx, eo⟩ := hy.ob
    obtain ⟨kt, et, rt⟩ := hy.tr
    obtain ⟨kb, eb, rb⟩ := hy.bo
    have le := hy.le
    have iu : (hasT Y.tr n || hasT Y.bo n) = true → (sacked Y n || corded Y n) = true → faultAw Y n = some .InUse := fun a b => by
      unfold faultAw
      rw [a, b]
      rfl
    have fin : (hasT Y.tr n || hasT Y.bo n) = true → sacked Y n = false → corded Y n = false → faultAw Y n = none := fun a b c => by
      unfold faultAw
      rw [a, b, c]
      rfl
    rcases rt.get n with ⟨g1, g2⟩ | ⟨p, x, g1, g2, g3⟩
    · have hT : hasT Y.tr n = false := by unfold hasT; rw [g2]; rfl
      rcases rb.get n with ⟨h1, h2⟩ | ⟨p, x, h1, h2, h3⟩
      · have hB : hasT Y.bo n = false := by unfold hasT; rw [h2]; rfl
        refine ⟨_, rfl, _, rfl, B, Y, n, rfl, hy, hn, fun x p z _ => (by rw [g2] at z; cases z), fun x p _ z _ => (by rw [h2] at z; cases z), fun _ _ => ?_⟩
        exact act.1 .NoThing (by unfold faultAw; rw [hT, hB]; rfl) H (Same.refl H)
      · have hB : hasT Y.bo n = true := by unfold hasT; rw [h2]; rfl
        have ht : (hasT Y.tr n || hasT Y.bo n) = true := by rw [hB, Bool.or_true]
        refine ⟨_, rfl, _, rfl, B, Y, n, rfl, hy, hn, fun x p z _ => (by rw [g2] at z; cases z), fun x p _ _ _ => ?_, fun _ z => (by rw [h2] at z; cases z)⟩
        refine ⟨_, rfl, _, rfl, B, Y, n, rfl, hy, hn, sml.sa, fun c1 => ?_, fun c1 => act.1 .InUse (iu ht (by rw [c1, Bool.true_or])) H (Same.refl H)⟩
        refine ⟨_, rfl, _, rfl, B, Y, n, rfl, hy, hn, sml.co, fun c2 => ?_, fun c2 => act.1 .InUse (iu ht (by rw [c2, Bool.or_true])) H (Same.refl H)⟩
        refine ⟨_, rfl, _, rfl, B.y, _, dx, _, _, rfl, eo, T.cl, T.nt, rfl, B.t, _, rfl, DGet.k (k := Sum.inr n) et, _, rfl, ?_⟩
        rw [g1]
        refine iteF ?_
        refine ⟨_, rfl, B.y, _, dx, _, _, rfl, eo, T.cl, T.nb, rfl, _, rfl, B.b, kb, Sum.inr n, rfl, eb, rfl, by rw [h1]; rfl, ?_⟩
        refine act.done (fin ht c1 c2) ?_
        have e0 : stepAw Y n = { Y with bo := delT Y.bo n } := by unfold stepAw; rw [if_neg (by rw [hT]; exact Bool.false_ne_true)]
        rw [e0]
        exact hy.updB (rb.del n) (Nat.le_trans (delT_len _ _) (by omega))
    · have hT : hasT Y.tr n = true := by unfold hasT; rw [g2]; rfl
      have ht : (hasT Y.tr n || hasT Y.bo n) = true := by rw [hT, Bool.true_or]
      refine ⟨_, rfl, _, rfl, B, Y, n, rfl, hy, hn, fun x p _ _ => ?_, fun x p z _ _ => (by rw [g2] at z; cases z), fun z _ => (by rw [g2] at z; cases z)⟩
      refine ⟨_, rfl, _, rfl, B, Y, n, rfl, hy, hn, sml.sa, fun c1 => ?_, fun c1 => act.1 .InUse (iu ht (by rw [c1, Bool.true_or])) H (Same.refl H)⟩
      refine ⟨_, rfl, _, rfl, B, Y, n, rfl, hy, hn, sml.co, fun c2 => ?_, fun c2 => act.1 .InUse (iu ht (by rw [c2, Bool.or_true])) H (Same.refl H)⟩
      refine ⟨_, rfl, _, rfl, B.y, _, dx, _, _, rfl, eo, T.cl, T.nt, rfl, B.t, _, rfl, DGet.k (k := Sum.inr n) et, _, rfl, ?_⟩
      rw [g1]
      refine iteT ?_
      refine ⟨_, rfl, B.y, _, dx, _, _, rfl, eo, T.cl, T.nt, rfl, _, rfl, B.t, kt, Sum.inr n, rfl, et, rfl, by rw [g1]; rfl, ?_⟩
      refine act.done (fin ht c1 c2) ?_
      have e0 : stepAw Y n = { Y with tr := delT Y.tr n } := by unfold stepAw; rw [if_pos hT]
      rw [e0]
      exact hy.updT (rt.del n) (Nat.le_trans (delT_len _ _) (by omega))
def faultLi (Y : Yd) (n : Str) : Option Er := if hasT Y.sa n = false then some .NoSack else none
def stepLi (Y : Yd) (n : Str) : Yd := { Y with sa := delT Y.sa n }
def spLi (C : Addr) (ec : Er → Addr) : Sp := fun vs H Q E => ∃ (A : YA) (Y : Yd) (n : Str), vs = [.ref A.y, .str n] ∧ IsY C A H Y ∧ Nm n ∧ Act C ec A H Q E (faultLi Y n) (stepLi Y n)
theorem ok_lift_sack (T : T6 w K mg) : FnOk P w K mg base (L2N.CX P w) 4 T.d_lift_sack.a T.d_lift_sack.d ["yard", "name"] (spLi T.CY (ec T.toT1)) := by
  have G_sack_row : FnOk P w K mg base (L2N.CX P w) 1 T.d_sack_row.a T.d_sack_row.d ["yard", "name"] (spBR T.CY saP (·.sa) T.x_NoSack.a) := ok_sack_row T.toT5
  refine DH.okN T.d_lift_sack.F sc_lift_sack (fun vs H Q E h => ?_) (fun cdv A outer s H vs Q E hr h => ?_)
  · obtain ⟨_, _, _, rfl, _⟩ := h
    rfl
  · obtain ⟨B, Y, n, rfl, hy, hn, act⟩ := h
    refine ⟨_, pss_cons (ps_expr (pe_call G_sack_row (hr.mono (by decide)) (by rfl) T.d_sack_row.g T.d_sack_row.F.kp T.d_sack_row.b .nil (L2N.passes_call (L2N.takes_of rfl rfl rfl rfl) (fun _ _ _ _ h => h)) (pa_cons (pv 0) (pa_cons (pv 1) pa_nil))))
      (pss_one (ps_ddel (pe_fld (pv 0) rfl) (pv 1))), ?_⟩
    obtain ⟨dx, eo⟩ := hy.ob
    obtain ⟨ks, es, rs⟩ := hy.sa
    have le := hy.le
    rcases rs.get n with ⟨g1, g2⟩ | ⟨p, x, g1, g2, g3⟩
    · exact ⟨_, rfl, _, rfl, B, Y, n, rfl, hy, hn, fun x p z _ => (by rw [g2] at z; cases z), fun _ => act.1 .NoSack (by unfold faultLi hasT; rw [g2]; rfl) H (Same.refl H)⟩
    · refine ⟨_, rfl, _, rfl, B, Y, n, rfl, hy, hn, fun x p _ _ => ?_, fun z => (by rw [g2] at z; cases z)⟩
      refine ⟨_, rfl, B.y, _, dx, _, _, rfl, eo, T.cl, T.ns, rfl, _, rfl, B.s, ks, Sum.inr n, rfl, es, rfl, by rw [g1]; rfl, ?_⟩
      exact act.done (by unfold faultLi hasT; rw [g2]; rfl) (hy.updS (rs.del n) (Nat.le_trans (delT_len _ _) (by omega)))
def faultCu (Y : Yd) (n : Str) : Option Er := if hasT Y.co n = false then some .NoCord else none
def stepCu (Y : Yd) (n : Str) : Yd := { Y with co := delT Y.co n }
def spCu (C : Addr) (ec : Er → Addr) : Sp := fun vs H Q E => ∃ (A : YA) (Y : Yd) (n : Str), vs = [.ref A.y, .str n] ∧ IsY C A H Y ∧ Nm n ∧ Act C ec A H Q E (faultCu Y n) (stepCu Y n)
theorem ok_cut_cord (T : T6 w K mg) : FnOk P w K mg base (L2N.CX P w) 4 T.d_cut_cord.a T.d_cut_cord.d ["yard", "name"] (spCu T.CY (ec T.toT1)) := by
  have G_cord_row : FnOk P w K mg base (L2N.CX P w) 1 T.d_cord_row.a T.d_cord_row.d ["yard", "name"] (spBR T.CY coP (·.co) T.x_NoCord.a) := ok_cord_row T.toT5
  refine DH.okN T.d_cut_cord.F sc_cut_cord (fun vs H Q E h => ?_) (fun cdv A outer s H vs Q E hr h => ?_)
  · obtain ⟨_, _, _, rfl, _⟩ := h
    rfl
  · obtain ⟨B, Y, n, rfl, hy, hn, act⟩ := h
    refine ⟨_, pss_cons (ps_expr (pe_call G_cord_row (hr.mono (by decide)) (by rfl) T.d_cord_row.g T.d_cord_row.F.kp T.d_cord_row.b .nil (L2N.passes_call (L2N.takes_of rfl rfl rfl rfl) (fun _ _ _ _ h => h)) (pa_cons (pv 0) (pa_cons (pv 1) pa_nil))))
      (pss_one (ps_ddel (pe_fld (pv 0) rfl) (pv 1))), ?_⟩
    obtain ⟨dx, eo⟩ := hy.ob
    obtain ⟨ks, es, rs⟩ := hy.co
    have le := hy.le
    rcases rs.get n with ⟨g1, g2⟩ | ⟨p, x, g1, g2, g3⟩
    · exact ⟨_, rfl, _, rfl, B, Y, n, rfl, hy, hn, fun x p z _ => (by rw [g2] at z; cases z), fun _ => act.1 .NoCord (by unfold faultCu hasT; rw [g2]; rfl) H (Same.refl H)⟩
    · refine ⟨_, rfl, _, rfl, B, Y, n, rfl, hy, hn, fun x p _ _ => ?_, fun z => (by rw [g2] at z; cases z)⟩
      refine ⟨_, rfl, B.y, _, dx, _, _, rfl, eo, T.cl, T.nc, rfl, _, rfl, B.c, ks, Sum.inr n, rfl, es, rfl, by rw [g1]; rfl, ?_⟩
      exact act.done (by unfold faultCu hasT; rw [g2]; rfl) (hy.updC (rs.del n) (Nat.le_trans (delT_len _ _) (by omega)))
end
end DY
namespace DY
open PySem PySem.Spec PyProof.Rows L2
section
variable {P : Program} {w : World} {K : PySem.W.Frag} {mg : Str → Option Value} {base : Heap}
/-! ### sacks -/
def onBd (Y : Yd) (b : Str) (p : Int) : Option Bool := (getT Y.bo b).map fun x => onB x.2.1 x.2.2.1 p
def faultSa (Y : Yd) (n b : Str) (p g : Int) : Option Er :=
  if isName n = false then some .BadName else if taken Y n = true then some .Taken else match onBd Y b p with
    | none => some .NoThing
    | some false => some .BadPlace
    | some true => if isWeight g = false then some .BadWeight else if 8 ≤ Y.sa.length then some .Full else none
def stepSa (Y : Yd) (n b : Str) (p g : Int) : Yd := { Y with sa := Y.sa ++ [(n, b, p, g)] }
def spSa (C : Addr) (ec : Er → Addr) : Sp := fun vs H Q E => ∃ (A : YA) (Y : Yd) (n b : Str) (p g : Int), vs = [.ref A.y, .str n, .str b, .int p, .int g] ∧ IsY C A H Y ∧ Nm n ∧ Nm b ∧ Sml Y ∧ Act C ec A H Q E (faultSa Y n b p g) (stepSa Y n b p g)
theorem ok_set_sack (T : T6 w K mg) : FnOk P w K mg base (L2N.CX P w) 4 T.d_set_sack.a T.d_set_sack.d ["yard", "name", "board", "place", "weight"] (spSa T.CY (ec T.toT1)) := by
  have G_check_new_name : FnOk P w K mg base (L2N.CX P w) 2 T.d_check_new_name.a T.d_check_new_name.d ["yard", "name"] (spNN T.CY T.x_BadName.a T.x_Taken.a) := ok_check_new_name T.toT1
  have G_board_row : FnOk P w K mg base (L2N.CX P w) 1 T.d_board_row.a T.d_board_row.d ["yard", "name"] (spBR T.CY boP (·.bo) T.x_NoThing.a) := ok_board_row T.toT5
  have G_check_on_board : FnOk P w K mg base (L2N.CX P w) 3 T.d_check_on_board.a T.d_check_on_board.d ["row", "place"] (spOn K T.x_BadPlace.a) := ok_check_on_board T.toT5
  have G_check_weight : FnOk P w K mg base (L2N.CX P w) 3 T.d_check_weight.a T.d_check_weight.d ["weight"] (spCk isWeight T.x_BadWeight.a) := ok_check_weight T.toT0
  have G_check_count : FnOk P w K mg base (L2N.CX P w) 1 T.d_check_count.a T.d_check_count.d ["rows", "most"] (spCo T.x_Full.a) := ok_check_count T.toT0
  obtain ⟨tk, c_MOST_SACKS⟩ := T.c_MOST_SACKS
  refine DH.okN T.d_set_sack.F sc_set_sack (fun vs H Q E h => ?_) (fun cdv A outer s H vs Q E hr h => ?_)
  · obtain ⟨_, _, _, _, _, _, rfl, _⟩ := h
    rfl
  · obtain ⟨B, Y, n, b, pl, g, rfl, hy, hn, hb, sml, act⟩ := h
    have hu := hu_of hr
    refine ⟨_, pss_cons (ps_expr (pe_call G_check_new_name (hr.mono (by decide)) (by rfl) T.d_check_new_name.g T.d_check_new_name.F.kp T.d_check_new_name.b .nil (L2N.passes_call (L2N.takes_of rfl rfl rfl rfl) (fun _ _ _ _ h => h)) (pa_cons (pv 0) (pa_cons (pv 1) pa_nil))))
      (pss_cons (ps_expr (pe_call G_check_on_board (hr.mono (by decide)) (by rfl) T.d_check_on_board.g T.d_check_on_board.F.kp T.d_check_on_board.b .nil (L2N.passes_call (L2N.takes_of rfl rfl rfl rfl) (fun _ _ _ _ h => h)) (pa_cons (pe_call G_board_row (hr.mono (by decide)) (by rfl) T.d_board_row.g T.d_board_row.F.kp T.d_board_row.b .nil (L2N.passes_call (L2N.takes_of rfl rfl rfl rfl) (fun _ _ _ _ h => h)) (pa_cons (pv 0) (pa_cons (pv 2) pa_nil))) (pa_cons (pv 3) pa_nil))))
      (pss_cons (ps_expr (pe_call G_check_weight (hr.mono (by decide)) (by rfl) T.d_check_weight.g T.d_check_weight.F.kp T.d_check_weight.b .nil (L2N.passes_call (L2N.takes_of rfl rfl rfl rfl) (fun _ _ _ _ h => h)) (pa_cons (pv 4) pa_nil)))
      (pss_cons (ps_expr (pe_call G_check_count (hr.mono (by decide)) (by rfl) T.d_check_count.g T.d_check_count.F.kp T.d_check_count.b .nil (L2N.passes_call (L2N.takes_of rfl rfl rfl rfl) (fun _ _ _ _ h => h)) (pa_cons (pe_fld (pv 0) rfl) (pa_cons (pe_glob (v := .int 8) rfl c_MOST_SACKS ⟨_, rfl⟩) pa_nil))))
      (pss_one (ps_dput hu (pe_fld (pv 0) rfl) (pv 1) (pe_tup (pa_cons (pv 1) (pa_cons (pv 2) (pa_cons (pv 3) (pa_cons (pv 4) pa_nil))))) rfl))))), ?_⟩
    refine ⟨_, rfl, _, rfl, B, Y, n, rfl, hy, hn.1, fun H1 s1 => ⟨fun a1 a2 => ?_, fun a1 => ?_, fun a1 a2 => ?_⟩⟩
    · have hy1 := hy.keep s1
      refine ⟨_, rfl, _, rfl, B, Y, b, rfl, hy1, hb, fun x p gx ep => ?_, fun gx => ?_⟩
      · have ob : onBd Y b pl = some (onB x.2.1 x.2.2.1 pl) := by unfold onBd; rw [gx]; rfl
        refine ⟨_, rfl, p, b, x.1, x.2.1, x.2.2.1, pl, [.int x.2.2.2], rfl, SqT.of ep, hb.1, fun o1 => ?_, fun o1 => ?_⟩
        · rw [o1] at ob
          refine ⟨_, rfl, g, rfl, fun a3 => ?_, fun a3 => ?_⟩
          · obtain ⟨dx, eo⟩ := hy1.ob
            obtain ⟨k2, e2, r2⟩ := hy1.sa
            have ln2 := r2.len
            refine ⟨_, rfl, B.y, _, dx, _, _, rfl, eo, T.cl, T.ns, rfl, B.s, k2, 8, rfl, e2, fun a7 => ?_, fun a7 => ?_⟩
            · have a8 : ¬ 8 ≤ Y.sa.length := by omega
              have ef : faultSa Y n b pl g = none := by
                unfold faultSa
                simp [a1, a2, ob, a3, a8]
              refine ⟨_, rfl, _, rfl, _, rfl, _, rfl, by show 4 ≤ sizeLine; decide, fun tp ntp => ?_⟩
              have s3 : Same H1 (upd H1 tp (.tup [.str n, .str b, .int pl, .int g])) := same_upd ntp
              have et : (upd H1 tp (.tup [.str n, .str b, .int pl, .int g])) tp = some (.tup [.str n, .str b, .int pl, .int g]) := upd_same
              have hy3 := hy1.keep s3
              generalize upd H1 tp (.tup [.str n, .str b, .int pl, .int g]) = H3 at s3 et hy3 ⊢
              obtain ⟨dx3, eo3⟩ := hy3.ob
              obtain ⟨ks, es, rs⟩ := hy3.sa
              have ls := rs.len
              refine ⟨_, rfl, B.y, _, dx3, _, _, rfl, eo3, T.cl, T.ns, rfl, _, rfl, B.s, _, rfl, DPut.k (k := Sum.inr n) es (small1000 (by omega)), ?_⟩
              refine act.done ef (.pre (s1.trans s3) ?_)
              have nh : hasT Y.sa n = false := by
                have a := a2
                unfold taken at a
                simp at a
                exact a.2.2.1
              have u := hy3.updS (rs.put (n := n) (x := (b, pl, g)) (p := tp) et) (by rw [putT_new nh, List.length_append]; show _ + 1 ≤ 8; omega)
              rw [putT_new nh] at u
              exact u
            · have a8 : 8 ≤ Y.sa.length := by omega
              exact act.1 .Full (by unfold faultSa; simp [a1, a2, ob, a3, a8]) H1 s1
          · exact act.1 .BadWeight (by unfold faultSa; simp [a1, a2, ob, a3]) H1 s1
        · rw [o1] at ob
          exact act.1 .BadPlace (by unfold faultSa; simp [a1, a2, ob]) H1 s1
      · have ob : onBd Y b pl = none := by unfold onBd; rw [gx]; rfl
        exact act.1 .NoThing (by unfold faultSa; simp [a1, a2, ob]) H1 s1
    · exact act.1 .BadName (by unfold faultSa; simp [a1]) H1 s1
    · exact act.1 .Taken (by unfold faultSa; simp [a1, a2]) H1 s1
def faultMo (Y : Yd) (n b : Str) (p : Int) : Option Er :=
  if hasT Y.sa n = false then some .NoSack else match onBd Y b p with
    | none => some .NoThing
    | some false => some .BadPlace
    | some true => none
def stepMo (Y : Yd) (n b : Str) (p : Int) : Yd := match getT Y.sa n with
  | some x => { Y with sa := putT Y.sa n (b, p, x.2.2) }
  | none => Y
def spMo (C : Addr) (ec : Er → Addr) : Sp := fun vs H Q E => ∃ (A : YA) (Y : Yd) (n b : Str) (p : Int), vs = [.ref A.y, .str n, .str b, .int p] ∧ IsY C A H Y ∧ Nm n ∧ Nm b ∧ Act C ec A H Q E (faultMo Y n b p) (stepMo Y n b p)
theorem ok_move_sack (T : T6 w K mg) : FnOk P w K mg base (L2N.CX P w) 4 T.d_move_sack.a T.d_move_sack.d ["yard", "name", "board", "place"] (spMo T.CY (ec T.toT1)) := by
  have G_sack_row : FnOk P w K mg base (L2N.CX P w) 1 T.d_sack_row.a T.d_sack_row.d ["yard", "name"] (spBR T.CY saP (·.sa) T.x_NoSack.a) := ok_sack_row T.toT5
  have G_board_row : FnOk P w K mg base (L2N.CX P w) 1 T.d_board_row.a T.d_board_row.d ["yard", "name"] (spBR T.CY boP (·.bo) T.x_NoThing.a) := ok_board_row T.toT5
  have G_check_on_board : FnOk P w K mg base (L2N.CX P w) 3 T.d_check_on_board.a T.d_check_on_board.d ["row", "place"] (spOn K T.x_BadPlace.a) := ok_check_on_board T.toT5
  refine DH.okN T.d_move_sack.F sc_move_sack (fun vs H Q E h => ?_) (fun cdv A outer s H vs Q E hr h => ?_)
  · obtain ⟨_, _, _, _, _, rfl, _⟩ := h
    rfl
  · obtain ⟨B, Y, n, b, pl, rfl, hy, hn, hb, act⟩ := h
    have hu := hu_of hr
    refine ⟨_, pss_cons (ps_set (i := 4) sc_move_sack.nd rfl (Or.inl rfl) (pe_call G_sack_row (hr.mono (by decide)) (by rfl) T.d_sack_row.g T.d_sack_row.F.kp T.d_sack_row.b .nil (L2N.passes_call (L2N.takes_of rfl rfl rfl rfl) (fun _ _ _ _ h => h)) (pa_cons (pv 0) (pa_cons (pv 1) pa_nil))))
      (pss_cons (ps_expr (pe_call G_check_on_board (hr.mono (by decide)) (by rfl) T.d_check_on_board.g T.d_check_on_board.F.kp T.d_check_on_board.b .nil (L2N.passes_call (L2N.takes_of rfl rfl rfl rfl) (fun _ _ _ _ h => h)) (pa_cons (pe_call G_board_row (hr.mono (by decide)) (by rfl) T.d_board_row.g T.d_board_row.F.kp T.d_board_row.b .nil (L2N.passes_call (L2N.takes_of rfl rfl rfl rfl) (fun _ _ _ _ h => h)) (pa_cons (pv 0) (pa_cons (pv 2) pa_nil))) (pa_cons (pv 3) pa_nil))))
      (pss_one (ps_dput hu (pe_fld (pv 0) rfl) (pv 1) (pe_tup (pa_cons (pv 1) (pa_cons (pv 2) (pa_cons (pv 3) (pa_cons (pe_ix ix_tup (pv 4) pe_int (fun _ _ => rfl)) pa_nil))))) rfl))), ?_⟩
    refine ⟨_, rfl, _, rfl, B, Y, n, rfl, hy, hn, fun z q gz eq => ?_, fun gz => act.1 .NoSack (by unfold faultMo hasT; rw [gz]; rfl) H (Same.refl H)⟩
    have hs : hasT Y.sa n = true := by unfold hasT; rw [gz]; rfl
    refine ⟨_, rfl, _, rfl, B, Y, b, rfl, hy, hb, fun x p gx ep => ?_, fun gx => ?_⟩
    · have ob : onBd Y b pl = some (onB x.2.1 x.2.2.1 pl) := by unfold onBd; rw [gx]; rfl
      refine ⟨_, rfl, p, b, x.1, x.2.1, x.2.2.1, pl, [.int x.2.2.2], rfl, SqT.of ep, hb.1, fun o1 => ?_, fun o1 => ?_⟩
      · rw [o1] at ob
        have ef : faultMo Y n b pl = none := by unfold faultMo; rw [ob]; simp [hs]
        have at3 : atI (saP n z : List V) (3 : Int) = some (.int z.2.2) := atI_nat (j := 3) rfl
        refine ⟨_, rfl, _, rfl, _, rfl, _, rfl, q, _, _, _, rfl, rfl, SqT.of eq, at3, by show 4 ≤ sizeLine; decide, fun tp ntp => ?_⟩
        have s3 : Same H (upd H tp (.tup [.str n, .str b, .int pl, .int z.2.2])) := same_upd ntp
        have et : (upd H tp (.tup [.str n, .str b, .int pl, .int z.2.2])) tp = some (.tup [.str n, .str b, .int pl, .int z.2.2]) := upd_same
        have hy3 := hy.keep s3
        generalize upd H tp (.tup [.str n, .str b, .int pl, .int z.2.2]) = H3 at s3 et hy3 ⊢
        obtain ⟨dx3, eo3⟩ := hy3.ob
        obtain ⟨ks, es, rs⟩ := hy3.sa
        have ls := rs.len
        have le := hy.le
        refine ⟨_, rfl, B.y, _, dx3, _, _, rfl, eo3, T.cl, T.ns, rfl, _, rfl, B.s, _, rfl, DPut.k (k := Sum.inr n) es (small1000 (by omega)), ?_⟩
        refine act.done ef (.pre s3 ?_)
        have u := hy3.updS (rs.put (n := n) (x := (b, pl, z.2.2)) (p := tp) et) (by rw [putT_len_in hs]; omega)
        have e0 : stepMo Y n b pl = { Y with sa := putT Y.sa n (b, pl, z.2.2) } := by unfold stepMo; rw [gz]
        rw [e0]
        exact u
      · rw [o1] at ob
        exact act.1 .BadPlace (by unfold faultMo; rw [ob]; simp [hs]) H (Same.refl H)
    · have ob : onBd Y b pl = none := by unfold onBd; rw [gx]; rfl
      exact act.1 .NoThing (by unfold faultMo; rw [ob]; simp [hs]) H (Same.refl H)
end
end DY
namespace DY
open PySem PySem.Spec PyProof.Rows L2
section
variable {P : Program} {w : World} {K : PySem.W.Frag} {mg : Str → Option Value} {base : Heap}
/-! ### a thing shifted -/
def shiftF (b : Str) (k : Int) (acc : List (Str × SaR)) (q : Str × SaR) : List (Str × SaR) := if q.2.1 = b then putT acc q.1 (b, q.2.2.1 + k, q.2.2.2) else acc
def shiftS (sa : List (Str × SaR)) (b : Str) (k : Int) : List (Str × SaR) := sa.foldl (shiftF b k) sa
theorem putT_names {α : Type} {T : List (Str × α)} {n : Str} {x : α} (h : hasT T n = true) : (putT T n x).map (·.1) = T.map (·.1) := by
  unfold putT
  rw [if_pos h, List.map_map]
  refine List.map_congr_left fun q _ => ?_
  show (if q.1 = n then (q.1, x) else q).1 = q.1
  split <;> rfl
theorem has_of {α : Type} {T : List (Str × α)} {n : Str} (h : n ∈ T.map (·.1)) : hasT T n = true := by
  obtain ⟨x, hx⟩ := has_mem h
  unfold hasT
  rw [hx]
  rfl
theorem shiftF_names {b : Str} {k : Int} {acc sa : List (Str × SaR)} {q : Str × SaR} (h : acc.map (·.1) = sa.map (·.1)) (hq : q ∈ sa) : (shiftF b k acc q).map (·.1) = sa.map (·.1) := by
  unfold shiftF
  split
  · rw [putT_names (has_of (by rw [h]; exact List.mem_map_of_mem hq)), h]
  · exact h
theorem fold_names {b : Str} {k : Int} {sa : List (Str × SaR)} : ∀ {l acc : List (Str × SaR)}, (∀ q ∈ l, q ∈ sa) → acc.map (·.1) = sa.map (·.1) → (l.foldl (shiftF b k) acc).map (·.1) = sa.map (·.1)
  | [], _, _, h => h
  | q :: l, acc, hl, h => fold_names (l := l) (fun z hz => hl z (List.mem_cons_of_mem _ hz)) (shiftF_names h (hl q List.mem_cons_self))
theorem shiftS_names (sa : List (Str × SaR)) (b : Str) (k : Int) : (shiftS sa b k).map (·.1) = sa.map (·.1) := fold_names (fun _ h => h) rfl
def spSS (C : Addr) : Sp := fun vs H Q _ => ∃ (A : YA) (Y : Yd) (b : Str) (k : Int), vs = [.ref A.y, .str b, .int k] ∧ IsY C A H Y ∧ ∀ H', Upd C A H H' { Y with sa := shiftS Y.sa b k } → Q .non H'
theorem ok_shift_sacks (T : T6 w K mg) : FnOk P w K mg base CX0 1 T.d_shift_sacks.a T.d_shift_sacks.d ["yard", "board", "by"] (spSS T.CY) := by
  refine T.d_shift_sacks.F.ok sc_shift_sacks (fun vs H Q E h => ?_) (fun cdv A outer s H vs Q E hr h => ?_)
  · obtain ⟨_, _, _, _, rfl, _⟩ := h
    rfl
  · obtain ⟨B, Y, b, k, rfl, hy, q⟩ := h
    have hu := hu_of hr
    refine ⟨_, pss_one (ps_for PassesOwn.never rfl (pi_list (DH.pe_listVals rfl (pe_fld (pv 0) rfl) (by rfl) T.n_list (by decide +kernel))) (pg_name (i := 3) sc_shift_sacks.nd rfl (Or.inl rfl))
        (pss_one (ps_if (pt_cmpR op_eq (pe_ix ix_tup (pv 3) pe_int (fun _ _ => rfl)) (pv 1) (nomark _)) (pss_one (ps_dput hu (pe_fld (pv 0) rfl) (pe_ix ix_tup (pv 3) pe_int (fun _ _ => rfl)) (pe_tup (pa_cons (pe_ix ix_tup (pv 3) pe_int (fun _ _ => rfl)) (pa_cons (pv 1) (pa_cons (pe_op op_add (pe_ix ix_tup (pv 3) pe_int (fun _ _ => rfl)) (pv 2)) (pa_cons (pe_ix ix_tup (pv 3) pe_int (fun _ _ => rfl)) pa_nil))))) rfl)) pss_nil))), ?_⟩
    obtain ⟨dx, eo⟩ := hy.ob
    obtain ⟨ks, es, rs⟩ := hy.sa
    have kl := rs.len
    have le := hy.le
    refine ⟨_, rfl, B.y, _, dx, _, _, rfl, eo, T.cl, T.ns, rfl, B.s, ks, rfl, es, fun l1 n1 => ?_⟩
    have s1 : Same H (upd H l1 (.lst (ks.map (·.2)))) := same_upd n1
    have el1 : (upd H l1 (.lst (ks.map (·.2)))) l1 = some (.lst (ks.map (·.2))) := upd_same
    generalize upd H l1 (.lst (ks.map (·.2))) = H1 at s1 el1 ⊢
    have hy1 := hy.keep s1
    refine ⟨l1, rfl, ⟨_, SqL.of el1⟩, ?_⟩
    refine for_list (K := K) (a := l1) (xs := ks.map (·.2)) (fun i σ H' => (∃ y3, σ = [some (.ref B.y), some (.str b), some (.int k), y3]) ∧ H' l1 = some (.lst (ks.map (·.2))) ∧ Upd T.CY B H1 H' { Y with sa := (Y.sa.take i).foldl (shiftF b k) Y.sa })
      ⟨⟨_, rfl⟩, el1, ⟨hy1, TS.of (Same.refl _), fun p o e _ _ _ _ => e⟩⟩ (fun i σ H' _ p => SqL.of p.2.1) (fun i x σ H' hx p => ?_) (fun σ H' p => ?_)
    · obtain ⟨⟨y3, rfl⟩, el, u⟩ := p
      obtain ⟨p, m, a, rfl, ha, ep⟩ := rs.at i x hx
      have ep' := u.ts _ _ (s1 _ _ ep)
      have at0 : atI (saP m a : List V) (0 : Int) = some (.str m) := atI_nat (j := 0) rfl
      have at1 : atI (saP m a : List V) (1 : Int) = some (.str a.1) := atI_nat (j := 1) rfl
      have at2 : atI (saP m a : List V) (2 : Int) = some (.int a.2.1) := atI_nat (j := 2) rfl
      have at3 : atI (saP m a : List V) (3 : Int) = some (.int a.2.2) := atI_nat (j := 3) rfl
      have hmem : (m, a) ∈ Y.sa := List.mem_of_getElem? ha
      have nxt : (Y.sa.take (i + 1)).foldl (shiftF b k) Y.sa = shiftF b k ((Y.sa.take i).foldl (shiftF b k) Y.sa) (m, a) := by
        rw [List.take_add_one, ha, List.foldl_append]
        rfl
      have nm : ((Y.sa.take i).foldl (shiftF b k) Y.sa).map (·.1) = Y.sa.map (·.1) := fold_names (fun q hq => List.mem_of_mem_take hq) rfl
      refine ⟨_, rfl, p, _, _, _, rfl, rfl, SqT.of ep', at1, _, rfl, rfl, _, rfl, ite2 (fun e1 => ?_) (fun e1 => ?_)⟩
      · have e2 : a.1 = b := V.str.inj (of_decide_eq_true e1)
        refine ⟨_, rfl, p, _, _, _, rfl, rfl, SqT.of ep', at0, _, rfl, _, rfl, p, _, _, _, rfl, rfl, SqT.of ep', at2, _, rfl, _, _, rfl, rfl, _, rfl, p, _, _, _, rfl, rfl, SqT.of ep', at3, by show 4 ≤ sizeLine; decide, fun tp ntp => ?_⟩
        have s3 : Same H' (upd H' tp (.tup [.str m, .str b, .int (a.2.1 + k), .int a.2.2])) := same_upd ntp
        have et : (upd H' tp (.tup [.str m, .str b, .int (a.2.1 + k), .int a.2.2])) tp = some (.tup [.str m, .str b, .int (a.2.1 + k), .int a.2.2]) := upd_same
        have hy3 := u.is.keep s3
        generalize upd H' tp (.tup [.str m, .str b, .int (a.2.1 + k), .int a.2.2]) = H3 at s3 et hy3 ⊢
        obtain ⟨dx3, eo3⟩ := hy3.ob
        obtain ⟨k3, e3, r3⟩ := hy3.sa
        have l3 := r3.len
        have le3 := hy3.le
        have hh : hasT ((Y.sa.take i).foldl (shiftF b k) Y.sa) m = true := has_of (by rw [nm]; exact List.mem_map_of_mem hmem)
        refine ⟨_, rfl, B.y, _, dx3, _, _, rfl, eo3, T.cl, T.ns, rfl, _, rfl, p, _, _, _, rfl, rfl, SqT.of (s3 _ _ ep'), at0, B.s, _, rfl, DPut.k (k := Sum.inr m) e3 (small1000 (by omega)), ?_⟩
        have v := hy3.updS (r3.put (n := m) (x := (b, a.2.1 + k, a.2.2)) (p := tp) et) (by rw [putT_len_in hh]; exact le3.2.2.1)
        refine ⟨⟨_, rfl⟩, ?_, ?_⟩
        · rw [upd_ne (ne_of (s3 _ _ el) e3 (fun z => nomatch z))]
          exact s3 _ _ el
        · rw [nxt]
          unfold shiftF
          rw [if_pos e2]
          exact u.then (v.pre s3)
      · refine ⟨⟨_, rfl⟩, el, ?_⟩
        rw [nxt]
        unfold shiftF
        rw [if_neg (fun z => e1 (decide_eq_true (by rw [z])))]
        exact u
    · obtain ⟨⟨y3, rfl⟩, el, u⟩ := p
      rw [List.length_map, kl, List.take_length] at u
      exact q H' (u.pre s1)
def thingY (Y : Yd) (n : Str) : Option (Int × Int × Int) := match getT Y.tr n with
  | some x => some x
  | none => (getT Y.bo n).map fun x => (x.1, x.2.1, x.2.2.1)
def faultAl (Y : Yd) (n : Str) (k : Int) : Option Er := match thingY Y n with
  | none => some .NoThing
  | some x => if (isPlace (x.2.1 + k) && isPlace (x.2.2 + k)) = false then some .BadPlace else if corded Y n = true then some .InUse else if crowd Y n x.1 (x.2.1 + k) (x.2.2 + k) = true then some .Crowded else none
def stepAl (Y : Yd) (n : Str) (k : Int) : Yd := match getT Y.tr n with
  | some x => { Y with tr := putT Y.tr n (x.1, x.2.1 + k, x.2.2 + k) }
  | none => match getT Y.bo n with
    | some x => { Y with bo := putT Y.bo n (x.1, x.2.1 + k, x.2.2.1 + k, x.2.2.2), sa := shiftS Y.sa n k }
    | none => Y
def spAl (C : Addr) (ec : Er → Addr) : Sp := fun vs H Q E => ∃ (A : YA) (Y : Yd) (n : Str) (k : Int), vs = [.ref A.y, .str n, .int k] ∧ IsY C A H Y ∧ Nm n ∧ Sml Y ∧ Act C ec A H Q E (faultAl Y n k) (stepAl Y n k)
theorem ok_shift_along (T : T6 w K mg) : FnOk P w K mg base (L2N.CX P w) 4 T.d_shift_along.a T.d_shift_along.d ["yard", "name", "by"] (spAl T.CY (ec T.toT1)) := by
  have G_board_or_trestle_row : FnOk P w K mg base (L2N.CX P w) 1 T.d_board_or_trestle_row.a T.d_board_or_trestle_row.d ["yard", "name"] (spBT T.CY T.x_NoThing.a) := ok_board_or_trestle_row T.toT5
  have G_is_number : FnOk P w K mg base CX0 1 T.d_is_number.a T.d_is_number.d ["value"] (spIs fun _ => true) := ok_is_number T.toT0
  have G_check_places : FnOk P w K mg base (L2N.CX P w) 3 T.d_check_places.a T.d_check_places.d ["left", "right"] (spPl T.x_BadPlace.a) := ok_check_places T.toT0
  have G_check_no_cord : FnOk P w K mg base (L2N.CX P w) 1 T.d_check_no_cord.a T.d_check_no_cord.d ["yard", "name"] (spNo T.CY corded (fun Y => Y.co.map (·.1)) T.x_InUse.a) := ok_check_no_cord T.toT5
  have G_check_room : FnOk P w K mg base (L2N.CX P w) 1 T.d_check_room.a T.d_check_room.d ["yard", "name", "course", "left", "right"] (spRoom T.CY T.x_Crowded.a) := ok_check_room T.toT1
  have G_shift_sacks : FnOk P w K mg base CX0 1 T.d_shift_sacks.a T.d_shift_sacks.d ["yard", "board", "by"] (spSS T.CY) := ok_shift_sacks T
  refine DH.okN T.d_shift_along.F sc_shift_along (fun vs H Q E h => ?_) (fun cdv A outer s H vs Q E hr h => ?_)
  · obtain ⟨_, _, _, _, rfl, _⟩ := h
    rfl
  · obtain ⟨B, Y, n, k, rfl, hy, hn, sml, act⟩ := h
    have hu := hu_of hr
    refine ⟨_, pss_cons (ps_set (i := 3) sc_shift_along.nd rfl (Or.inl rfl) (pe_call G_board_or_trestle_row (hr.mono (by decide)) (by rfl) T.d_board_or_trestle_row.g T.d_board_or_trestle_row.F.kp T.d_board_or_trestle_row.b .nil (L2N.passes_call (L2N.takes_of rfl rfl rfl rfl) (fun _ _ _ _ h => h)) (pa_cons (pv 0) (pa_cons (pv 1) pa_nil))))
      (pss_cons (ps_if (pt_not (pt_val (pe_call G_is_number (hr.mono (by decide)) (by rfl) T.d_is_number.g T.d_is_number.F.kp T.d_is_number.b .nil pass0 (pa_cons (pv 2) pa_nil)))) (pss_one (L2N.ps_raise rfl (L2N.takes_of rfl rfl rfl rfl) (DH.pmkN PySem.F.excBase_ValueError T.x_BadPlace.x T.x_BadPlace.g T.x_BadPlace.k (raises_own T.x_BadPlace.b T.x_BadPlace.t) (by rfl) pe_str))) pss_nil)
      (pss_cons (ps_par3 (i := 4) (j := 5) (l := 6) (by rfl) sc_shift_along.nd rfl rfl rfl (by decide) (by decide) (by decide) rfl rfl rfl (pa_cons (pe_ix ix_tup (pv 3) pe_int (fun _ _ => rfl)) (pa_cons (pe_op op_add (pe_ix ix_tup (pv 3) pe_int (fun _ _ => rfl)) (pv 2)) (pa_cons (pe_op op_add (pe_ix ix_tup (pv 3) pe_int (fun _ _ => rfl)) (pv 2)) pa_nil))) (by rfl))
      (pss_cons (ps_expr (pe_call G_check_places (hr.mono (by decide)) (by rfl) T.d_check_places.g T.d_check_places.F.kp T.d_check_places.b .nil (L2N.passes_call (L2N.takes_of rfl rfl rfl rfl) (fun _ _ _ _ h => h)) (pa_cons (pv 5) (pa_cons (pv 6) pa_nil))))
      (pss_cons (ps_expr (pe_call G_check_no_cord (hr.mono (by decide)) (by rfl) T.d_check_no_cord.g T.d_check_no_cord.F.kp T.d_check_no_cord.b .nil (L2N.passes_call (L2N.takes_of rfl rfl rfl rfl) (fun _ _ _ _ h => h)) (pa_cons (pv 0) (pa_cons (pv 1) pa_nil))))
      (pss_cons (ps_expr (pe_call G_check_room (hr.mono (by decide)) (by rfl) T.d_check_room.g T.d_check_room.F.kp T.d_check_room.b .nil (L2N.passes_call (L2N.takes_of rfl rfl rfl rfl) (fun _ _ _ _ h => h)) (pa_cons (pv 0) (pa_cons (pv 1) (pa_cons (pv 4) (pa_cons (pv 5) (pa_cons (pv 6) pa_nil)))))))
      (pss_one (ps_if (pt_cmp (pc_din hu (pv 1) (pe_fld (pv 0) rfl))) (pss_one (ps_dput hu (pe_fld (pv 0) rfl) (pv 1) (pe_tup (pa_cons (pv 1) (pa_cons (pv 4) (pa_cons (pv 5) (pa_cons (pv 6) pa_nil))))) rfl)) (pss_cons (ps_dput hu (pe_fld (pv 0) rfl) (pv 1) (pe_tup (pa_cons (pv 1) (pa_cons (pv 4) (pa_cons (pv 5) (pa_cons (pv 6) (pa_cons (pe_ix ix_tup (pv 3) pe_int (fun _ _ => rfl)) pa_nil)))))) rfl)
      (pss_one (ps_expr (pe_call G_shift_sacks (hr.mono (by decide)) (by rfl) T.d_shift_sacks.g T.d_shift_sacks.F.kp T.d_shift_sacks.b .nil pass0 (pa_cons (pv 0) (pa_cons (pv 1) (pa_cons (pv 2) pa_nil)))))))))))))), ?_⟩
    obtain ⟨dx, eo⟩ := hy.ob
    obtain ⟨kt, et, rt⟩ := hy.tr
    obtain ⟨kb, eb, rb⟩ := hy.bo
    have le := hy.le
    rcases rt.get n with ⟨g1, g2⟩ | ⟨p0, x, g1, g2, g3⟩
    · rcases rb.get n with ⟨h1, h2⟩ | ⟨p0, x, h1, h2, h3⟩
      · refine ⟨_, rfl, _, rfl, B, Y, n, rfl, hy, hn, fun x p z _ => (by rw [g2] at z; cases z), fun x p _ z _ => (by rw [h2] at z; cases z), fun _ _ => ?_⟩
        exact act.1 .NoThing (by unfold faultAl thingY; rw [g2, h2]; rfl) H (Same.refl H)
      · have th : thingY Y n = some (x.1, x.2.1, x.2.2.1) := by unfold thingY; rw [g2, h2]; rfl
        refine ⟨_, rfl, _, rfl, B, Y, n, rfl, hy, hn, fun x p z _ => (by rw [g2] at z; cases z), fun x' p _ z ep => ?_, fun _ z => (by rw [h2] at z; cases z)⟩
        obtain rfl : x' = x := by rw [h2] at z; exact (Option.some.inj z).symm
        have at1 : atI (boP n x' : List V) (1 : Int) = some (.int x'.1) := atI_nat (j := 1) rfl
        have at2 : atI (boP n x' : List V) (2 : Int) = some (.int x'.2.1) := atI_nat (j := 2) rfl
        have at3 : atI (boP n x' : List V) (3 : Int) = some (.int x'.2.2.1) := atI_nat (j := 3) rfl
        refine ⟨_, rfl, k, rfl, _, rfl, iteF ?_⟩
        refine ⟨_, rfl, p, _, _, _, rfl, rfl, SqT.of ep, at1, _, rfl, p, _, _, _, rfl, rfl, SqT.of ep, at2, _, rfl, _, _, rfl, rfl, _, rfl, p, _, _, _, rfl, rfl, SqT.of ep, at3, _, rfl, _, _, rfl, rfl, _, _, _, rfl, ?_⟩
        refine ⟨_, rfl, _, rfl, x'.2.1 + k, x'.2.2.1 + k, rfl, fun a4 a5 => ?_, fun a4 => ?_⟩
        · have ap : (isPlace (x'.2.1 + k) && isPlace (x'.2.2.1 + k)) = true := by rw [a4, a5]; rfl
          refine ⟨_, rfl, _, rfl, B, Y, n, rfl, hy, hn, sml.co, fun c2 => ?_, fun c2 => act.1 .InUse (by unfold faultAl; rw [th]; simp [ap, c2]) H (Same.refl H)⟩
          refine ⟨_, rfl, _, rfl, _, rfl, _, rfl, _, rfl, B, Y, n, x'.1, x'.2.1 + k, x'.2.2.1 + k, rfl, hy, hn.1, sml.nm, fun H1 s1 => ⟨fun a9 => ?_, fun a9 => ?_⟩⟩
          · have ef : faultAl Y n k = none := by unfold faultAl; rw [th]; simp [ap, c2, a9]
            have hy1 := hy.keep s1
            obtain ⟨dx1, eo1⟩ := hy1.ob
            refine ⟨_, rfl, _, rfl, B.y, _, dx1, _, _, rfl, eo1, T.cl, T.nt, rfl, B.t, _, rfl, DGet.k (k := Sum.inr n) (s1 _ _ et), _, rfl, ?_⟩
            rw [g1]
            refine iteF ?_
            have at4 : atI (boP n x' : List V) (4 : Int) = some (.int x'.2.2.2) := atI_nat (j := 4) rfl
            refine ⟨_, rfl, _, rfl, _, rfl, _, rfl, _, rfl, p, _, _, _, rfl, rfl, SqT.of (s1 _ _ ep), at4, by show 5 ≤ sizeLine; decide, fun tp ntp => ?_⟩
            have s3 : Same H1 (upd H1 tp (.tup [.str n, .int x'.1, .int (x'.2.1 + k), .int (x'.2.2.1 + k), .int x'.2.2.2])) := same_upd ntp
            have et3 : (upd H1 tp (.tup [.str n, .int x'.1, .int (x'.2.1 + k), .int (x'.2.2.1 + k), .int x'.2.2.2])) tp = some (.tup [.str n, .int x'.1, .int (x'.2.1 + k), .int (x'.2.2.1 + k), .int x'.2.2.2]) := upd_same
            have hy3 := hy1.keep s3
            generalize upd H1 tp (.tup [.str n, .int x'.1, .int (x'.2.1 + k), .int (x'.2.2.1 + k), .int x'.2.2.2]) = H3 at s3 et3 hy3 ⊢
            obtain ⟨dx3, eo3⟩ := hy3.ob
            obtain ⟨k3, e3, r3⟩ := hy3.bo
            have l3 := r3.len
            have hh : hasT Y.bo n = true := by unfold hasT; rw [h2]; rfl
            refine ⟨_, rfl, B.y, _, dx3, _, _, rfl, eo3, T.cl, T.nb, rfl, _, rfl, B.b, _, rfl, DPut.k (k := Sum.inr n) e3 (small1000 (by omega)), ?_⟩
            have v := hy3.updB (r3.put (n := n) (x := (x'.1, x'.2.1 + k, x'.2.2.1 + k, x'.2.2.2)) (p := tp) et3) (by rw [putT_len_in hh]; omega)
            refine ⟨_, rfl, _, rfl, _, rfl, B, _, n, k, rfl, v.is, fun H4 v2 => ?_⟩
            refine act.done ef (.pre (s1.trans s3) ?_)
            have e0 : stepAl Y n k = { Y with bo := putT Y.bo n (x'.1, x'.2.1 + k, x'.2.2.1 + k, x'.2.2.2), sa := shiftS Y.sa n k } := by unfold stepAl; rw [g2, h2]
            rw [e0]
            exact v.then v2
          · exact act.1 .Crowded (by unfold faultAl; rw [th]; simp [ap, c2, a9]) H1 s1
        · have ap : (isPlace (x'.2.1 + k) && isPlace (x'.2.2.1 + k)) = false := by
            rcases a4 with z | z <;> rw [z] <;> simp
          exact act.1 .BadPlace (by unfold faultAl; rw [th]; simp only; rw [if_pos ap]) H (Same.refl H)
    · have th : thingY Y n = some x := by unfold thingY; rw [g2]
      refine ⟨_, rfl, _, rfl, B, Y, n, rfl, hy, hn, fun x' p z ep => ?_, fun x p z _ _ => (by rw [g2] at z; cases z), fun z _ => (by rw [g2] at z; cases z)⟩
      obtain rfl : x' = x := by rw [g2] at z; exact (Option.some.inj z).symm
      have at1 : atI (trP n x' : List V) (1 : Int) = some (.int x'.1) := atI_nat (j := 1) rfl
      have at2 : atI (trP n x' : List V) (2 : Int) = some (.int x'.2.1) := atI_nat (j := 2) rfl
      have at3 : atI (trP n x' : List V) (3 : Int) = some (.int x'.2.2) := atI_nat (j := 3) rfl
      refine ⟨_, rfl, k, rfl, _, rfl, iteF ?_⟩
      refine ⟨_, rfl, p, _, _, _, rfl, rfl, SqT.of ep, at1, _, rfl, p, _, _, _, rfl, rfl, SqT.of ep, at2, _, rfl, _, _, rfl, rfl, _, rfl, p, _, _, _, rfl, rfl, SqT.of ep, at3, _, rfl, _, _, rfl, rfl, _, _, _, rfl, ?_⟩
      refine ⟨_, rfl, _, rfl, x'.2.1 + k, x'.2.2 + k, rfl, fun a4 a5 => ?_, fun a4 => ?_⟩
      · have ap : (isPlace (x'.2.1 + k) && isPlace (x'.2.2 + k)) = true := by rw [a4, a5]; rfl
        refine ⟨_, rfl, _, rfl, B, Y, n, rfl, hy, hn, sml.co, fun c2 => ?_, fun c2 => act.1 .InUse (by unfold faultAl; rw [th]; simp [ap, c2]) H (Same.refl H)⟩
        refine ⟨_, rfl, _, rfl, _, rfl, _, rfl, _, rfl, B, Y, n, x'.1, x'.2.1 + k, x'.2.2 + k, rfl, hy, hn.1, sml.nm, fun H1 s1 => ⟨fun a9 => ?_, fun a9 => ?_⟩⟩
        · have ef : faultAl Y n k = none := by unfold faultAl; rw [th]; simp [ap, c2, a9]
          have hy1 := hy.keep s1
          obtain ⟨dx1, eo1⟩ := hy1.ob
          refine ⟨_, rfl, _, rfl, B.y, _, dx1, _, _, rfl, eo1, T.cl, T.nt, rfl, B.t, _, rfl, DGet.k (k := Sum.inr n) (s1 _ _ et), _, rfl, ?_⟩
          rw [g1]
          refine iteT ?_
          refine ⟨_, rfl, _, rfl, _, rfl, _, rfl, by show 4 ≤ sizeLine; decide, fun tp ntp => ?_⟩
          have s3 : Same H1 (upd H1 tp (.tup [.str n, .int x'.1, .int (x'.2.1 + k), .int (x'.2.2 + k)])) := same_upd ntp
          have et3 : (upd H1 tp (.tup [.str n, .int x'.1, .int (x'.2.1 + k), .int (x'.2.2 + k)])) tp = some (.tup [.str n, .int x'.1, .int (x'.2.1 + k), .int (x'.2.2 + k)]) := upd_same
          have hy3 := hy1.keep s3
          generalize upd H1 tp (.tup [.str n, .int x'.1, .int (x'.2.1 + k), .int (x'.2.2 + k)]) = H3 at s3 et3 hy3 ⊢
          obtain ⟨dx3, eo3⟩ := hy3.ob
          obtain ⟨k3, e3, r3⟩ := hy3.tr
          have l3 := r3.len
          have hh : hasT Y.tr n = true := by unfold hasT; rw [g2]; rfl
          refine ⟨_, rfl, B.y, _, dx3, _, _, rfl, eo3, T.cl, T.nt, rfl, _, rfl, B.t, _, rfl, DPut.k (k := Sum.inr n) e3 (small1000 (by omega)), ?_⟩
          have v := hy3.updT (r3.put (n := n) (x := (x'.1, x'.2.1 + k, x'.2.2 + k)) (p := tp) et3) (by rw [putT_len_in hh]; omega)
          refine act.done ef (.pre (s1.trans s3) ?_)
          have e0 : stepAl Y n k = { Y with tr := putT Y.tr n (x'.1, x'.2.1 + k, x'.2.2 + k) } := by unfold stepAl; rw [g2]
          rw [e0]
          exact v
        · exact act.1 .Crowded (by unfold faultAl; rw [th]; simp [ap, c2, a9]) H1 s1
      · have ap : (isPlace (x'.2.1 + k) && isPlace (x'.2.2 + k)) = false := by
          rcases a4 with z | z <;> rw [z] <;> simp
        exact act.1 .BadPlace (by unfold faultAl; rw [th]; simp only; rw [if_pos ap]) H (Same.refl H)
end
end DY
namespace DY
open PySem PySem.Spec PyProof.Rows L2
section
variable {P : Program} {w : World} {K : PySem.W.Frag} {mg : Str → Option Value} {base : Heap}
/-! ### cords -/
def upRow (Y : Yd) (u : Str) : Option (Int × Int × Int) := if u = "" then some (10, -1000000, 1000000) else (getT Y.bo u).map fun x => (x.1, x.2.1, x.2.2.1)
def faultTi (Y : Yd) (n u lo : Str) (p : Int) : Option Er :=
  if isName n = false then some .BadName else if taken Y n = true then some .Taken else match upRow Y u with
    | none => some .NoThing
    | some y => match getT Y.bo lo with
      | none => some .NoThing
      | some x => if y.1 ≤ x.1 then some .BadCord else if onB y.2.1 y.2.2 p = false then some .BadPlace else if onB x.2.1 x.2.2.1 p = false then some .BadPlace else if 4 ≤ Y.co.length then some .Full else none
def stepTi (Y : Yd) (n u lo : Str) (p : Int) : Yd := { Y with co := Y.co ++ [(n, u, lo, p)] }
def spTi (C : Addr) (ec : Er → Addr) : Sp := fun vs H Q E => ∃ (A : YA) (Y : Yd) (n u lo : Str) (p : Int), vs = [.ref A.y, .str n, .str u, .str lo, .int p] ∧ IsY C A H Y ∧ Nm n ∧ Nm u ∧ Nm lo ∧ Act C ec A H Q E (faultTi Y n u lo p) (stepTi Y n u lo p)
theorem ok_tie_cord (T : T6 w K mg) : FnOk P w K mg base (L2N.CX P w) 4 T.d_tie_cord.a T.d_tie_cord.d ["yard", "name", "upper", "lower", "place"] (spTi T.CY (ec T.toT1)) := by
  have G_check_new_name : FnOk P w K mg base (L2N.CX P w) 2 T.d_check_new_name.a T.d_check_new_name.d ["yard", "name"] (spNN T.CY T.x_BadName.a T.x_Taken.a) := ok_check_new_name T.toT1
  have G_board_row : FnOk P w K mg base (L2N.CX P w) 1 T.d_board_row.a T.d_board_row.d ["yard", "name"] (spBR T.CY boP (·.bo) T.x_NoThing.a) := ok_board_row T.toT5
  have G_check_on_board : FnOk P w K mg base (L2N.CX P w) 3 T.d_check_on_board.a T.d_check_on_board.d ["row", "place"] (spOn K T.x_BadPlace.a) := ok_check_on_board T.toT5
  have G_check_count : FnOk P w K mg base (L2N.CX P w) 1 T.d_check_count.a T.d_check_count.d ["rows", "most"] (spCo T.x_Full.a) := ok_check_count T.toT0
  obtain ⟨tk, c_MOST_CORDS⟩ := T.c_MOST_CORDS
  obtain ⟨tk2, c_BEAM⟩ := T.c_BEAM
  have c_BEAM_ROW := T.c_BEAM_ROW
  refine DH.okN T.d_tie_cord.F sc_tie_cord (fun vs H Q E h => ?_) (fun cdv A outer s H vs Q E hr h => ?_)
  · obtain ⟨_, _, _, _, _, _, rfl, _⟩ := h
    rfl
  · obtain ⟨B, Y, n, u, lo, pl, rfl, hy, hn, hu1, hl, act⟩ := h
    have hu := hu_of hr
    refine ⟨_, pss_cons (ps_expr (pe_call G_check_new_name (hr.mono (by decide)) (by rfl) T.d_check_new_name.g T.d_check_new_name.F.kp T.d_check_new_name.b .nil (L2N.passes_call (L2N.takes_of rfl rfl rfl rfl) (fun _ _ _ _ h => h)) (pa_cons (pv 0) (pa_cons (pv 1) pa_nil))))
      (pss_cons (ps_set (i := 5) sc_tie_cord.nd rfl (Or.inl rfl) (pe_ifExp (pt_cmpR op_eq (pv 2) (pe_glob (v := .str "") rfl c_BEAM ⟨_, rfl⟩) (nomark _)) (pe_glob (v := .ref T.aBR) rfl c_BEAM_ROW rfl) (pe_call G_board_row (hr.mono (by decide)) (by rfl) T.d_board_row.g T.d_board_row.F.kp T.d_board_row.b .nil (L2N.passes_call (L2N.takes_of rfl rfl rfl rfl) (fun _ _ _ _ h => h)) (pa_cons (pv 0) (pa_cons (pv 2) pa_nil)))))
      (pss_cons (ps_set (i := 6) sc_tie_cord.nd rfl (Or.inl rfl) (pe_call G_board_row (hr.mono (by decide)) (by rfl) T.d_board_row.g T.d_board_row.F.kp T.d_board_row.b .nil (L2N.passes_call (L2N.takes_of rfl rfl rfl rfl) (fun _ _ _ _ h => h)) (pa_cons (pv 0) (pa_cons (pv 3) pa_nil))))
      (pss_cons (ps_if (pt_cmpR op_le (pe_ix ix_tup (pv 5) pe_int (fun _ _ => rfl)) (pe_ix ix_tup (pv 6) pe_int (fun _ _ => rfl)) (nomark _)) (pss_one (L2N.ps_raise rfl (L2N.takes_of rfl rfl rfl rfl) (DH.pmkN PySem.F.excBase_ValueError T.x_BadCord.x T.x_BadCord.g T.x_BadCord.k (raises_own T.x_BadCord.b T.x_BadCord.t) (by rfl) (pe_joined (PJ.cons (pe_fmt (pv 2)) (PJ.cons pe_str (PJ.cons (pe_fmt (pv 3)) PJ.nil))))))) pss_nil)
      (pss_cons (ps_expr (pe_call G_check_on_board (hr.mono (by decide)) (by rfl) T.d_check_on_board.g T.d_check_on_board.F.kp T.d_check_on_board.b .nil (L2N.passes_call (L2N.takes_of rfl rfl rfl rfl) (fun _ _ _ _ h => h)) (pa_cons (pv 5) (pa_cons (pv 4) pa_nil))))
      (pss_cons (ps_expr (pe_call G_check_on_board (hr.mono (by decide)) (by rfl) T.d_check_on_board.g T.d_check_on_board.F.kp T.d_check_on_board.b .nil (L2N.passes_call (L2N.takes_of rfl rfl rfl rfl) (fun _ _ _ _ h => h)) (pa_cons (pv 6) (pa_cons (pv 4) pa_nil))))
      (pss_cons (ps_expr (pe_call G_check_count (hr.mono (by decide)) (by rfl) T.d_check_count.g T.d_check_count.F.kp T.d_check_count.b .nil (L2N.passes_call (L2N.takes_of rfl rfl rfl rfl) (fun _ _ _ _ h => h)) (pa_cons (pe_fld (pv 0) rfl) (pa_cons (pe_glob (v := .int 4) rfl c_MOST_CORDS ⟨_, rfl⟩) pa_nil))))
      (pss_one (ps_dput hu (pe_fld (pv 0) rfl) (pv 1) (pe_tup (pa_cons (pv 1) (pa_cons (pv 2) (pa_cons (pv 3) (pa_cons (pv 4) pa_nil))))) rfl)))))))), ?_⟩
    refine ⟨_, rfl, _, rfl, B, Y, n, rfl, hy, hn.1, fun H1 s1 => ⟨fun a1 a2 => ?_, fun a1 => ?_, fun a1 a2 => ?_⟩⟩
    · have hy1 := hy.keep s1
      refine ⟨_, rfl, rfl, _, rfl, ite2 (fun e => ?_) (fun e => ?_)⟩
      · have ue : u = "" := V.str.inj (of_decide_eq_true e)
        have ur : upRow Y u = some (10, -1000000, 1000000) := by unfold upRow; rw [if_pos ue]
        refine ⟨_, rfl, _, rfl, B, Y, lo, rfl, hy1, hl, fun x p gx ep => ?_, fun gx => act.1 .NoThing (by unfold faultTi; simp [a1, a2, ur, gx]) H1 s1⟩
        have at1u : atI ([.str "", .int 10, .int (-1000000), .int 1000000] : List V) (1 : Int) = some (.int 10) := atI_nat (j := 1) rfl
        have at1l : atI (boP lo x : List V) (1 : Int) = some (.int x.1) := atI_nat (j := 1) rfl
        refine ⟨_, rfl, T.aBR, _, _, _, rfl, rfl, (T.sBR H1), at1u, _, rfl, p, _, _, _, rfl, rfl, SqT.of ep, at1l, _, _, rfl, rfl, _, rfl, ite2 (fun e => ?_) (fun e => ?_)⟩
        · have e1 : 10 ≤ x.1 := of_decide_eq_true e
          have l1 := hu1.1
          have l2 := hl.1
          refine ⟨_, rfl, .inl ⟨u, rfl, sm (by omega), u, rfl, ?_, _, rfl, ?_, _, rfl, .inl ⟨lo, rfl, sm (by omega), lo, rfl, ?_, act.1 .BadCord (by unfold faultTi; simp [a1, a2, ur, gx, e1]) H1 s1⟩⟩⟩
          · refine sm ?_
            rw [len_app]
            show 0 + u.length ≤ _
            omega
          · refine sm ?_
            rw [len_app, len_app]
            show 0 + u.length + 32 ≤ _
            omega
          · refine sm ?_
            rw [len_app, len_app, len_app]
            show 0 + u.length + 32 + lo.length ≤ _
            omega
        · have e1 : ¬ 10 ≤ x.1 := fun z => e (decide_eq_true z)
          refine ⟨_, rfl, _, rfl, T.aBR, "", 10, (-1000000), 1000000, pl, [], rfl, (T.sBR H1), (by decide), fun o1 => ?_, fun o1 => act.1 .BadPlace (by unfold faultTi; simp [a1, a2, ur, gx, e1, o1]) H1 s1⟩
          refine ⟨_, rfl, _, rfl, p, lo, x.1, x.2.1, x.2.2.1, pl, [.int x.2.2.2], rfl, SqT.of ep, hl.1, fun o2 => ?_, fun o2 => act.1 .BadPlace (by unfold faultTi; simp [a1, a2, ur, gx, e1, o1, o2]) H1 s1⟩
          obtain ⟨dx, eo⟩ := hy1.ob
          obtain ⟨k2, e2, r2⟩ := hy1.co
          have ln2 := r2.len
          refine ⟨_, rfl, B.y, _, dx, _, _, rfl, eo, T.cl, T.nc, rfl, B.c, k2, 4, rfl, e2, fun a7 => ?_, fun a7 => ?_⟩
          · have a8 : ¬ 4 ≤ Y.co.length := by omega
            have ef : faultTi Y n u lo pl = none := by
              unfold faultTi
              simp [a1, a2, ur, gx, e1, o1, o2, a8]
            refine ⟨_, rfl, _, rfl, _, rfl, _, rfl, by show 4 ≤ sizeLine; decide, fun tp ntp => ?_⟩
            have s3 : Same H1 (upd H1 tp (.tup [.str n, .str u, .str lo, .int pl])) := same_upd ntp
            have et : (upd H1 tp (.tup [.str n, .str u, .str lo, .int pl])) tp = some (.tup [.str n, .str u, .str lo, .int pl]) := upd_same
            have hy3 := hy1.keep s3
            generalize upd H1 tp (.tup [.str n, .str u, .str lo, .int pl]) = H3 at s3 et hy3 ⊢
            obtain ⟨dx3, eo3⟩ := hy3.ob
            obtain ⟨ks, es, rs⟩ := hy3.co
            have ls := rs.len
            refine ⟨_, rfl, B.y, _, dx3, _, _, rfl, eo3, T.cl, T.nc, rfl, _, rfl, B.c, _, rfl, DPut.k (k := Sum.inr n) es (small1000 (by omega)), ?_⟩
            refine act.done ef (.pre (s1.trans s3) ?_)
            have nh : hasT Y.co n = false := by
              have a := a2
              unfold taken at a
              simp at a
              exact a.2.2.2
            have v := hy3.updC (rs.put (n := n) (x := (u, lo, pl)) (p := tp) et) (by rw [putT_new nh, List.length_append]; show _ + 1 ≤ 4; omega)
            rw [putT_new nh] at v
            exact v
          · have a8 : 4 ≤ Y.co.length := by omega
            exact act.1 .Full (by unfold faultTi; simp [a1, a2, ur, gx, e1, o1, o2, a8]) H1 s1
      · have nu : ¬ u = "" := fun z => e (decide_eq_true (by rw [z]))
        refine ⟨_, rfl, _, rfl, B, Y, u, rfl, hy1, hu1, fun xu pu gu epu => ?_, fun gu => act.1 .NoThing (by unfold faultTi upRow; simp [a1, a2, nu, gu]) H1 s1⟩
        have ur : upRow Y u = some (xu.1, xu.2.1, xu.2.2.1) := by unfold upRow; rw [if_neg nu, gu]; rfl
        refine ⟨_, rfl, _, rfl, B, Y, lo, rfl, hy1, hl, fun x p gx ep => ?_, fun gx => act.1 .NoThing (by unfold faultTi; simp [a1, a2, ur, gx]) H1 s1⟩
        have at1u : atI (boP u xu : List V) (1 : Int) = some (.int xu.1) := atI_nat (j := 1) rfl
        have at1l : atI (boP lo x : List V) (1 : Int) = some (.int x.1) := atI_nat (j := 1) rfl
        refine ⟨_, rfl, pu, _, _, _, rfl, rfl, (SqT.of epu), at1u, _, rfl, p, _, _, _, rfl, rfl, SqT.of ep, at1l, _, _, rfl, rfl, _, rfl, ite2 (fun e => ?_) (fun e => ?_)⟩
        · have e1 : xu.1 ≤ x.1 := of_decide_eq_true e
          have l1 := hu1.1
          have l2 := hl.1
          refine ⟨_, rfl, .inl ⟨u, rfl, sm (by omega), u, rfl, ?_, _, rfl, ?_, _, rfl, .inl ⟨lo, rfl, sm (by omega), lo, rfl, ?_, act.1 .BadCord (by unfold faultTi; simp [a1, a2, ur, gx, e1]) H1 s1⟩⟩⟩
          · refine sm ?_
            rw [len_app]
            show 0 + u.length ≤ _
            omega
          · refine sm ?_
            rw [len_app, len_app]
            show 0 + u.length + 32 ≤ _
            omega
          · refine sm ?_
            rw [len_app, len_app, len_app]
            show 0 + u.length + 32 + lo.length ≤ _
            omega
        · have e1 : ¬ xu.1 ≤ x.1 := fun z => e (decide_eq_true z)
          refine ⟨_, rfl, _, rfl, pu, u, xu.1, xu.2.1, xu.2.2.1, pl, [.int xu.2.2.2], rfl, (SqT.of epu), hu1.1, fun o1 => ?_, fun o1 => act.1 .BadPlace (by unfold faultTi; simp [a1, a2, ur, gx, e1, o1]) H1 s1⟩
          refine ⟨_, rfl, _, rfl, p, lo, x.1, x.2.1, x.2.2.1, pl, [.int x.2.2.2], rfl, SqT.of ep, hl.1, fun o2 => ?_, fun o2 => act.1 .BadPlace (by unfold faultTi; simp [a1, a2, ur, gx, e1, o1, o2]) H1 s1⟩
          obtain ⟨dx, eo⟩ := hy1.ob
          obtain ⟨k2, e2, r2⟩ := hy1.co
          have ln2 := r2.len
          refine ⟨_, rfl, B.y, _, dx, _, _, rfl, eo, T.cl, T.nc, rfl, B.c, k2, 4, rfl, e2, fun a7 => ?_, fun a7 => ?_⟩
          · have a8 : ¬ 4 ≤ Y.co.length := by omega
            have ef : faultTi Y n u lo pl = none := by
              unfold faultTi
              simp [a1, a2, ur, gx, e1, o1, o2, a8]
            refine ⟨_, rfl, _, rfl, _, rfl, _, rfl, by show 4 ≤ sizeLine; decide, fun tp ntp => ?_⟩
            have s3 : Same H1 (upd H1 tp (.tup [.str n, .str u, .str lo, .int pl])) := same_upd ntp
            have et : (upd H1 tp (.tup [.str n, .str u, .str lo, .int pl])) tp = some (.tup [.str n, .str u, .str lo, .int pl]) := upd_same
            have hy3 := hy1.keep s3
            generalize upd H1 tp (.tup [.str n, .str u, .str lo, .int pl]) = H3 at s3 et hy3 ⊢
            obtain ⟨dx3, eo3⟩ := hy3.ob
            obtain ⟨ks, es, rs⟩ := hy3.co
            have ls := rs.len
            refine ⟨_, rfl, B.y, _, dx3, _, _, rfl, eo3, T.cl, T.nc, rfl, _, rfl, B.c, _, rfl, DPut.k (k := Sum.inr n) es (small1000 (by omega)), ?_⟩
            refine act.done ef (.pre (s1.trans s3) ?_)
            have nh : hasT Y.co n = false := by
              have a := a2
              unfold taken at a
              simp at a
              exact a.2.2.2
            have v := hy3.updC (rs.put (n := n) (x := (u, lo, pl)) (p := tp) et) (by rw [putT_new nh, List.length_append]; show _ + 1 ≤ 4; omega)
            rw [putT_new nh] at v
            exact v
          · have a8 : 4 ≤ Y.co.length := by omega
            exact act.1 .Full (by unfold faultTi; simp [a1, a2, ur, gx, e1, o1, o2, a8]) H1 s1
    · exact act.1 .BadName (by unfold faultTi; simp [a1]) H1 s1
    · exact act.1 .Taken (by unfold faultTi; simp [a1, a2]) H1 s1
end
end DY
namespace DY
open PySem PySem.Spec PyProof.Rows L2
abbrev s_check_form : Stmt := topS 23
abbrev N_check_form : List Str := ["deed"]
theorem sc_check_form : FnScope N_check_form ["deed"] (defScope s_check_form) := ⟨rfl, rfl, rfl, by decide +kernel, rfl, by decide +kernel, by decide +kernel⟩
/-- a method of Yard -/
structure MthF (K : PySem.W.Frag) (C : Addr) (m : Str) (q : Str) (st : Stmt) (ps : List Str) where
  a : Addr
  d : FuncData
  F : Fun K m q st a d
  m : Meth K C m a
  b : Binds K d ps []
def counts : List (Str × Int) := [("trestle", 5), ("board", 6), ("away", 2), ("along", 3), ("sack", 5), ("move", 4), ("lift", 2), ("cord", 5), ("cut", 2)]
structure T4 (w : World) (K : PySem.W.Frag) (mg : Str → Option Value) extends T6 w K mg where
  aC : Addr
  aA : Addr
  c_DEED_THINGS : mg "DEED_THINGS" = some (.ref aC)
  c_ACTIONS : mg "ACTIONS" = some (.ref aA)
  kC : ∃ es n, KDict K w aC es n
  kA : ∃ es n, KDict K w aA es n
  vC : ∀ q ∈ counts, ∃ (u : Value) (t : Addr) (xs : List V), PySem.W.nsIn K aC q.1 = some (some u) ∧ RelV (.ref t) u ∧ (1 : Int) + ((xs.length : Nat) : Int) = q.2 ∧ ∀ H : Hp, SqT K H t xs
  aT : ∃ u, PySem.W.nsIn K aA "trestle" = some (some u) ∧ RelV (.ref d_set_trestle.a) u
  aB : ∃ u, PySem.W.nsIn K aA "board" = some (some u) ∧ RelV (.ref d_lay_board.a) u
  aAw : ∃ u, PySem.W.nsIn K aA "away" = some (some u) ∧ RelV (.ref d_take_away.a) u
  aAl : ∃ u, PySem.W.nsIn K aA "along" = some (some u) ∧ RelV (.ref d_shift_along.a) u
  aSa : ∃ u, PySem.W.nsIn K aA "sack" = some (some u) ∧ RelV (.ref d_set_sack.a) u
  aMo : ∃ u, PySem.W.nsIn K aA "move" = some (some u) ∧ RelV (.ref d_move_sack.a) u
  aLi : ∃ u, PySem.W.nsIn K aA "lift" = some (some u) ∧ RelV (.ref d_lift_sack.a) u
  aCo : ∃ u, PySem.W.nsIn K aA "cord" = some (some u) ∧ RelV (.ref d_tie_cord.a) u
  aCu : ∃ u, PySem.W.nsIn K aA "cut" = some (some u) ∧ RelV (.ref d_cut_cord.a) u
  d_check_form : DefF K mg "check_form" s_check_form ["deed"]
  i_Yard : Addr
  id_Yard : FuncData
  iF_Yard : Fun K "__init__" "Yard.__init__" s_Yard___init__ i_Yard id_Yard
  ib_Yard : Binds K id_Yard ["self"] []
  mk_Yard : Mk K CY i_Yard
  g_Yard : mg "Yard" = some (.ref CY)
  d_Yard_do : MthF K CY "do" "Yard.do" s_Yard_do ["self", "deed"]
  d_Yard_boards : MthF K CY "boards" "Yard.boards" s_Yard_boards ["self"]
  d_Yard_trestles : MthF K CY "trestles" "Yard.trestles" s_Yard_trestles ["self"]
  d_Yard_sacks : MthF K CY "sacks" "Yard.sacks" s_Yard_sacks ["self"]
  d_Yard_cords : MthF K CY "cords" "Yard.cords" s_Yard_cords ["self"]
section
variable {P : Program} {w : World} {K : PySem.W.Frag} {mg : Str → Option Value} {base : Heap}
/-! ### a new yard -/
def y0 : Yd := ⟨[], [], [], []⟩
def spInit (C : Addr) : Sp := fun vs H Q _ => ∃ (y dx : Addr), vs = [.ref y] ∧ H y = some (.ins C dx []) ∧ ∀ (A : YA) (H' : Hp), A.y = y → H A.b = none → H A.t = none → H A.s = none → H A.c = none → (∀ p o, H p = some o → p ≠ y → H' p = some o) → IsY C A H' y0 → Q .non H'
theorem kbt : ¬ (("board_rows" : Str) = "trestle_rows") := by decide +kernel
theorem kbs : ¬ (("board_rows" : Str) = "sack_rows") := by decide +kernel
theorem kbc : ¬ (("board_rows" : Str) = "cord_rows") := by decide +kernel
theorem kts : ¬ (("trestle_rows" : Str) = "sack_rows") := by decide +kernel
theorem ktc : ¬ (("trestle_rows" : Str) = "cord_rows") := by decide +kernel
theorem ksc : ¬ (("sack_rows" : Str) = "cord_rows") := by decide +kernel
theorem put4 (b t s c : V) : putF "cord_rows" c (putF "sack_rows" s (putF "trestle_rows" t (putF "board_rows" b []))) = ([("board_rows", b), ("trestle_rows", t), ("sack_rows", s), ("cord_rows", c)] : List (Str × V)) := by
  simp only [putF, if_neg kbt, if_neg kbs, if_neg kbc, if_neg kts, if_neg ktc, if_neg ksc]
theorem ok_init (T : T4 w K mg) : FnOk P w K mg base CX0 1 T.i_Yard T.id_Yard ["self"] (spInit T.CY) := by
  refine T.iF_Yard.ok sc_Yard___init__ (fun vs H Q E h => ?_) (fun cdv A outer s H vs Q E hr h => ?_)
  · obtain ⟨_, _, rfl, _⟩ := h
    rfl
  · obtain ⟨y, dx, rfl, ey, q⟩ := h
    refine ⟨_, pss_cons (ps_fld (pv 0) pe_dnewK rfl)
      (pss_cons (ps_fld (pv 0) pe_dnewK rfl)
      (pss_cons (ps_fld (pv 0) pe_dnewK rfl)
      (pss_one (ps_fld (pv 0) pe_dnewK rfl)))), ?_⟩
    intro b nb
    have yb : y ≠ b := ne_of_none ey nb
    refine ⟨_, rfl, y, _, dx, _, rfl, by rw [upd_ne yb]; exact ey, T.cl, T.nb, by show 0 < 1000; decide, ?_⟩
    intro t nt
    have yt : y ≠ t := fun z => by rw [← z, upd_same] at nt; cases nt
    have bt : b ≠ t := fun z => by rw [← z, upd_ne yb.symm, upd_same] at nt; cases nt
    refine ⟨_, rfl, y, _, dx, _, rfl, by rw [upd_ne yt, upd_same], T.cl, T.nt, by show 1 < 1000; decide, ?_⟩
    intro sa ns
    have ys : y ≠ sa := fun z => by rw [← z, upd_same] at ns; cases ns
    have ts : t ≠ sa := fun z => by rw [← z, upd_ne yt.symm, upd_same] at ns; cases ns
    have bs : b ≠ sa := fun z => by rw [← z, upd_ne yb.symm, upd_ne bt, upd_ne yb.symm, upd_same] at ns; cases ns
    refine ⟨_, rfl, y, _, dx, _, rfl, by rw [upd_ne ys, upd_same], T.cl, T.ns, ?_, ?_⟩
    · simp only [putF, if_neg kbt]
      show 2 < 1000
      decide
    intro c nc
    have yc : y ≠ c := fun z => by rw [← z, upd_same] at nc; cases nc
    have sc' : sa ≠ c := fun z => by rw [← z, upd_ne ys.symm, upd_same] at nc; cases nc
    have tc : t ≠ c := fun z => by rw [← z, upd_ne yt.symm, upd_ne ts, upd_ne yt.symm, upd_same] at nc; cases nc
    have bc : b ≠ c := fun z => by rw [← z, upd_ne yb.symm, upd_ne bs, upd_ne yb.symm, upd_ne bt, upd_ne yb.symm, upd_same] at nc; cases nc
    refine ⟨_, rfl, y, _, dx, _, rfl, by rw [upd_ne yc, upd_same], T.cl, T.nc, ?_, ?_⟩
    · simp only [putF, if_neg kbt, if_neg kbs, if_neg kts]
      show 3 < 1000
      decide
    · rw [put4]
      have old : ∀ q, H q = none → ∀ p o, H p = some o → p ≠ q := fun q hq p o e => ne_of_none e hq
      have hb : H b = none := nb
      have ht : H t = none := by rw [upd_ne yt.symm, upd_ne bt.symm] at nt; exact nt
      have hs : H sa = none := by rw [upd_ne ys.symm, upd_ne ts.symm, upd_ne ys.symm, upd_ne bs.symm] at ns; exact ns
      have hc : H c = none := by rw [upd_ne yc.symm, upd_ne sc'.symm, upd_ne yc.symm, upd_ne tc.symm, upd_ne yc.symm, upd_ne bc.symm] at nc; exact nc
      refine q ⟨y, b, t, sa, c⟩ _ rfl hb ht hs hc (fun p o e hp => ?_) ⟨⟨dx, upd_same⟩, ⟨[], ?_, .nil⟩, ⟨[], ?_, .nil⟩, ⟨[], ?_, .nil⟩, ⟨[], ?_, .nil⟩, ⟨bt, bs, bc, ts, tc, sc'⟩, by decide⟩
      · rw [upd_ne hp, upd_ne (old c hc p o e), upd_ne hp, upd_ne (old sa hs p o e), upd_ne hp, upd_ne (old t ht p o e), upd_ne hp, upd_ne (old b hb p o e)]
        exact e
      · rw [upd_ne yb.symm, upd_ne bc, upd_ne yb.symm, upd_ne bs, upd_ne yb.symm, upd_ne bt, upd_ne yb.symm, upd_same]
      · rw [upd_ne yt.symm, upd_ne tc, upd_ne yt.symm, upd_ne ts, upd_ne yt.symm, upd_same]
      · rw [upd_ne ys.symm, upd_ne sc', upd_ne ys.symm, upd_same]
      · rw [upd_ne yc.symm, upd_same]
/-! ### what a yard tells -/
def spTell {α : Type} (C : Addr) (f : Str → α → List V) (g : Yd → List (Str × α)) : Sp := fun vs H Q _ => ∃ (A : YA) (Y : Yd), vs = [.ref A.y] ∧ IsY C A H Y ∧ ∀ H' p us, Same H H' → H p = none → H' p = some (.lst us) → Told H' f (g Y) us → Q (.ref p) H'
theorem ok_boards (T : T4 w K mg) : FnOk P w K mg base CX0 2 T.d_Yard_boards.a T.d_Yard_boards.d ["self"] (spTell T.CY boP (·.bo)) := by
  have G_rows_by_names : FnOk P w K mg base CX0 1 T.d_rows_by_names.a T.d_rows_by_names.d ["rows"] (spRN boP) := ok_rows_by_names boP T.toT3
  refine T.d_Yard_boards.F.ok sc_Yard_boards (fun vs H Q E h => ?_) (fun cdv A outer s H vs Q E hr h => ?_)
  · obtain ⟨_, _, rfl, _⟩ := h
    rfl
  · obtain ⟨B, Y, rfl, hy, q⟩ := h
    obtain ⟨dx, eo⟩ := hy.ob
    obtain ⟨k, e, r⟩ := hy.bo
    have := hy.le
    refine ⟨_, pss_one (ps_ret (pe_call G_rows_by_names (hr.mono (by decide)) (by rfl) T.d_rows_by_names.g T.d_rows_by_names.F.kp T.d_rows_by_names.b .nil pass0 (pa_cons (pe_fld (pv 0) rfl) pa_nil))), ?_⟩
    exact ⟨_, rfl, B.y, _, dx, _, _, rfl, eo, T.cl, T.nb, rfl, B.b, k, Y.bo, rfl, e, r, by omega, q⟩
theorem ok_trestles (T : T4 w K mg) : FnOk P w K mg base CX0 2 T.d_Yard_trestles.a T.d_Yard_trestles.d ["self"] (spTell T.CY trP (·.tr)) := by
  have G_rows_by_names : FnOk P w K mg base CX0 1 T.d_rows_by_names.a T.d_rows_by_names.d ["rows"] (spRN trP) := ok_rows_by_names trP T.toT3
  refine T.d_Yard_trestles.F.ok sc_Yard_trestles (fun vs H Q E h => ?_) (fun cdv A outer s H vs Q E hr h => ?_)
  · obtain ⟨_, _, rfl, _⟩ := h
    rfl
  · obtain ⟨B, Y, rfl, hy, q⟩ := h
    obtain ⟨dx, eo⟩ := hy.ob
    obtain ⟨k, e, r⟩ := hy.tr
    have := hy.le
    refine ⟨_, pss_one (ps_ret (pe_call G_rows_by_names (hr.mono (by decide)) (by rfl) T.d_rows_by_names.g T.d_rows_by_names.F.kp T.d_rows_by_names.b .nil pass0 (pa_cons (pe_fld (pv 0) rfl) pa_nil))), ?_⟩
    exact ⟨_, rfl, B.y, _, dx, _, _, rfl, eo, T.cl, T.nt, rfl, B.t, k, Y.tr, rfl, e, r, by omega, q⟩
theorem ok_sacks (T : T4 w K mg) : FnOk P w K mg base CX0 2 T.d_Yard_sacks.a T.d_Yard_sacks.d ["self"] (spTell T.CY saP (·.sa)) := by
  have G_rows_by_names : FnOk P w K mg base CX0 1 T.d_rows_by_names.a T.d_rows_by_names.d ["rows"] (spRN saP) := ok_rows_by_names saP T.toT3
  refine T.d_Yard_sacks.F.ok sc_Yard_sacks (fun vs H Q E h => ?_) (fun cdv A outer s H vs Q E hr h => ?_)
  · obtain ⟨_, _, rfl, _⟩ := h
    rfl
  · obtain ⟨B, Y, rfl, hy, q⟩ := h
    obtain ⟨dx, eo⟩ := hy.ob
    obtain ⟨k, e, r⟩ := hy.sa
    have := hy.le
    refine ⟨_, pss_one (ps_ret (pe_call G_rows_by_names (hr.mono (by decide)) (by rfl) T.d_rows_by_names.g T.d_rows_by_names.F.kp T.d_rows_by_names.b .nil pass0 (pa_cons (pe_fld (pv 0) rfl) pa_nil))), ?_⟩
    exact ⟨_, rfl, B.y, _, dx, _, _, rfl, eo, T.cl, T.ns, rfl, B.s, k, Y.sa, rfl, e, r, by omega, q⟩
theorem ok_cords (T : T4 w K mg) : FnOk P w K mg base CX0 2 T.d_Yard_cords.a T.d_Yard_cords.d ["self"] (spTell T.CY coP (·.co)) := by
  have G_rows_by_names : FnOk P w K mg base CX0 1 T.d_rows_by_names.a T.d_rows_by_names.d ["rows"] (spRN coP) := ok_rows_by_names coP T.toT3
  refine T.d_Yard_cords.F.ok sc_Yard_cords (fun vs H Q E h => ?_) (fun cdv A outer s H vs Q E hr h => ?_)
  · obtain ⟨_, _, rfl, _⟩ := h
    rfl
  · obtain ⟨B, Y, rfl, hy, q⟩ := h
    obtain ⟨dx, eo⟩ := hy.ob
    obtain ⟨k, e, r⟩ := hy.co
    have := hy.le
    refine ⟨_, pss_one (ps_ret (pe_call G_rows_by_names (hr.mono (by decide)) (by rfl) T.d_rows_by_names.g T.d_rows_by_names.F.kp T.d_rows_by_names.b .nil pass0 (pa_cons (pe_fld (pv 0) rfl) pa_nil))), ?_⟩
    exact ⟨_, rfl, B.y, _, dx, _, _, rfl, eo, T.cl, T.nc, rfl, B.c, k, Y.co, rfl, e, r, by omega, q⟩
/-! ### deeds -/
inductive Deed
  | tre (n : Str) (c : Int) (l : Int) (r : Int)
  | boa (n : Str) (c : Int) (l : Int) (r : Int) (g : Int)
  | awa (n : Str)
  | alo (n : Str) (k : Int)
  | sac (n : Str) (b : Str) (p : Int) (g : Int)
  | mov (n : Str) (b : Str) (p : Int)
  | lif (n : Str)
  | cor (n : Str) (u : Str) (lo : Str) (p : Int)
  | cut (n : Str)
def dW : Deed → Str
  | .tre .. => "trestle"
  | .boa .. => "board"
  | .awa .. => "away"
  | .alo .. => "along"
  | .sac .. => "sack"
  | .mov .. => "move"
  | .lif .. => "lift"
  | .cor .. => "cord"
  | .cut .. => "cut"
def dR : Deed → List V
  | .tre n c l r => [.str n, .int c, .int l, .int r]
  | .boa n c l r g => [.str n, .int c, .int l, .int r, .int g]
  | .awa n => [.str n]
  | .alo n k => [.str n, .int k]
  | .sac n b p g => [.str n, .str b, .int p, .int g]
  | .mov n b p => [.str n, .str b, .int p]
  | .lif n => [.str n]
  | .cor n u lo p => [.str n, .str u, .str lo, .int p]
  | .cut n => [.str n]
def dN : Deed → Str
  | .tre n .. => n
  | .boa n .. => n
  | .awa n => n
  | .alo n .. => n
  | .sac n .. => n
  | .mov n .. => n
  | .lif n => n
  | .cor n .. => n
  | .cut n => n
/-- all its texts are short -/
def dOk : Deed → Prop
  | .tre n c l r => Nm n
  | .boa n c l r g => Nm n
  | .awa n => Nm n
  | .alo n k => Nm n
  | .sac n b p g => Nm n ∧ Nm b
  | .mov n b p => Nm n ∧ Nm b
  | .lif n => Nm n
  | .cor n u lo p => Nm n ∧ Nm u ∧ Nm lo
  | .cut n => Nm n
def fault (Y : Yd) : Deed → Option Er
  | .tre n c l r => faultT Y n c l r
  | .boa n c l r g => faultB Y n c l r g
  | .awa n => faultAw Y n
  | .alo n k => faultAl Y n k
  | .sac n b p g => faultSa Y n b p g
  | .mov n b p => faultMo Y n b p
  | .lif n => faultLi Y n
  | .cor n u lo p => faultTi Y n u lo p
  | .cut n => faultCu Y n
def step (Y : Yd) : Deed → Yd
  | .tre n c l r => { Y with tr := Y.tr ++ [(n, c, l, r)] }
  | .boa n c l r g => { Y with bo := Y.bo ++ [(n, c, l, r, g)] }
  | .awa n => stepAw Y n
  | .alo n k => stepAl Y n k
  | .sac n b p g => stepSa Y n b p g
  | .mov n b p => stepMo Y n b p
  | .lif n => stepLi Y n
  | .cor n u lo p => stepTi Y n u lo p
  | .cut n => stepCu Y n
/-- a row of a known first text and the right count -/
def spForm : Sp := fun vs H Q _ => ∃ (a : Addr) (d : Deed) (K : PySem.W.Frag), vs = [.ref a] ∧ SqT K H a (.str (dW d) :: dR d) ∧ H a = some (.tup (.str (dW d) :: dR d)) ∧ Q .non H
theorem ok_check_form (T : T4 w K mg) : FnOk P w K mg base (L2N.CX P w) 1 T.d_check_form.a T.d_check_form.d ["deed"] spForm := by
  obtain ⟨es, n, kC⟩ := T.kC
  have c_DEED_THINGS := T.c_DEED_THINGS
  refine DH.okN T.d_check_form.F sc_check_form (fun vs H Q E h => ?_) (fun cdv A outer s H vs Q E hr h => ?_)
  · obtain ⟨_, _, _, rfl, _⟩ := h
    rfl
  · obtain ⟨a, d, _, rfl, _, ha, q⟩ := h
    refine ⟨_, pss_one (ps_if (PW.pt (pw_or (pt_cmpR op_eq (pe_callB call_len_seq (by rfl) T.n_len (by decide +kernel) (pa_cons (pv 0) pa_nil)) pe_int (nomark _)) (pw_or (pt_cmpR (op_notIn_kd kC) (pe_ix ix_tup (pv 0) pe_int (fun _ _ => rfl)) (pe_glob (v := .ref T.aC) rfl c_DEED_THINGS rfl) (by rfl)) (pw_or1 (pt_cmpR op_ne (pe_callB call_len_seq (by rfl) T.n_len (by decide +kernel) (pa_cons (pv 0) pa_nil)) (pe_op op_add pe_int (pe_callB call_len_seq (by rfl) T.n_len (by decide +kernel) (pa_cons (pe_ix ix_kdict (pe_glob (v := .ref T.aC) rfl c_DEED_THINGS rfl) (pe_ix ix_tup (pv 0) pe_int (fun _ _ => rfl)) (fun _ _ => rfl)) pa_nil))) (nomark _)))))) (pss_one (L2N.ps_raise rfl (L2N.takes_of rfl rfl rfl rfl) (DH.pmkN PySem.F.excBase_ValueError T.x_BadDeed.x T.x_BadDeed.g T.x_BadDeed.k (raises_own T.x_BadDeed.b T.x_BadDeed.t) (by rfl) pe_str))) pss_nil), ?_⟩
    have at0 : atI (.str (dW d) :: dR d : List V) (0 : Int) = some (.str (dW d)) := atI_nat (j := 0) rfl
    obtain ⟨m, hm, hl⟩ : ∃ m : Int, (dW d, m) ∈ counts ∧ (((V.str (dW d) :: dR d).length : Nat) : Int) = m := by
      cases d
      · exact ⟨5, by simp [counts, dW], rfl⟩
      · exact ⟨6, by simp [counts, dW], rfl⟩
      · exact ⟨2, by simp [counts, dW], rfl⟩
      · exact ⟨3, by simp [counts, dW], rfl⟩
      · exact ⟨5, by simp [counts, dW], rfl⟩
      · exact ⟨4, by simp [counts, dW], rfl⟩
      · exact ⟨2, by simp [counts, dW], rfl⟩
      · exact ⟨5, by simp [counts, dW], rfl⟩
      · exact ⟨2, by simp [counts, dW], rfl⟩
    obtain ⟨u, t, xs, hu1, hu2, hx, hs⟩ := T.vC _ hm
    refine ⟨_, rfl, a, _, rfl, .inr (SqT.of ha), rfl, _, rfl, ?_⟩
    rw [decide_eq_false (show ¬ (V.int ((V.str (dW d) :: dR d).length : Nat) = V.int 0) from fun z => by have := V.int.inj z; simp at this; omega)]
    refine iteF ?_
    refine ⟨_, rfl, a, _, _, _, rfl, rfl, SqT.of ha, at0, dW d, some u, rfl, rfl, hu1, _, rfl, iteF ?_⟩
    refine ⟨_, rfl, a, _, rfl, .inr (SqT.of ha), _, rfl, a, _, _, _, rfl, rfl, SqT.of ha, at0, T.aC, dW d, .ref t, rfl, rfl, ⟨es, n, u, kC.at_, kC.lit, hu1, hu2⟩, t, xs, rfl, .inr (hs _), _, _, rfl, rfl, rfl, _, rfl, ?_⟩
    rw [hl, show decide (V.int m = (fun i j => V.int (i + j)) (1 : Int) ((xs.length : Nat) : Int)) = true from decide_eq_true (congrArg V.int hx).symm]
    exact iteF q
def spDo (C : Addr) (ec : Er → Addr) : Sp := fun vs H Q E => ∃ (A : YA) (Y : Yd) (a : Addr) (d : Deed), vs = [.ref A.y, .ref a] ∧ IsY C A H Y ∧ H a = some (.tup (.str (dW d) :: dR d)) ∧ dOk d ∧ Sml Y ∧ Act C ec A H Q E (fault Y d) (step Y d)
theorem Act.pre {C : Addr} {ec : Er → Addr} {A : YA} {H H1 : Hp} {Q : VK} {E : XK} {f : Option Er} {Y' : Yd} (s : Same H H1) (h : Act C ec A H Q E f Y') : Act C ec A H1 Q E f Y' :=
  ⟨fun e he H' s' => h.1 e he H' (s.trans s'), fun hf H' ts fr hy => h.2 hf H' ((TS.of s).trans ts) (fun p o e n1 n2 n3 n4 => fr p o (s _ _ e) n1 n2 n3 n4) hy⟩
theorem ok_do (T : T4 w K mg) : FnOk P w K mg base (L2N.CX P w) 5 T.d_Yard_do.a T.d_Yard_do.d ["self", "deed"] (spDo T.CY (ec T.toT1)) := by
  have G_check_form : FnOk P w K mg base (L2N.CX P w) 1 T.d_check_form.a T.d_check_form.d ["deed"] spForm := ok_check_form T
  obtain ⟨es, nn, kA⟩ := T.kA
  have c_ACTIONS := T.c_ACTIONS
  refine DH.okN T.d_Yard_do.F sc_Yard_do (fun vs H Q E h => ?_) (fun cdv A outer s H vs Q E hr h => ?_)
  · obtain ⟨_, _, _, _, rfl, _⟩ := h
    rfl
  · obtain ⟨B, Y, a, d, rfl, hy, ha, hz, hq, act⟩ := h
    refine ⟨_, pss_cons (ps_expr (pe_call G_check_form (hr.mono (by decide)) (by rfl) T.d_check_form.g T.d_check_form.F.kp T.d_check_form.b .nil (L2N.passes_call (L2N.takes_of rfl rfl rfl rfl) (fun _ _ _ _ h => h)) (pa_cons (pv 1) pa_nil)))
      (pss_cons (ps_set (i := 2) sc_Yard_do.nd rfl (Or.inl rfl) (pe_ix ix_kdict (pe_glob (v := .ref T.aA) rfl c_ACTIONS rfl) (pe_ix ix_tup (pv 1) pe_int (fun _ _ => rfl)) (fun _ _ => rfl)))
      (pss_cons (ps_set (i := 3) sc_Yard_do.nd rfl (Or.inl rfl) (pe_slice sl_tup (pv 1) (po_some pe_int) po_none))
      (pss_one (ps_expr (DH.pe_callM (k := 4) (hr.mono (by decide)) (i := 2) rfl (Or.inl rfl) (L2N.passes_call (L2N.takes_of rfl rfl rfl rfl) (fun _ _ _ _ h => h)) (pa_cons (pv 0) (StX.pa_star (pv 3) pa_nil))))))), ?_⟩
    have at0 : atI (.str (dW d) :: dR d : List V) (0 : Int) = some (.str (dW d)) := atI_nat (j := 0) rfl
    refine ⟨_, rfl, a, d, K, rfl, SqT.of ha, ha, ?_⟩
    have cut : cutV (.str (dW d) :: dR d) (some 1) none = dR d := by cases d <;> rfl
    have ncut : ¬ (HT.sIx (V.str (dW d) :: dR d).length 0 (some 1) = 0 ∧ HT.sIx (V.str (dW d) :: dR d).length (V.str (dW d) :: dR d).length none = (V.str (dW d) :: dR d).length) := by
      cases d <;> (intro z; cases z.1)
    cases d with
    | tre n c l r =>
      obtain ⟨uu, hu1, hu2⟩ := T.aT
      refine ⟨_, rfl, a, _, _, _, rfl, rfl, SqT.of ha, at0, T.aA, _, .ref T.d_set_trestle.a, rfl, rfl, ⟨es, nn, uu, kA.at_, kA.lit, hu1, hu2⟩, ?_⟩
      refine ⟨_, rfl, 1, rfl, a, _, rfl, SqT.of ha, ncut, fun tp ntp => ?_⟩
      rw [cut]
      have s1 : Same H (upd H tp (.tup (dR (.tre n c l r)))) := same_upd ntp
      refine ⟨_, _, _, _, ok_set_trestle T.toT2, T.d_set_trestle.F.kp, T.d_set_trestle.b, rfl, ?_⟩
      refine ⟨_, rfl, _, rfl, tp, dR (.tre n c l r), rfl, .inl (SqT.of upd_same), ?_⟩
      exact ⟨B, Y, n, c, l, r, rfl, hy.keep s1, hz.1, hq.nm, act.pre s1⟩
    | boa n c l r g =>
      obtain ⟨uu, hu1, hu2⟩ := T.aB
      refine ⟨_, rfl, a, _, _, _, rfl, rfl, SqT.of ha, at0, T.aA, _, .ref T.d_lay_board.a, rfl, rfl, ⟨es, nn, uu, kA.at_, kA.lit, hu1, hu2⟩, ?_⟩
      refine ⟨_, rfl, 1, rfl, a, _, rfl, SqT.of ha, ncut, fun tp ntp => ?_⟩
      rw [cut]
      have s1 : Same H (upd H tp (.tup (dR (.boa n c l r g)))) := same_upd ntp
      refine ⟨_, _, _, _, ok_lay_board T.toT2, T.d_lay_board.F.kp, T.d_lay_board.b, rfl, ?_⟩
      refine ⟨_, rfl, _, rfl, tp, dR (.boa n c l r g), rfl, .inl (SqT.of upd_same), ?_⟩
      exact ⟨B, Y, n, c, l, r, g, rfl, hy.keep s1, hz.1, hq.nm, act.pre s1⟩
    | awa n =>
      obtain ⟨uu, hu1, hu2⟩ := T.aAw
      refine ⟨_, rfl, a, _, _, _, rfl, rfl, SqT.of ha, at0, T.aA, _, .ref T.d_take_away.a, rfl, rfl, ⟨es, nn, uu, kA.at_, kA.lit, hu1, hu2⟩, ?_⟩
      refine ⟨_, rfl, 1, rfl, a, _, rfl, SqT.of ha, ncut, fun tp ntp => ?_⟩
      rw [cut]
      have s1 : Same H (upd H tp (.tup (dR (.awa n)))) := same_upd ntp
      refine ⟨_, _, _, _, ok_take_away T.toT6, T.d_take_away.F.kp, T.d_take_away.b, rfl, ?_⟩
      refine ⟨_, rfl, _, rfl, tp, dR (.awa n), rfl, .inl (SqT.of upd_same), ?_⟩
      exact ⟨B, Y, n, rfl, hy.keep s1, hz, hq, act.pre s1⟩
    | alo n k =>
      obtain ⟨uu, hu1, hu2⟩ := T.aAl
      refine ⟨_, rfl, a, _, _, _, rfl, rfl, SqT.of ha, at0, T.aA, _, .ref T.d_shift_along.a, rfl, rfl, ⟨es, nn, uu, kA.at_, kA.lit, hu1, hu2⟩, ?_⟩
      refine ⟨_, rfl, 1, rfl, a, _, rfl, SqT.of ha, ncut, fun tp ntp => ?_⟩
      rw [cut]
      have s1 : Same H (upd H tp (.tup (dR (.alo n k)))) := same_upd ntp
      refine ⟨_, _, _, _, ok_shift_along T.toT6, T.d_shift_along.F.kp, T.d_shift_along.b, rfl, ?_⟩
      refine ⟨_, rfl, _, rfl, tp, dR (.alo n k), rfl, .inl (SqT.of upd_same), ?_⟩
      exact ⟨B, Y, n, k, rfl, hy.keep s1, hz, hq, act.pre s1⟩
    | sac n b p g =>
      obtain ⟨uu, hu1, hu2⟩ := T.aSa
      refine ⟨_, rfl, a, _, _, _, rfl, rfl, SqT.of ha, at0, T.aA, _, .ref T.d_set_sack.a, rfl, rfl, ⟨es, nn, uu, kA.at_, kA.lit, hu1, hu2⟩, ?_⟩
      refine ⟨_, rfl, 1, rfl, a, _, rfl, SqT.of ha, ncut, fun tp ntp => ?_⟩
      rw [cut]
      have s1 : Same H (upd H tp (.tup (dR (.sac n b p g)))) := same_upd ntp
      refine ⟨_, _, _, _, ok_set_sack T.toT6, T.d_set_sack.F.kp, T.d_set_sack.b, rfl, ?_⟩
      refine ⟨_, rfl, _, rfl, tp, dR (.sac n b p g), rfl, .inl (SqT.of upd_same), ?_⟩
      exact ⟨B, Y, n, b, p, g, rfl, hy.keep s1, hz.1, hz.2, hq, act.pre s1⟩
    | mov n b p =>
      obtain ⟨uu, hu1, hu2⟩ := T.aMo
      refine ⟨_, rfl, a, _, _, _, rfl, rfl, SqT.of ha, at0, T.aA, _, .ref T.d_move_sack.a, rfl, rfl, ⟨es, nn, uu, kA.at_, kA.lit, hu1, hu2⟩, ?_⟩
      refine ⟨_, rfl, 1, rfl, a, _, rfl, SqT.of ha, ncut, fun tp ntp => ?_⟩
      rw [cut]
      have s1 : Same H (upd H tp (.tup (dR (.mov n b p)))) := same_upd ntp
      refine ⟨_, _, _, _, ok_move_sack T.toT6, T.d_move_sack.F.kp, T.d_move_sack.b, rfl, ?_⟩
      refine ⟨_, rfl, _, rfl, tp, dR (.mov n b p), rfl, .inl (SqT.of upd_same), ?_⟩
      exact ⟨B, Y, n, b, p, rfl, hy.keep s1, hz.1, hz.2, act.pre s1⟩
    | lif n =>
      obtain ⟨uu, hu1, hu2⟩ := T.aLi
      refine ⟨_, rfl, a, _, _, _, rfl, rfl, SqT.of ha, at0, T.aA, _, .ref T.d_lift_sack.a, rfl, rfl, ⟨es, nn, uu, kA.at_, kA.lit, hu1, hu2⟩, ?_⟩
      refine ⟨_, rfl, 1, rfl, a, _, rfl, SqT.of ha, ncut, fun tp ntp => ?_⟩
      rw [cut]
      have s1 : Same H (upd H tp (.tup (dR (.lif n)))) := same_upd ntp
      refine ⟨_, _, _, _, ok_lift_sack T.toT6, T.d_lift_sack.F.kp, T.d_lift_sack.b, rfl, ?_⟩
      refine ⟨_, rfl, _, rfl, tp, dR (.lif n), rfl, .inl (SqT.of upd_same), ?_⟩
      exact ⟨B, Y, n, rfl, hy.keep s1, hz, act.pre s1⟩
    | cor n u lo p =>
      obtain ⟨uu, hu1, hu2⟩ := T.aCo
      refine ⟨_, rfl, a, _, _, _, rfl, rfl, SqT.of ha, at0, T.aA, _, .ref T.d_tie_cord.a, rfl, rfl, ⟨es, nn, uu, kA.at_, kA.lit, hu1, hu2⟩, ?_⟩
      refine ⟨_, rfl, 1, rfl, a, _, rfl, SqT.of ha, ncut, fun tp ntp => ?_⟩
      rw [cut]
      have s1 : Same H (upd H tp (.tup (dR (.cor n u lo p)))) := same_upd ntp
      refine ⟨_, _, _, _, ok_tie_cord T.toT6, T.d_tie_cord.F.kp, T.d_tie_cord.b, rfl, ?_⟩
      refine ⟨_, rfl, _, rfl, tp, dR (.cor n u lo p), rfl, .inl (SqT.of upd_same), ?_⟩
      exact ⟨B, Y, n, u, lo, p, rfl, hy.keep s1, hz.1, hz.2.1, hz.2.2, act.pre s1⟩
    | cut n =>
      obtain ⟨uu, hu1, hu2⟩ := T.aCu
      refine ⟨_, rfl, a, _, _, _, rfl, rfl, SqT.of ha, at0, T.aA, _, .ref T.d_cut_cord.a, rfl, rfl, ⟨es, nn, uu, kA.at_, kA.lit, hu1, hu2⟩, ?_⟩
      refine ⟨_, rfl, 1, rfl, a, _, rfl, SqT.of ha, ncut, fun tp ntp => ?_⟩
      rw [cut]
      have s1 : Same H (upd H tp (.tup (dR (.cut n)))) := same_upd ntp
      refine ⟨_, _, _, _, ok_cut_cord T.toT6, T.d_cut_cord.F.kp, T.d_cut_cord.b, rfl, ?_⟩
      refine ⟨_, rfl, _, rfl, tp, dR (.cut n), rfl, .inl (SqT.of upd_same), ?_⟩
      exact ⟨B, Y, n, rfl, hy.keep s1, hz, act.pre s1⟩
end
end DY
namespace DY
open PySem PySem.Spec PyProof.Rows L2
abbrev s__law_is_name : Stmt := topS 66
abbrev N__law_is_name : List Str := ["_law_text", "_law_sign"]
theorem sc__law_is_name : FnScope N__law_is_name ["_law_text"] (defScope s__law_is_name) := ⟨rfl, rfl, rfl, by decide +kernel, rfl, by decide +kernel, by decide +kernel⟩
abbrev s__law_model : Stmt := topS 67
abbrev N__law_model : List Str := []
theorem sc__law_model : FnScope N__law_model [] (defScope s__law_model) := ⟨rfl, rfl, rfl, by decide +kernel, rfl, by decide +kernel, by decide +kernel⟩
abbrev s__law_thing : Stmt := topS 68
abbrev N__law_thing : List Str := ["_law_m", "_law_name"]
theorem sc__law_thing : FnScope N__law_thing ["_law_m", "_law_name"] (defScope s__law_thing) := ⟨rfl, rfl, rfl, by decide +kernel, rfl, by decide +kernel, by decide +kernel⟩
abbrev s__law_crowds : Stmt := topS 69
abbrev N__law_crowds : List Str := ["_law_m", "_law_name", "_law_course", "_law_left", "_law_right", "_law_other", "_law_thing_here"]
theorem sc__law_crowds : FnScope N__law_crowds ["_law_m", "_law_name", "_law_course", "_law_left", "_law_right"] (defScope s__law_crowds) := ⟨rfl, rfl, rfl, by decide +kernel, rfl, by decide +kernel, by decide +kernel⟩
abbrev s__law_first : Stmt := topS 70
abbrev N__law_first : List Str := ["_law_pairs", "_law_wrong", "_law_word"]
theorem sc__law_first : FnScope N__law_first ["_law_pairs"] (defScope s__law_first) := ⟨rfl, rfl, rfl, by decide +kernel, rfl, by decide +kernel, by decide +kernel⟩
abbrev s__law_new_fault : Stmt := topS 71
abbrev N__law_new_fault : List Str := ["_law_m", "_law_deed", "_law_most", "_law_name", "_law_words", "_law_there", "_law_word"]
theorem sc__law_new_fault : FnScope N__law_new_fault ["_law_m", "_law_deed", "_law_most"] (defScope s__law_new_fault) := ⟨rfl, rfl, rfl, by decide +kernel, rfl, by decide +kernel, by decide +kernel⟩
abbrev s__law_lay_fault : Stmt := topS 72
abbrev N__law_lay_fault : List Str := ["_law_m", "_law_deed", "_law_name", "_law_course", "_law_left", "_law_right", "_law_least", "_law_head", "_law_full", "_law_bad", "_law_row"]
theorem sc__law_lay_fault : FnScope N__law_lay_fault ["_law_m", "_law_deed"] (defScope s__law_lay_fault) := ⟨rfl, rfl, rfl, by decide +kernel, rfl, by decide +kernel, by decide +kernel⟩
structure L0 (K : PySem.W.Frag) (mg : Str → Option Value) where
  n_len : mg "len" = none
  n_all : mg "all" = none
  n_any : mg "any" = none
  n_list : mg "list" = none
  n_max : mg "max" = none
  n_min : mg "min" = none
  n_int : mg "int" = none
  d__law_is_name : DefF K mg "_law_is_name" s__law_is_name ["_law_text"]
  d__law_model : DefF K mg "_law_model" s__law_model []
  d__law_thing : DefF K mg "_law_thing" s__law_thing ["_law_m", "_law_name"]
  d__law_crowds : DefF K mg "_law_crowds" s__law_crowds ["_law_m", "_law_name", "_law_course", "_law_left", "_law_right"]
  d__law_first : DefF K mg "_law_first" s__law_first ["_law_pairs"]
  d__law_new_fault : DefF K mg "_law_new_fault" s__law_new_fault ["_law_m", "_law_deed", "_law_most"]
  d__law_lay_fault : DefF K mg "_law_lay_fault" s__law_lay_fault ["_law_m", "_law_deed"]
/-! ### the law's own model -/
structure MA where
  m : Addr
  t : Addr
  b : Addr
  s : Addr
  c : Addr
def kvM (A : MA) : List (Key × V) := [(Sum.inr "trestles", .ref A.t), (Sum.inr "boards", .ref A.b), (Sum.inr "sacks", .ref A.s), (Sum.inr "cords", .ref A.c)]
abbrev trL (_ : Str) (x : TrR) : List V := trV x
abbrev boL (_ : Str) (x : BoR) : List V := boV x
abbrev saL (_ : Str) (x : SaR) : List V := saV x
abbrev coL (_ : Str) (x : CoR) : List V := coV x
structure IsM (A : MA) (H : Hp) (Y : Yd) : Prop where
  ob : H A.m = some (.dK (kvM A))
  tr : ∃ kvs, H A.t = some (.dK kvs) ∧ Rows H trL kvs Y.tr
  bo : ∃ kvs, H A.b = some (.dK kvs) ∧ Rows H boL kvs Y.bo
  sa : ∃ kvs, H A.s = some (.dK kvs) ∧ Rows H saL kvs Y.sa
  co : ∃ kvs, H A.c = some (.dK kvs) ∧ Rows H coL kvs Y.co
  le : Y.tr.length ≤ 6 ∧ Y.bo.length ≤ 6 ∧ Y.sa.length ≤ 8 ∧ Y.co.length ≤ 4
theorem IsM.keep {A : MA} {H H' : Hp} {Y : Yd} (h : IsM A H Y) (s : Same H H') : IsM A H' Y := by
  obtain ⟨e, ⟨k1, e1, r1⟩, ⟨k2, e2, r2⟩, ⟨k3, e3, r3⟩, ⟨k4, e4, r4⟩, le⟩ := h
  exact ⟨s _ _ e, ⟨k1, s _ _ e1, r1.keep (.of s)⟩, ⟨k2, s _ _ e2, r2.keep (.of s)⟩, ⟨k3, s _ _ e3, r3.keep (.of s)⟩, ⟨k4, s _ _ e4, r4.keep (.of s)⟩, le⟩
theorem vt (A : MA) : valV (kvM A) (Sum.inr "trestles") = some (.ref A.t) := by
  unfold kvM
  exact valV_pos rfl
theorem ntb : ¬ ((Sum.inr "trestles" : Key) = (Sum.inr "boards" : Key)) := by decide +kernel
theorem nts : ¬ ((Sum.inr "trestles" : Key) = (Sum.inr "sacks" : Key)) := by decide +kernel
theorem ntc : ¬ ((Sum.inr "trestles" : Key) = (Sum.inr "cords" : Key)) := by decide +kernel
theorem nbs : ¬ ((Sum.inr "boards" : Key) = (Sum.inr "sacks" : Key)) := by decide +kernel
theorem nbc : ¬ ((Sum.inr "boards" : Key) = (Sum.inr "cords" : Key)) := by decide +kernel
theorem nsc : ¬ ((Sum.inr "sacks" : Key) = (Sum.inr "cords" : Key)) := by decide +kernel
theorem vb (A : MA) : valV (kvM A) (Sum.inr "boards") = some (.ref A.b) := by
  unfold kvM
  rw [valV_neg ntb]
  exact valV_pos rfl
theorem vs (A : MA) : valV (kvM A) (Sum.inr "sacks") = some (.ref A.s) := by
  unfold kvM
  rw [valV_neg nts, valV_neg nbs]
  exact valV_pos rfl
theorem vc (A : MA) : valV (kvM A) (Sum.inr "cords") = some (.ref A.c) := by
  unfold kvM
  rw [valV_neg ntc, valV_neg nbc, valV_neg nsc]
  exact valV_pos rfl
theorem dget {H : Hp} {a : Addr} {kvs : List (Key × V)} {k : Key} {v : V} (e : H a = some (.dK kvs)) (h : valV kvs k = some v) : DGet H a (kV k) (some v) := by
  have z := DGet.k (k := k) e
  rw [h] at z
  exact z
section
variable {P : Program} {w : World} {K : PySem.W.Frag} {mg : Str → Option Value} {base : Heap}
theorem ok_lis_name (T : L0 K mg) : FnOk P w K mg base CX0 1 T.d__law_is_name.a T.d__law_is_name.d ["_law_text"] spName := by
  refine T.d__law_is_name.F.ok sc__law_is_name (fun vs H Q E h => ?_) (fun cdv A outer s H vs Q E hr h => ?_)
  · obtain ⟨i, rfl, _⟩ := h
    rfl
  · obtain ⟨z, rfl, hz, q⟩ := h
    refine ⟨_, pss_one (ps_ret (pe_and (pe_chain op_le op_le pe_int (pe_callB call_len_str (by rfl) T.n_len (by decide +kernel) (pa_cons (pv 0) pa_nil)) pe_int) (pe_one (pe_callB (cr_all rfl) (by rfl) T.n_all (by decide +kernel) (pa_cons (pe_lc (own := [("_law_sign", 1)]) (g := (gName 1)) (tt := tYes) (by rfl) sc__law_is_name.nd (pi_str (pv 0)) (blkOk_by (N := N__law_is_name) (sc := defScope s__law_is_name) (by decide +kernel)) (fun _ _ _ _ _ => (pg_name (i := 1) sc__law_is_name.nd rfl (Or.inl rfl))) (fun _ _ _ _ _ => pts_nil) (fun _ _ _ _ _ => (pe_cmpR op_in_sign (pv 1) pe_str rfl))) pa_nil))))), ?_⟩
    refine ⟨_, rfl, z, rfl, Nat.le_of_lt (small1000 hz), _, _, rfl, rfl, _, rfl, ite2 (fun e => ?_) (fun e => ?_)⟩
    · refine ⟨_, _, rfl, rfl, _, rfl, ite2 (fun e2 => ?_) (fun e2 => ?_)⟩
      · refine ⟨_, rfl, z, rfl, fun D nD => ?_⟩
        refine lc_it walk_str (fun i H' => Same H H' ∧ H' D = some (.lst ((z.cps.toList.take i).map fun c => .bl (decide (c ∈ letters.cps.toList))))) ⟨same_upd nD, upd_same⟩ (fun _ _ _ _ => trivial) (fun i x H2 H3 hi p hy => ?_) (fun H2 p => ?_)
        · obtain ⟨p1, p2⟩ := p
          obtain ⟨rfl, c, hc, rfl⟩ := hy
          refine ⟨rfl, yes (iteT ?_)⟩
          refine ⟨_, rfl, c, letters, rfl, rfl, _, p2, ?_, ?_, ?_⟩
          · rw [List.length_map, List.length_take]
            exact small1000 (by rw [len_cps] at hz; omega)
          · intro b o e
            rw [upd_ne (ne_of_none e nD)]
            exact p1 _ _ e
          · rw [upd_same, List.take_add_one, Array.getElem?_toList, hc]
            simp
        · refine ⟨D, (z.cps.toList.take z.cps.size).map fun c => decide (c ∈ letters.cps.toList), rfl, ?_, ?_⟩
          · refine SqL.of ?_
            rw [p.2, List.map_map]
            rfl
          · have e1 : isName z = ((z.cps.toList.take z.cps.size).map fun c => decide (c ∈ letters.cps.toList)).all id := by
              have a1 : decide (1 ≤ z.length) = true := by
                have : decide ((1 : Int) ≤ (z.length : Int)) = true := e
                simp only [decide_eq_true_eq] at this ⊢
                omega
              have a2 : decide (z.length ≤ 8) = true := by
                have : decide ((z.length : Int) ≤ 8) = true := e2
                simp only [decide_eq_true_eq] at this ⊢
                omega
              unfold isName
              rw [a1, a2, Bool.true_and, Bool.true_and, List.take_of_length_le (by simp), List.all_map]
              rfl
            rw [← e1]
            exact q _ p.1
      · have e1 : isName z = false := by
          have a2 : decide (z.length ≤ 8) = false := by
            have : decide ((z.length : Int) ≤ 8) = false := Bool.eq_false_iff.mpr e2
            simp only [decide_eq_false_iff_not] at this ⊢
            omega
          unfold isName
          rw [a2, Bool.false_and, Bool.and_false]
        have q0 := q H (Same.refl H)
        rw [e1] at q0
        exact q0
    · have e1 : isName z = false := by
        have a2 : decide (1 ≤ z.length) = false := by
          have : decide ((1 : Int) ≤ (z.length : Int)) = false := Bool.eq_false_iff.mpr e
          simp only [decide_eq_false_iff_not] at this ⊢
          omega
        unfold isName
        rw [a2, Bool.false_and]
      have q0 := q H (Same.refl H)
      rw [e1] at q0
      exact ⟨_, rfl, iteF q0⟩
/-! ### the empty model -/
/-- all of a model is new -/
def Nw (H : Hp) (A : MA) : Prop := H A.m = none ∧ H A.t = none ∧ H A.b = none ∧ H A.s = none ∧ H A.c = none
def spModel : Sp := fun vs H Q _ => vs = [] ∧ ∀ (A : MA) H', Same H H' → Nw H A → IsM A H' y0 → Q (.ref A.m) H'
theorem ok_model (T : L0 K mg) : FnOk P w K mg base CX0 1 T.d__law_model.a T.d__law_model.d [] spModel := by
  refine T.d__law_model.F.ok sc__law_model (fun vs H Q E h => ?_) (fun cdv A outer s H vs Q E hr h => ?_)
  · rw [h.1]
    rfl
  · obtain ⟨rfl, q⟩ := h
    refine ⟨_, pss_one (ps_ret (pe_disp (pps_cons pe_str pe_dnewK (pps_cons pe_str pe_dnewK (pps_cons pe_str pe_dnewK (pps_cons pe_str pe_dnewK pps_nil)))) (by rfl) (by rfl) (fun z => by cases z) (by decide))), ?_⟩
    intro m nm t nt b nb sa ns c nc
    have mt : m ≠ t := fun z => by rw [← z, upd_same] at nt; cases nt
    have mb : m ≠ b := fun z => by rw [← z, upd_ne mt, upd_same] at nb; cases nb
    have tb : t ≠ b := fun z => by rw [← z, upd_same] at nb; cases nb
    have ms : m ≠ sa := fun z => by rw [← z, upd_ne mb, upd_ne mt, upd_same] at ns; cases ns
    have ts : t ≠ sa := fun z => by rw [← z, upd_ne tb, upd_same] at ns; cases ns
    have bs : b ≠ sa := fun z => by rw [← z, upd_same] at ns; cases ns
    have mc : m ≠ c := fun z => by rw [← z, upd_ne ms, upd_ne mb, upd_ne mt, upd_same] at nc; cases nc
    have tc : t ≠ c := fun z => by rw [← z, upd_ne ts, upd_ne tb, upd_same] at nc; cases nc
    have bc : b ≠ c := fun z => by rw [← z, upd_ne bs, upd_same] at nc; cases nc
    have sc' : sa ≠ c := fun z => by rw [← z, upd_same] at nc; cases nc
    refine ⟨?_, kvM ⟨m, t, b, sa, c⟩, rfl, by show 4 ≤ 15; decide, ?_⟩
    · rw [upd_ne mc, upd_ne ms, upd_ne mb, upd_ne mt, upd_same]
    · have em : mergeK [] (kvM ⟨m, t, b, sa, c⟩) = kvM ⟨m, t, b, sa, c⟩ := by
        have p1 : putK [] (Sum.inr "trestles" : Key) (V.ref t) = ([(Sum.inr "trestles", V.ref t)] : List (Key × V)) := by rw [putK_new _ valV_nil, List.nil_append]
        have p2 : putK [((Sum.inr "trestles" : Key), V.ref t)] (Sum.inr "boards" : Key) (V.ref b) = ([(Sum.inr "trestles", V.ref t), (Sum.inr "boards", V.ref b)] : List (Key × V)) := putK_new _ (by rw [valV_neg (p := ((Sum.inr "trestles" : Key), V.ref t)) ntb]; exact valV_nil)
        have p3 : putK [((Sum.inr "trestles" : Key), V.ref t), (Sum.inr "boards", V.ref b)] (Sum.inr "sacks" : Key) (V.ref sa) = ([(Sum.inr "trestles", V.ref t), (Sum.inr "boards", V.ref b), (Sum.inr "sacks", V.ref sa)] : List (Key × V)) := putK_new _ (by rw [valV_neg (p := ((Sum.inr "trestles" : Key), V.ref t)) nts, valV_neg (p := ((Sum.inr "boards" : Key), V.ref b)) nbs]; exact valV_nil)
        have p4 : putK [((Sum.inr "trestles" : Key), V.ref t), (Sum.inr "boards", V.ref b), (Sum.inr "sacks", V.ref sa)] (Sum.inr "cords" : Key) (V.ref c) = ([(Sum.inr "trestles", V.ref t), (Sum.inr "boards", V.ref b), (Sum.inr "sacks", V.ref sa), (Sum.inr "cords", V.ref c)] : List (Key × V)) := putK_new _ (by rw [valV_neg (p := ((Sum.inr "trestles" : Key), V.ref t)) ntc, valV_neg (p := ((Sum.inr "boards" : Key), V.ref b)) nbc, valV_neg (p := ((Sum.inr "sacks" : Key), V.ref sa)) nsc]; exact valV_nil)
        show putK (putK (putK (putK [] (Sum.inr "trestles" : Key) (V.ref t)) (Sum.inr "boards" : Key) (V.ref b)) (Sum.inr "sacks" : Key) (V.ref sa)) (Sum.inr "cords" : Key) (V.ref c) = _
        rw [p1, p2, p3, p4]
        rfl
      rw [em]
      have old : ∀ q, H q = none → ∀ p o, H p = some o → p ≠ q := fun q hq p o e => ne_of_none e hq
      have ht : H t = none := by rw [upd_ne mt.symm] at nt; exact nt
      have hb : H b = none := by rw [upd_ne tb.symm, upd_ne mb.symm] at nb; exact nb
      have hs : H sa = none := by rw [upd_ne bs.symm, upd_ne ts.symm, upd_ne ms.symm] at ns; exact ns
      have hc : H c = none := by rw [upd_ne sc'.symm, upd_ne bc.symm, upd_ne tc.symm, upd_ne mc.symm] at nc; exact nc
      refine q ⟨m, t, b, sa, c⟩ _ (fun p o e => ?_) ⟨nm, ht, hb, hs, hc⟩ ⟨upd_same, ⟨[], ?_, .nil⟩, ⟨[], ?_, .nil⟩, ⟨[], ?_, .nil⟩, ⟨[], ?_, .nil⟩, by decide⟩
      · rw [upd_ne (old m nm p o e), upd_ne (old c hc p o e), upd_ne (old sa hs p o e), upd_ne (old b hb p o e), upd_ne (old t ht p o e), upd_ne (old m nm p o e)]
        exact e
      · rw [upd_ne mt.symm, upd_ne tc, upd_ne ts, upd_ne tb, upd_same]
      · rw [upd_ne mb.symm, upd_ne bc, upd_ne bs, upd_same]
      · rw [upd_ne ms.symm, upd_ne sc', upd_same]
      · rw [upd_ne mc.symm, upd_same]
/-! ### a thing of it: course, left, right -/
def spThing : Sp := fun vs H Q _ => ∃ (A : MA) (Y : Yd) (n : Str), vs = [.ref A.m, .str n] ∧ IsM A H Y ∧ ∃ c l r, ((getT Y.tr n = some (c, l, r)) ∨ (getT Y.tr n = none ∧ ∃ g, getT Y.bo n = some (c, l, r, g))) ∧ ∀ H' p, Same H H' → H' p = some (.tup [.int c, .int l, .int r]) → Q (.ref p) H'
theorem ok_thing (T : L0 K mg) : FnOk P w K mg base CX0 1 T.d__law_thing.a T.d__law_thing.d ["_law_m", "_law_name"] spThing := by
  refine T.d__law_thing.F.ok sc__law_thing (fun vs H Q E h => ?_) (fun cdv A outer s H vs Q E hr h => ?_)
  · obtain ⟨_, _, _, rfl, _⟩ := h
    rfl
  · obtain ⟨A', Y, n, rfl, hm, c, l, r, hc, q⟩ := h
    have hu := hu_of hr
    obtain ⟨k1, e1, r1⟩ := hm.tr
    obtain ⟨k2, e2, r2⟩ := hm.bo
    refine ⟨_, pss_cons (ps_if (pt_cmp (pc_din hu (pv 1) (pe_dget hu (pv 0) pe_str (fun _ _ => rfl)))) (pss_one (ps_ret (pe_dget hu (pe_dget hu (pv 0) pe_str (fun _ _ => rfl)) (pv 1) (fun _ _ => rfl)))) pss_nil)
      (pss_cons (ps_if (pt_cmp (pc_din hu (pv 1) (pe_dget hu (pv 0) pe_str (fun _ _ => rfl)))) (pss_one (ps_ret (pe_slice sl_tup (pe_dget hu (pe_dget hu (pv 0) pe_str (fun _ _ => rfl)) (pv 1) (fun _ _ => rfl)) po_none (po_some pe_int)))) pss_nil)
      (pss_one (ps_ret pe_non))), ?_⟩
    rcases hc with hc | ⟨hc, g, hg⟩
    · rcases r1.get n with ⟨_, z⟩ | ⟨p, x, hv, hx, ep⟩
      · rw [z] at hc
        cases hc
      · rw [hx] at hc
        cases hc
        refine ⟨_, rfl, _, rfl, A'.m, _, rfl, dget hm.ob (vt A'), A'.t, _, rfl, dget e1 hv, _, rfl, iteT ?_⟩
        exact ⟨_, rfl, A'.m, _, rfl, dget hm.ob (vt A'), _, rfl, A'.t, _, rfl, dget e1 hv, q H p (Same.refl _) ep⟩
    · rcases r1.get n with ⟨hv0, _⟩ | ⟨p, x, hv, hx, ep⟩
      · rcases r2.get n with ⟨_, z⟩ | ⟨p, x, hv, hx, ep⟩
        · rw [z] at hg
          cases hg
        · rw [hx] at hg
          cases hg
          have z := DGet.k (k := Sum.inr n) e1
          rw [hv0] at z
          refine ⟨_, rfl, _, rfl, A'.m, _, rfl, dget hm.ob (vt A'), A'.t, _, rfl, z, _, rfl, iteF ?_⟩
          refine ⟨_, rfl, _, rfl, A'.m, _, rfl, dget hm.ob (vb A'), A'.b, _, rfl, dget e2 hv, _, rfl, iteT ?_⟩
          refine ⟨_, rfl, A'.m, _, rfl, dget hm.ob (vb A'), _, rfl, A'.b, _, rfl, dget e2 hv, 3, rfl, p, _, rfl, SqT.of ep, ?_, fun tp ntp => ?_⟩
          · intro z
            cases z.2
          · exact q _ tp (same_upd ntp) upd_same
      · rw [hx] at hc
        cases hc
def spThing2 : Sp := fun vs H Q _ => ∃ (A : MA) (Y : Yd) (n : Str), vs = [.ref A.m, .str n] ∧ IsM A H Y ∧ (∀ x H' p, thingY Y n = some x → Same H H' → H' p = some (.tup [.int x.1, .int x.2.1, .int x.2.2]) → Q (.ref p) H') ∧ (thingY Y n = none → Q .non H)
theorem ok_thing2 (T : L0 K mg) : FnOk P w K mg base CX0 1 T.d__law_thing.a T.d__law_thing.d ["_law_m", "_law_name"] spThing2 := by
  refine T.d__law_thing.F.ok sc__law_thing (fun vs H Q E h => ?_) (fun cdv A outer s H vs Q E hr h => ?_)
  · obtain ⟨_, _, _, rfl, _⟩ := h
    rfl
  · obtain ⟨A', Y, n, rfl, hm, q1, q2⟩ := h
    have hu := hu_of hr
    obtain ⟨k1, e1, r1⟩ := hm.tr
    obtain ⟨k2, e2, r2⟩ := hm.bo
    refine ⟨_, pss_cons (ps_if (pt_cmp (pc_din hu (pv 1) (pe_dget hu (pv 0) pe_str (fun _ _ => rfl)))) (pss_one (ps_ret (pe_dget hu (pe_dget hu (pv 0) pe_str (fun _ _ => rfl)) (pv 1) (fun _ _ => rfl)))) pss_nil)
      (pss_cons (ps_if (pt_cmp (pc_din hu (pv 1) (pe_dget hu (pv 0) pe_str (fun _ _ => rfl)))) (pss_one (ps_ret (pe_slice sl_tup (pe_dget hu (pe_dget hu (pv 0) pe_str (fun _ _ => rfl)) (pv 1) (fun _ _ => rfl)) po_none (po_some pe_int)))) pss_nil)
      (pss_one (ps_ret pe_non))), ?_⟩
    rcases r1.get n with ⟨hv0, hx0⟩ | ⟨p, x, hv, hx, ep⟩
    · have z := DGet.k (k := Sum.inr n) e1
      rw [hv0] at z
      refine ⟨_, rfl, _, rfl, A'.m, _, rfl, dget hm.ob (vt A'), A'.t, _, rfl, z, _, rfl, iteF ?_⟩
      rcases r2.get n with ⟨hv1, hx1⟩ | ⟨p, x, hv, hx, ep⟩
      · have z1 := DGet.k (k := Sum.inr n) e2
        rw [hv1] at z1
        refine ⟨_, rfl, _, rfl, A'.m, _, rfl, dget hm.ob (vb A'), A'.b, _, rfl, z1, _, rfl, iteF ?_⟩
        exact q2 (by unfold thingY; rw [hx0, hx1]; rfl)
      · refine ⟨_, rfl, _, rfl, A'.m, _, rfl, dget hm.ob (vb A'), A'.b, _, rfl, dget e2 hv, _, rfl, iteT ?_⟩
        refine ⟨_, rfl, A'.m, _, rfl, dget hm.ob (vb A'), _, rfl, A'.b, _, rfl, dget e2 hv, 3, rfl, p, _, rfl, SqT.of ep, ?_, fun tp ntp => ?_⟩
        · intro z
          cases z.2
        · exact q1 (x.1, x.2.1, x.2.2.1) _ tp (by unfold thingY; rw [hx0, hx]; rfl) (same_upd ntp) upd_same
    · refine ⟨_, rfl, _, rfl, A'.m, _, rfl, dget hm.ob (vt A'), A'.t, _, rfl, dget e1 hv, _, rfl, iteT ?_⟩
      exact ⟨_, rfl, A'.m, _, rfl, dget hm.ob (vt A'), _, rfl, A'.t, _, rfl, dget e1 hv, q1 x H p (by unfold thingY; rw [hx]) (Same.refl _) ep⟩
/-! ### the first word -/
def firstW : List (Bool × Str) → Str
  | [] => ""
  | (b, z) :: r => if b = true then z else firstW r
/-- a list of pairs that stands at l -/
def Prs (H : Hp) (l : Addr) (ps : List (Bool × Str)) : Prop := ∃ vs, H l = some (.lst vs) ∧ Paired (fun q v => ∃ p, v = V.ref p ∧ H p = some (.tup [.bl q.1, .str q.2])) ps vs
theorem firstW_app (a b : List (Bool × Str)) (h : ∀ q ∈ a, q.1 = false) : firstW (a ++ b) = firstW b := by
  induction a with
  | nil => rfl
  | cons q a ih =>
    have h1 := h q List.mem_cons_self
    obtain ⟨x, z⟩ := q
    dsimp only at h1
    subst h1
    show (if false = true then z else firstW (a ++ b)) = firstW b
    rw [if_neg Bool.false_ne_true]
    exact ih fun q hq => h q (List.mem_cons_of_mem _ hq)
theorem pget {α β : Type} {F : α → β → Prop} : ∀ {xs : List α} {ys : List β}, Paired F xs ys → ∀ {i : Nat} {y : β}, ys[i]? = some y → ∃ x, xs[i]? = some x ∧ F x y
  | _, _, .nil, i, x, h => by cases h
  | _, _, .cons r t, 0, x, h => by
    have e := Option.some.inj h
    subst e
    exact ⟨_, rfl, r⟩
  | _, _, .cons r t, i + 1, x, h => pget t h
def spFirst : Sp := fun vs H Q _ => ∃ (l : Addr) (ps : List (Bool × Str)), vs = [.ref l] ∧ Prs H l ps ∧ Q (.str (firstW ps)) H
theorem ok_first (T : L0 K mg) : FnOk P w K mg base CX0 1 T.d__law_first.a T.d__law_first.d ["_law_pairs"] spFirst := by
  refine T.d__law_first.F.ok sc__law_first (fun vs H Q E h => ?_) (fun cdv A outer s H vs Q E hr h => ?_)
  · obtain ⟨_, _, rfl, _⟩ := h
    rfl
  · obtain ⟨l, ps, rfl, ⟨vs, el, pd⟩, q⟩ := h
    refine ⟨_, pss_cons (ps_for PassesOwn.never rfl (pi_list (pv 0)) (pg_tup rfl (pgs_cons (pg_name (i := 1) sc__law_first.nd rfl (Or.inl rfl)) (pgs_cons (pg_name (i := 2) sc__law_first.nd rfl (Or.inl rfl)) pgs_nil)))
        (pss_one (ps_if (pt_val (pv 1)) (pss_one (ps_ret (pv 2))) pss_nil)))
      (pss_one (ps_ret pe_str)), ?_⟩
    refine ⟨_, rfl, l, rfl, ⟨_, SqL.of el⟩, ?_⟩
    refine for_list (K := K) (a := l) (xs := vs) (fun i σ H' => H' = H ∧ (∃ y1 y2, σ = [some (.ref l), y1, y2]) ∧ ∀ q ∈ ps.take i, q.1 = false) ⟨rfl, ⟨_, _, rfl⟩, fun q hq => nomatch hq⟩ (fun i σ H' _ p => by rw [p.1]; exact SqL.of el) (fun i x σ H' hx p => ?_) (fun σ H' p => ?_)
    · obtain ⟨rfl, ⟨y1, y2, rfl⟩, hp⟩ := p
      obtain ⟨⟨b, z⟩, hq, p, rfl, ep⟩ := pget pd hx
      refine ⟨p, _, rfl, SqT.of ep, rfl, _, _, rfl, _, _, rfl, rfl, ?_⟩
      have hs : ps = ps.take i ++ (b, z) :: ps.drop (i + 1) := by
        obtain ⟨hi, e⟩ := List.getElem?_eq_some_iff.mp hq
        rw [← e, ← List.drop_eq_getElem_cons hi, List.take_append_drop]
      refine ⟨_, rfl, b, rfl, ite2 (fun e => ?_) (fun e => ?_)⟩
      · refine ⟨_, rfl, ?_⟩
        have ef : firstW ps = z := by
          rw [hs, firstW_app _ _ hp]
          show (if b = true then z else _) = z
          rw [if_pos e]
        rw [ef] at q
        exact q
      · refine ⟨rfl, ⟨_, _, rfl⟩, fun r hr => ?_⟩
        rw [List.take_add_one, hq] at hr
        rcases List.mem_append.mp hr with hr | hr
        · exact hp r hr
        · have e2 : r = (b, z) := by simpa using hr
          rw [e2]
          exact Bool.eq_false_iff.mpr e
    · obtain ⟨rfl, ⟨y1, y2, rfl⟩, hp⟩ := p
      have hl : ps.length = vs.length := Paired.length pd
      rw [← hl, List.take_length] at hp
      have ef : firstW ps = "" := by
        have z := firstW_app ps [] hp
        rw [List.append_nil] at z
        exact z
      rw [ef] at q
      exact q
end
end DY
namespace DY
open PySem PySem.Spec PyProof.Rows L2
/-- no name twice among what lies -/
def Gd (Y : Yd) : Prop := (Y.tr.map (·.1) ++ Y.bo.map (·.1)).Nodup
def lies2 (Y : Yd) : List (Str × Int × Int × Int) := Y.tr.map (fun q => (q.1, q.2.1, q.2.2.1, q.2.2.2)) ++ Y.bo.map (fun q => (q.1, q.2.1, q.2.2.1, q.2.2.2.1))
theorem any_swap (Y : Yd) (f : Str × Int × Int × Int → Bool) : (lies Y).any f = (lies2 Y).any f := by
  unfold lies lies2
  rw [List.any_append, List.any_append, Bool.or_comm]
theorem getT_nd {α : Type} : ∀ {T : List (Str × α)}, (T.map (·.1)).Nodup → ∀ {i : Nat} {q : Str × α}, T[i]? = some q → getT T q.1 = some q.2
  | [], _, i, q, h => by cases h
  | p :: T, nd, 0, q, h => by
    cases h
    simp [getT]
  | p :: T, nd, i + 1, q, h => by
    have nd' := List.nodup_cons.mp nd
    have hm : q.1 ∈ T.map (·.1) := List.mem_map.mpr ⟨q, List.mem_of_getElem? h, rfl⟩
    have ne : ¬ p.1 = q.1 := fun z => nd'.1 (by show p.1 ∈ _; rw [z]; exact hm)
    have ih := getT_nd nd'.2 (i := i) (q := q) h
    unfold getT at ih ⊢
    rw [List.find?_cons_of_neg (by simpa using ne)]
    exact ih
theorem getT_no {α : Type} {T : List (Str × α)} {n : Str} (h : n ∉ T.map (·.1)) : getT T n = none := by
  unfold getT
  rw [List.find?_eq_none.mpr]
  · rfl
  · intro q hq z
    exact h (List.mem_map.mpr ⟨q, hq, by simpa using z⟩)
theorem lies2_thing {Y : Yd} (g : Gd Y) {i : Nat} {n : Str} {c l r : Int} (h : (lies2 Y)[i]? = some (n, c, l, r)) : (getT Y.tr n = some (c, l, r)) ∨ (getT Y.tr n = none ∧ ∃ w, getT Y.bo n = some (c, l, r, w)) := by
  unfold Gd at g
  obtain ⟨g1, g2, g3⟩ := List.nodup_append.mp g
  unfold lies2 at h
  by_cases hi : i < Y.tr.length
  · rw [List.getElem?_append_left (by rw [List.length_map]; exact hi), List.getElem?_map] at h
    cases e : Y.tr[i]? with
    | none => rw [e] at h; cases h
    | some q =>
      rw [e] at h
      have h2 := Option.some.inj h
      have z := getT_nd g1 e
      obtain ⟨qn, qc, ql, qr⟩ := q
      simp only [Prod.mk.injEq] at h2
      obtain ⟨rfl, rfl, rfl, rfl⟩ := h2
      exact .inl z
  · rw [List.getElem?_append_right (by rw [List.length_map]; omega), List.length_map, List.getElem?_map] at h
    cases e : Y.bo[i - Y.tr.length]? with
    | none => rw [e] at h; cases h
    | some q =>
      rw [e] at h
      have h2 := Option.some.inj h
      have z := getT_nd g2 e
      have hm : q.1 ∈ Y.bo.map (·.1) := List.mem_map.mpr ⟨q, List.mem_of_getElem? e, rfl⟩
      obtain ⟨qn, qc, ql, qr, qw⟩ := q
      simp only [Prod.mk.injEq] at h2
      obtain ⟨rfl, rfl, rfl, rfl⟩ := h2
      exact .inr ⟨getT_no fun y => g3 _ y _ hm rfl, qw, z⟩
section
variable {P : Program} {w : World} {K : PySem.W.Frag} {mg : Str → Option Value} {base : Heap}
def spCrowds : Sp := fun vs H Q _ => ∃ (A : MA) (Y : Yd) (n : Str) (c l r : Int), vs = [.ref A.m, .str n, .int c, .int l, .int r] ∧ IsM A H Y ∧ Gd Y ∧ ∀ H', Same H H' → Q (.bl (crowd Y n c l r)) H'
theorem keysV {α : Type} {H : Hp} {f : Str → α → List V} {kvs : List (Key × V)} {T : List (Str × α)} (r : Rows H f kvs T) : (kvs.map fun kv => kV kv.1) = (T.map (·.1)).map V.str := by
  have e := congrArg (List.map kV) r.keys
  rw [List.map_map, List.map_map] at e
  exact e
theorem ok_crowds (T : L0 K mg) : FnOk P w K mg base CX0 2 T.d__law_crowds.a T.d__law_crowds.d ["_law_m", "_law_name", "_law_course", "_law_left", "_law_right"] spCrowds := by
  have G__law_thing : FnOk P w K mg base CX0 1 T.d__law_thing.a T.d__law_thing.d ["_law_m", "_law_name"] spThing := ok_thing T
  refine T.d__law_crowds.F.ok sc__law_crowds (fun vs H Q E h => ?_) (fun cdv A outer s H vs Q E hr h => ?_)
  · obtain ⟨_, _, _, _, _, _, rfl, _⟩ := h
    rfl
  · obtain ⟨B, Y, n, c, l, r, rfl, hm, gd, q⟩ := h
    have hu := hu_of hr
    obtain ⟨k1, e1, r1⟩ := hm.tr
    obtain ⟨k2, e2, r2⟩ := hm.bo
    refine ⟨_, pss_cons (ps_for PassesOwn.never rfl (pi_list (pe_op op_cat (pe_callTy (call_listD rfl) (by rfl) T.n_list (by decide +kernel) (pa_cons (pe_dget hu (pv 0) pe_str (fun _ _ => rfl)) pa_nil)) (pe_callTy (call_listD rfl) (by rfl) T.n_list (by decide +kernel) (pa_cons (pe_dget hu (pv 0) pe_str (fun _ _ => rfl)) pa_nil)))) (pg_name (i := 5) sc__law_crowds.nd rfl (Or.inl rfl))
        (pss_cons (ps_set (i := 6) sc__law_crowds.nd rfl (Or.inl rfl) (pe_call G__law_thing (hr.mono (by decide)) (by rfl) T.d__law_thing.g T.d__law_thing.F.kp T.d__law_thing.b .nil pass0 (pa_cons (pv 0) (pa_cons (pv 5) pa_nil))))
      (pss_one (ps_if (PW.pt (pw_and (pt_cmpR op_ne (pv 5) (pv 1) (nomark _)) (pw_and (pt_cmpR op_eq (pe_ix ix_tup (pv 6) pe_int (fun _ _ => rfl)) (pv 2) (nomark _)) (pw_and1 (pt_cmpR op_gt (pe_callB (call_min2 rfl) (by rfl) T.n_min (by decide +kernel) (pa_cons (pe_ix ix_tup (pv 6) pe_int (fun _ _ => rfl)) (pa_cons (pv 4) pa_nil))) (pe_callB (call_max2 rfl) (by rfl) T.n_max (by decide +kernel) (pa_cons (pe_ix ix_tup (pv 6) pe_int (fun _ _ => rfl)) (pa_cons (pv 3) pa_nil))) (nomark _)))))) (pss_one (ps_ret pe_bl)) pss_nil))))
      (pss_one (ps_ret pe_bl)), ?_⟩
    refine ⟨_, rfl, B.m, _, rfl, dget hm.ob (vt B), B.t, k1, rfl, .inl e1, fun l1 n1 => ?_⟩
    rw [keysV r1]
    have s1 : Same H (upd H l1 (.lst ((Y.tr.map (·.1)).map V.str))) := same_upd n1
    have el1 : (upd H l1 (.lst ((Y.tr.map (·.1)).map V.str))) l1 = some (.lst ((Y.tr.map (·.1)).map V.str)) := upd_same
    generalize upd H l1 (.lst ((Y.tr.map (·.1)).map V.str)) = Ha at s1 el1 ⊢
    refine ⟨_, rfl, B.m, _, rfl, dget (s1 _ _ hm.ob) (vb B), B.b, k2, rfl, .inl (s1 _ _ e2), fun l2 n2 => ?_⟩
    rw [keysV r2]
    have s2 : Same Ha (upd Ha l2 (.lst ((Y.bo.map (·.1)).map V.str))) := same_upd n2
    have el2 : (upd Ha l2 (.lst ((Y.bo.map (·.1)).map V.str))) l2 = some (.lst ((Y.bo.map (·.1)).map V.str)) := upd_same
    generalize upd Ha l2 (.lst ((Y.bo.map (·.1)).map V.str)) = Hb at s2 el2 ⊢
    refine ⟨l1, l2, _, _, rfl, rfl, s2 _ _ el1, el2, ?_, fun l3 n3 => ?_⟩
    · refine sm ?_
      have := hm.le
      simp only [List.length_map]
      omega
    have ex : (Y.tr.map (·.1)).map V.str ++ (Y.bo.map (·.1)).map V.str = ((lies2 Y).map (·.1)).map V.str := by
      unfold lies2
      simp only [List.map_append, List.map_map]
      rfl
    rw [ex]
    have s3 : Same Hb (upd Hb l3 (.lst (((lies2 Y).map (·.1)).map V.str))) := same_upd n3
    have el3 : (upd Hb l3 (.lst (((lies2 Y).map (·.1)).map V.str))) l3 = some (.lst (((lies2 Y).map (·.1)).map V.str)) := upd_same
    generalize upd Hb l3 (.lst (((lies2 Y).map (·.1)).map V.str)) = Hc at s3 el3 ⊢
    have sc : Same H Hc := s1.trans (s2.trans s3)
    refine ⟨l3, rfl, ⟨_, SqL.of el3⟩, ?_⟩
    refine for_list (K := K) (a := l3) (xs := ((lies2 Y).map (·.1)).map V.str) (fun i σ H' => Same Hc H' ∧ (∃ y5 y6, σ = [some (.ref B.m), some (.str n), some (.int c), some (.int l), some (.int r), y5, y6]) ∧ ((lies2 Y).take i).any (meets n c l r) = false)
      ⟨Same.refl _, ⟨_, _, rfl⟩, rfl⟩ (fun i σ H' _ p => SqL.of (p.1 _ _ el3)) (fun i x σ H' hx p => ?_) (fun σ H' p => ?_)
    · obtain ⟨sm', ⟨y5, y6, rfl⟩, hp⟩ := p
      obtain ⟨⟨n', c', l', r'⟩, hl, rfl⟩ : ∃ e, (lies2 Y)[i]? = some e ∧ x = .str e.1 := by
        rw [List.getElem?_map, List.getElem?_map] at hx
        cases e : (lies2 Y)[i]? with
        | none => rw [e] at hx; cases hx
        | some z => rw [e] at hx; exact ⟨z, rfl, (Option.some.inj hx).symm⟩
      have nx : meets n c l r (n', c', l', r') = false → ((lies2 Y).take (i + 1)).any (meets n c l r) = false := fun hm => by
        rw [List.take_add_one, hl, List.any_append, hp]
        simp [hm]
      refine ⟨_, rfl, _, rfl, B, Y, n', rfl, hm.keep (sc.trans sm'), c', l', r', lies2_thing gd hl, fun H2 p s2' ep => ?_⟩
      have at0 : atI ([.int c', .int l', .int r'] : List V) (0 : Int) = some (.int c') := atI_nat (j := 0) rfl
      have at1 : atI ([.int c', .int l', .int r'] : List V) (1 : Int) = some (.int l') := atI_nat (j := 1) rfl
      have at2 : atI ([.int c', .int l', .int r'] : List V) (2 : Int) = some (.int r') := atI_nat (j := 2) rfl
      have sH2 : Same Hc H2 := sm'.trans s2'
      refine ⟨_, rfl, _, rfl, rfl, _, rfl, ite2 (fun e => ?_) (fun e => ?_)⟩
      · have e1 : ¬ n' = n := fun y => by
          rw [y] at e
          simp at e
        refine ⟨_, rfl, p, _, _, _, rfl, rfl, SqT.of ep, at0, _, rfl, rfl, _, rfl, ite2 (fun e2 => ?_) (fun e2 => ?_)⟩
        · have e3 : c' = c := V.int.inj (of_decide_eq_true e2)
          refine ⟨_, rfl, p, _, _, _, rfl, rfl, SqT.of ep, at2, _, rfl, r', r, rfl, ?_⟩
          refine ⟨_, rfl, p, _, _, _, rfl, rfl, SqT.of ep, at1, _, rfl, l', l, rfl, _, _, rfl, rfl, _, rfl, ite2 (fun e4 => ?_) (fun e4 => ?_)⟩
          · have hm' : meets n c l r (n', c', l', r') = true := by
              have e5 := of_decide_eq_true e4
              unfold meets
              simp only [e1, e3, decide_false, decide_true, Bool.not_false, Bool.true_and]
              refine decide_eq_true ?_
              revert e5
              repeat' split
              all_goals omega
            have hc : crowd Y n c l r = true := by
              unfold crowd
              rw [any_swap]
              exact List.any_eq_true.mpr ⟨_, List.mem_of_getElem? hl, hm'⟩
            have z := q H2 (sc.trans sH2)
            rw [hc] at z
            exact z
          · refine ⟨sH2, ⟨_, _, rfl⟩, nx ?_⟩
            have e5 : ¬ _ := fun z => e4 (decide_eq_true z)
            unfold meets
            simp only [e1, e3, decide_false, decide_true, Bool.not_false, Bool.true_and]
            refine decide_eq_false ?_
            revert e5
            repeat' split
            all_goals omega
        · refine ⟨sH2, ⟨_, _, rfl⟩, nx ?_⟩
          have e3 : ¬ c' = c := fun y => e2 (decide_eq_true (by rw [y]))
          unfold meets
          simp [e3]
      · refine ⟨sH2, ⟨_, _, rfl⟩, nx ?_⟩
        have e1 : n' = n := V.str.inj (of_decide_eq_true (notF e))
        unfold meets
        simp [e1]
    · obtain ⟨sm', ⟨y5, y6, rfl⟩, hp⟩ := p
      have hlen : (((lies2 Y).map (·.1)).map V.str).length = (lies2 Y).length := by simp only [List.length_map]
      rw [hlen, List.take_length] at hp
      have z := q H' (sc.trans sm')
      unfold crowd at z
      rw [any_swap, hp] at z
      exact z
/-! ### the faults of a new thing -/
theorem prs_keep {H H' : Hp} (s : TS H H') : ∀ {ps : List (Bool × Str)} {vs : List V}, Paired (fun q v => ∃ p, v = V.ref p ∧ H p = some (.tup [.bl q.1, .str q.2])) ps vs → Paired (fun q v => ∃ p, v = V.ref p ∧ H' p = some (.tup [.bl q.1, .str q.2])) ps vs
  | _, _, .nil => .nil
  | _, _, .cons ⟨p, e1, e2⟩ t => .cons ⟨p, e1, s _ _ e2⟩ (prs_keep s t)
theorem Prs.keep {H H' : Hp} {l : Addr} {ps : List (Bool × Str)} (h : Prs H l ps) (s : Same H H') : Prs H' l ps := by
  obtain ⟨vs, e, p⟩ := h
  exact ⟨vs, s _ _ e, prs_keep (.of s) p⟩
def newK : Deed → Bool
  | .tre .. => true
  | .boa .. => true
  | .sac .. => true
  | .cor .. => true
  | _ => false
def tabN (Y : Yd) : Deed → Nat
  | .tre .. => Y.tr.length
  | .boa .. => Y.bo.length
  | .sac .. => Y.sa.length
  | .cor .. => Y.co.length
  | _ => 0
def spNew : Sp := fun vs H Q _ => ∃ (A : MA) (Y : Yd) (a : Addr) (d : Deed) (m : Int), vs = [.ref A.m, .ref a, .int m] ∧ IsM A H Y ∧ H a = some (.tup (.str (dW d) :: dR d)) ∧ newK d = true ∧ (dN d).length ≤ 1000 ∧
  ∀ H' p h f, Same H H' → H' p = some (.tup [.ref h, .ref f]) → Prs H' h [(!isName (dN d), "BadName"), (taken Y (dN d), "Taken")] → Prs H' f [(decide (m ≤ (tabN Y d : Int)), "Full")] → Q (.ref p) H'
theorem dR1 (d : Deed) : atI (.str (dW d) :: dR d : List V) (1 : Int) = some (.str (dN d)) := by cases d <;> exact atI_nat (j := 1) rfl
theorem dR0 (d : Deed) : atI (.str (dW d) :: dR d : List V) (0 : Int) = some (.str (dW d)) := atI_nat (j := 0) rfl
def wT : Deed → Str
  | .tre .. => "trestles"
  | .boa .. => "boards"
  | .sac .. => "sacks"
  | .cor .. => "cords"
  | _ => ""
theorem wS (d : Deed) (h : newK d = true) : (dW d ++ ("s" : Str)) = wT d := by
  cases d with
  | tre => show ("trestle" : Str) ++ ("s" : Str) = ("trestles" : Str); decide +kernel
  | boa => show ("board" : Str) ++ ("s" : Str) = ("boards" : Str); decide +kernel
  | sac => show ("sack" : Str) ++ ("s" : Str) = ("sacks" : Str); decide +kernel
  | cor => show ("cord" : Str) ++ ("s" : Str) = ("cords" : Str); decide +kernel
  | _ => cases h
theorem wL (d : Deed) : (dW d).length ≤ 10 := by
  cases d with
  | tre => show ("trestle" : Str).length ≤ 10; decide +kernel
  | boa => show ("board" : Str).length ≤ 10; decide +kernel
  | awa => show ("away" : Str).length ≤ 10; decide +kernel
  | alo => show ("along" : Str).length ≤ 10; decide +kernel
  | sac => show ("sack" : Str).length ≤ 10; decide +kernel
  | mov => show ("move" : Str).length ≤ 10; decide +kernel
  | lif => show ("lift" : Str).length ≤ 10; decide +kernel
  | cor => show ("cord" : Str).length ≤ 10; decide +kernel
  | cut => show ("cut" : Str).length ≤ 10; decide +kernel
theorem any4 (a b c d : Bool) : ([a, b, c, d] : List Bool).any id = (b || (a || (c || d))) := by cases a <;> cases b <;> cases c <;> cases d <;> rfl
theorem ok_new (T : L0 K mg) : FnOk P w K mg base CX0 2 T.d__law_new_fault.a T.d__law_new_fault.d ["_law_m", "_law_deed", "_law_most"] spNew := by
  have G__law_is_name : FnOk P w K mg base CX0 1 T.d__law_is_name.a T.d__law_is_name.d ["_law_text"] spName := ok_lis_name T
  refine T.d__law_new_fault.F.ok sc__law_new_fault (fun vs H Q E h => ?_) (fun cdv A outer s H vs Q E hr h => ?_)
  · obtain ⟨_, _, _, _, _, rfl, _⟩ := h
    rfl
  · obtain ⟨B, Y, a, d, m, rfl, hm, ha, hnk, hz, q⟩ := h
    have hu := hu_of hr
    obtain ⟨k1, e1, r1⟩ := hm.tr
    obtain ⟨k2, e2, r2⟩ := hm.bo
    obtain ⟨k3, e3, r3⟩ := hm.sa
    obtain ⟨k4, e4, r4⟩ := hm.co
    refine ⟨_, pss_cons (ps_set (i := 3) sc__law_new_fault.nd rfl (Or.inr rfl) (pe_ix ix_tup (pv 1) pe_int (fun _ _ => rfl)))
      (pss_cons (ps_set (i := 4) sc__law_new_fault.nd rfl (Or.inl rfl) (pe_tup (pa_cons pe_str (pa_cons pe_str (pa_cons pe_str (pa_cons pe_str pa_nil))))))
      (pss_cons (ps_set (i := 5) sc__law_new_fault.nd rfl (Or.inl rfl) (pe_callB (cr_any rfl) (by rfl) T.n_any (by decide +kernel) (pa_cons (pe_lc (own := [("_law_word", 6)]) (g := (gName 6)) (tt := tYes) (by rfl) sc__law_new_fault.nd (pi_tup (pv 4)) (blkOk_by (N := N__law_new_fault) (sc := defScope s__law_new_fault) (by decide +kernel)) (fun _ _ _ _ _ => (pg_name (i := 6) sc__law_new_fault.nd rfl (Or.inl rfl))) (fun _ _ _ _ _ => pts_nil) (fun _ _ _ _ _ => (pe_cmp (pc_din hu (pv 3) (pe_dget hu (pv 0) (pv 6) (fun _ _ => rfl)))))) pa_nil)))
      (pss_one (ps_ret (pe_tup (pa_cons (pe_lst (pa_cons (pe_tup (pa_cons (pe_not (pe_call G__law_is_name (hr.mono (by decide)) (by rfl) T.d__law_is_name.g T.d__law_is_name.F.kp T.d__law_is_name.b .nil pass0 (pa_cons (pv 3) pa_nil))) (pa_cons pe_str pa_nil))) (pa_cons (pe_tup (pa_cons (pv 5) (pa_cons pe_str pa_nil))) pa_nil))) (pa_cons (pe_lst (pa_cons (pe_tup (pa_cons (pe_cmpR op_ge (pe_callB call_lenD (by rfl) T.n_len (by decide +kernel) (pa_cons (pe_dget hu (pv 0) (pe_op op_add_str (pe_ix ix_tup (pv 1) pe_int (fun _ _ => rfl)) pe_str) (fun _ _ => rfl)) pa_nil)) (pv 2) (nomark _)) (pa_cons pe_str pa_nil))) pa_nil)) pa_nil))))))), ?_⟩
    refine ⟨_, rfl, a, _, _, _, rfl, rfl, SqT.of ha, dR1 d, by show 4 ≤ sizeLine; decide, fun w1 nw => ?_⟩
    have s1 : Same H (upd H w1 (.tup [.str "trestles", .str "boards", .str "sacks", .str "cords"])) := same_upd nw
    have ew : (upd H w1 (.tup [.str "trestles", .str "boards", .str "sacks", .str "cords"])) w1 = some (.tup [.str "trestles", .str "boards", .str "sacks", .str "cords"]) := upd_same
    generalize upd H w1 (.tup [.str "trestles", .str "boards", .str "sacks", .str "cords"]) = H1 at s1 ew ⊢
    refine ⟨_, rfl, w1, rfl, ⟨_, SqT.of ew⟩, fun D nD => ?_⟩
    have bs : ∀ (i : Nat) (x : V), ([.str "trestles", .str "boards", .str "sacks", .str "cords"] : List V)[i]? = some x → ∃ (z : Str) (t : Addr) (kvs : List (Key × V)) (b : Bool), x = .str z ∧ valV (kvM B) (Sum.inr z) = some (.ref t) ∧ H t = some (.dK kvs) ∧ (valV kvs (Sum.inr (dN d))).isSome = b ∧
        [hasT Y.tr (dN d), hasT Y.bo (dN d), hasT Y.sa (dN d), hasT Y.co (dN d)][i]? = some b := by
      intro i x hx
      match i, hx with
      | 0, hx => cases hx; exact ⟨_, _, _, _, rfl, vt B, e1, r1.has _, rfl⟩
      | 1, hx => cases hx; exact ⟨_, _, _, _, rfl, vb B, e2, r2.has _, rfl⟩
      | 2, hx => cases hx; exact ⟨_, _, _, _, rfl, vs B, e3, r3.has _, rfl⟩
      | 3, hx => cases hx; exact ⟨_, _, _, _, rfl, vc B, e4, r4.has _, rfl⟩
      | _ + 4, hx => cases hx
    refine lc_tup (K := K) (a := w1) (xs := [.str "trestles", .str "boards", .str "sacks", .str "cords"]) (fun i H' => Same H1 H' ∧ H' D = some (.lst (([hasT Y.tr (dN d), hasT Y.bo (dN d), hasT Y.sa (dN d), hasT Y.co (dN d)].take i).map V.bl)))
      ⟨same_upd nD, upd_same⟩ (fun i H' _ p => SqT.of (p.1 _ _ ew)) (fun i x H' hx p => ?_) (fun H' p => ?_)
    · obtain ⟨p1, p2⟩ := p
      obtain ⟨z, t, kvs, b, rfl, hv, ht, hb, hl⟩ := bs i x hx
      have sH := s1.trans p1
      refine ⟨rfl, yes (iteT ?_)⟩
      refine ⟨_, rfl, _, rfl, _, rfl, B.m, _, rfl, dget (sH _ _ hm.ob) hv, t, _, rfl, DGet.k (k := Sum.inr (dN d)) (sH _ _ ht), _, p2, ?_, ?_, ?_⟩
      · rw [List.length_map, List.length_take]
        exact small1000 (Nat.le_trans (Nat.min_le_right _ _) (by show 4 ≤ 1000; decide))
      · intro c o e
        rw [upd_ne (ne_of_none e nD)]
        exact p1 _ _ e
      · rw [upd_same, List.take_add_one, hl, hb]
        simp
    · obtain ⟨p1, p2⟩ := p
      refine ⟨D, [hasT Y.tr (dN d), hasT Y.bo (dN d), hasT Y.sa (dN d), hasT Y.co (dN d)], rfl, SqL.of p2, ?_⟩
      rw [any4]
      have sH := s1.trans p1
      have ev : ∃ (t : Addr) (kvs : List (Key × V)), valV (kvM B) (Sum.inr (wT d)) = some (.ref t) ∧ H t = some (.dK kvs) ∧ kvs.length = tabN Y d := by
        cases d with
        | tre n c l r => exact ⟨_, _, vt B, e1, r1.len⟩
        | boa n c l r g => exact ⟨_, _, vb B, e2, r2.len⟩
        | sac => exact ⟨_, _, vs B, e3, r3.len⟩
        | cor => exact ⟨_, _, vc B, e4, r4.len⟩
        | _ => cases hnk
      obtain ⟨t, kvs, hv, ht, hk⟩ := ev
      refine ⟨_, rfl, dN d, rfl, hz, fun H2 s2 => ?_⟩
      refine ⟨_, rfl, by show 2 ≤ sizeLine; decide, fun t1 n1 => ?_⟩
      have sa : Same H2 (upd H2 t1 (.tup [.bl (!isName (dN d)), .str "BadName"])) := same_upd n1
      have ea : (upd H2 t1 (.tup [.bl (!isName (dN d)), .str "BadName"])) t1 = some (.tup [.bl (!isName (dN d)), .str "BadName"]) := upd_same
      generalize upd H2 t1 (.tup [.bl (!isName (dN d)), .str "BadName"]) = Ha at sa ea ⊢
      refine ⟨_, rfl, by show 2 ≤ sizeLine; decide, fun t2 n2 => ?_⟩
      have sb : Same Ha (upd Ha t2 (.tup [.bl (hasT Y.bo (dN d) || (hasT Y.tr (dN d) || (hasT Y.sa (dN d) || hasT Y.co (dN d)))), .str "Taken"])) := same_upd n2
      have eb : (upd Ha t2 (.tup [.bl (hasT Y.bo (dN d) || (hasT Y.tr (dN d) || (hasT Y.sa (dN d) || hasT Y.co (dN d)))), .str "Taken"])) t2 = some (.tup [.bl (taken Y (dN d)), .str "Taken"]) := upd_same
      generalize upd Ha t2 (.tup [.bl (hasT Y.bo (dN d) || (hasT Y.tr (dN d) || (hasT Y.sa (dN d) || hasT Y.co (dN d)))), .str "Taken"]) = Hb at sb eb ⊢
      refine ⟨by show 2 ≤ sizeLine; decide, fun h nh => ?_⟩
      have sc : Same Hb (upd Hb h (.lst [.ref t1, .ref t2])) := same_upd nh
      have eh : (upd Hb h (.lst [.ref t1, .ref t2])) h = some (.lst [.ref t1, .ref t2]) := upd_same
      generalize upd Hb h (.lst [.ref t1, .ref t2]) = Hc at sc eh ⊢
      have sAll : Same H Hc := sH.trans (s2.trans (sa.trans (sb.trans sc)))
      refine ⟨_, rfl, _, rfl, a, _, _, _, rfl, rfl, SqT.of (sAll _ _ ha), dR0 d, dW d, "s", rfl, rfl, ?_, B.m, .ref t, rfl, ?_, t, kvs, rfl, sAll _ _ ht, _, rfl, _, _, rfl, rfl, by show 2 ≤ sizeLine; decide, fun t3 n3 => ?_⟩
      · have := wL d
        refine sm ?_
        show (dW d).length + 1 ≤ _
        omega
      · rw [wS d hnk]
        exact dget (sAll _ _ hm.ob) hv
      · rw [hk]
        have sd : Same Hc (upd Hc t3 (.tup [.bl (decide (m ≤ (tabN Y d : Int))), .str "Full"])) := same_upd n3
        have ed : (upd Hc t3 (.tup [.bl (decide (m ≤ (tabN Y d : Int))), .str "Full"])) t3 = some (.tup [.bl (decide (m ≤ (tabN Y d : Int))), .str "Full"]) := upd_same
        refine ⟨by show 1 ≤ sizeLine; decide, fun f nf => ?_⟩
        refine ⟨by show 2 ≤ sizeLine; decide, fun p np => ?_⟩
        have se := same_upd (o := .lst [.ref t3]) nf
        have sf := same_upd (o := .tup [.ref h, .ref f]) np
        refine q _ p h f (sAll.trans (sd.trans (se.trans sf))) upd_same ⟨_, sf _ _ (se _ _ (sd _ _ eh)), .cons ⟨t1, rfl, ?_⟩ (.cons ⟨t2, rfl, ?_⟩ .nil)⟩ ⟨_, sf _ _ upd_same, .cons ⟨t3, rfl, ?_⟩ .nil⟩
        · exact sf _ _ (se _ _ (sd _ _ (sc _ _ (sb _ _ ea))))
        · exact sf _ _ (se _ _ (sd _ _ (sc _ _ eb)))
        · exact sf _ _ (se _ _ ed)
end
end DY
namespace DY
open PySem PySem.Spec PyProof.Rows L2
def erS : Er → Str
  | .BadName => "BadName"
  | .Taken => "Taken"
  | .BadCourse => "BadCourse"
  | .BadPlace => "BadPlace"
  | .BadWeight => "BadWeight"
  | .Full => "Full"
  | .Crowded => "Crowded"
  | .NoThing => "NoThing"
  | .InUse => "InUse"
  | .NoSack => "NoSack"
  | .NoCord => "NoCord"
  | .BadCord => "BadCord"
  | .BadDeed => "BadDeed"
def erW : Option Er → Str
  | none => ""
  | some e => erS e
theorem tor {ta tb : TE} {σ : L2.St} {H : Hp} {Q : VK} (p q : Bool) (h1 : ∀ Q' : VK, Q' (.bl p) H → ta σ H Q') (h2 : ∀ Q' : VK, Q' (.bl q) H → tb σ H Q') (h : Q (.bl (p || q)) H) : tOrV ta tb σ H Q := by
  refine h1 _ ⟨p, rfl, ?_⟩
  cases p
  · rw [if_neg Bool.false_ne_true]
    exact h2 _ h
  · rw [if_pos rfl]
    exact h
def badP (l r k : Int) : Bool := decide (l < -1000000) || (decide (1000000 < r) || decide (r - l < k))
def badC (c : Int) : Bool := decide (c < 1) || decide (9 < c)
def badW (g : Int) : Bool := decide (g < 1) || decide (1000000000 < g)
theorem badC_eq (c : Int) : badC c = !isCourse c := by
  unfold badC isCourse
  by_cases h1 : c < 1
  · have h2 : ¬ 1 ≤ c := by omega
    simp [h1, h2]
  · have h2 : 1 ≤ c := by omega
    by_cases h3 : 9 < c
    · have h4 : ¬ c ≤ 9 := by omega
      simp [h1, h2, h3, h4]
    · have h4 : c ≤ 9 := by omega
      simp [h1, h2, h3, h4]
theorem badW_eq (c : Int) : badW c = !isWeight c := by
  unfold badW isWeight
  by_cases h1 : c < 1
  · have h2 : ¬ 1 ≤ c := by omega
    simp [h1, h2]
  · have h2 : 1 ≤ c := by omega
    by_cases h3 : 1000000000 < c
    · have h4 : ¬ c ≤ 1000000000 := by omega
      simp [h1, h2, h3, h4]
    · have h4 : c ≤ 1000000000 := by omega
      simp [h1, h2, h3, h4]
theorem badP_T (l r : Int) : badP l r 0 = !((isPlace l && isPlace r) && !decide (r < l)) := by
  unfold badP isPlace
  rw [Bool.eq_iff_iff]
  simp only [Bool.or_eq_true, decide_eq_true_eq, Bool.not_eq_true', Bool.and_eq_false_iff, Bool.and_eq_true, decide_eq_false_iff_not, Bool.not_eq_false']
  omega
theorem badP_B (l r : Int) : badP l r 1 = !((isPlace l && isPlace r) && !decide (r ≤ l)) := by
  unfold badP isPlace
  rw [Bool.eq_iff_iff]
  simp only [Bool.or_eq_true, decide_eq_true_eq, Bool.not_eq_true', Bool.and_eq_false_iff, Bool.and_eq_true, decide_eq_false_iff_not, Bool.not_eq_false']
  omega
def prsT (Y : Yd) (n : Str) (c l r : Int) : List (Bool × Str) := [(!isName n, "BadName"), (taken Y n, "Taken"), (badC c, "BadCourse"), (badP l r 0, "BadPlace"), (decide ((6 : Int) ≤ (Y.tr.length : Int)), "Full"), (crowd Y n c l r, "Crowded")]
def prsB (Y : Yd) (n : Str) (c l r g : Int) : List (Bool × Str) := [(!isName n, "BadName"), (taken Y n, "Taken"), (badC c, "BadCourse"), (badP l r 1, "BadPlace"), (badW g, "BadWeight"), (decide ((6 : Int) ≤ (Y.bo.length : Int)), "Full"), (crowd Y n c l r, "Crowded")]
theorem d6 (n : Nat) : decide ((6 : Int) ≤ (n : Int)) = decide (6 ≤ n) := by
  rw [Bool.eq_iff_iff]
  simp only [decide_eq_true_eq]
  omega
theorem firstT (Y : Yd) (n : Str) (c l r : Int) : firstW (prsT Y n c l r) = erW (faultT Y n c l r) := by
  unfold prsT faultT
  rw [badC_eq, badP_T, d6]
  cases h1 : isName n <;> simp [firstW, erW, erS]
  cases h2 : taken Y n <;> simp [firstW, erW, erS]
  cases h3 : isCourse c <;> simp [firstW, erW, erS]
  cases h4 : isPlace l <;> simp [firstW, erW, erS]
  cases h5 : isPlace r <;> simp [firstW, erW, erS]
  by_cases h6 : r < l
  · have h6' : ¬ l ≤ r := by omega
    simp [h6, h6', firstW, erW, erS]
  · have h6' : l ≤ r := by omega
    by_cases h7 : 6 ≤ Y.tr.length
    · simp [h6, h6', h7, firstW, erW, erS]
    · cases h8 : crowd Y n c l r <;> simp [h6, h6', h7, firstW, erW, erS]
theorem firstB (Y : Yd) (n : Str) (c l r g : Int) : firstW (prsB Y n c l r g) = erW (faultB Y n c l r g) := by
  unfold prsB faultB
  rw [badC_eq, badP_B, badW_eq, d6]
  cases h1 : isName n <;> simp [firstW, erW, erS]
  cases h2 : taken Y n <;> simp [firstW, erW, erS]
  cases h3 : isCourse c <;> simp [firstW, erW, erS]
  cases h4 : isPlace l <;> simp [firstW, erW, erS]
  cases h5 : isPlace r <;> simp [firstW, erW, erS]
  by_cases h6 : r ≤ l
  · have h6' : ¬ l < r := by omega
    simp [h6, h6', firstW, erW, erS]
  · have h6' : l < r := by omega
    cases h9 : isWeight g <;> simp [h6, h6', firstW, erW, erS]
    by_cases h7 : 6 ≤ Y.bo.length
    · simp [h7, firstW, erW, erS]
    · cases h8 : crowd Y n c l r <;> simp [h7, firstW, erW, erS]
section
variable {P : Program} {w : World} {K : PySem.W.Frag} {mg : Str → Option Value} {base : Heap}
def layK : Deed → Bool
  | .tre .. => true
  | .boa .. => true
  | _ => false
def spLay : Sp := fun vs H Q _ => ∃ (A : MA) (Y : Yd) (a : Addr) (d : Deed), vs = [.ref A.m, .ref a] ∧ IsM A H Y ∧ Gd Y ∧ H a = some (.tup (.str (dW d) :: dR d)) ∧ layK d = true ∧ (dN d).length ≤ 1000 ∧ ∀ H', Same H H' → Q (.str (erW (fault Y d))) H'
theorem prs_app {F : (Bool × Str) → V → Prop} : ∀ {a b : List (Bool × Str)} {x y : List V}, Paired F a x → Paired F b y → Paired F (a ++ b) (x ++ y)
  | _, _, _, _, .nil, h => h
  | _, _, _, _, .cons h t, h2 => .cons h (prs_app t h2)
abbrev wd (b : Bool) (z : Str) : Bool × Str := (b, z)
abbrev PR (H : Hp) (q : Bool × Str) (v : V) : Prop := ∃ p, v = V.ref p ∧ H p = some (.tup [.bl q.1, .str q.2])
def tTail : L2.TS := tRet (tCall spFirst [] E0 (tCons (tOp rCat (tOp rCat (tVar 10) (tVar 8)) (tLst (tCons (tTup (tCons (tCall spCrowds [] E0 (tCons (tVar 0) (tCons (tVar 2) (tCons (tVar 3) (tCons (tVar 4) (tCons (tVar 5) tNil)))))) (tCons (tC (.str "Crowded")) tNil))) tNil))) tNil))
theorem tail_ok {B : MA} {Y : Yd} {a f rw_ : Addr} {n : Str} {c l r : Int} {y6 y7 y9 : Option V} {Hr : Hp} {vr vf : List V} {ps : List (Bool × Str)} {fb : Bool} {D : Ends} (hm : IsM B Hr Y) (gd : Gd Y) (er : Hr rw_ = some (.lst vr)) (ef : Hr f = some (.lst vf))
    (pr : Paired (PR Hr) ps vr) (pf : Paired (PR Hr) [wd fb "Full"] vf) (hl : ps.length ≤ 10)
    (q : ∀ H', Same Hr H' → D.rt (.str (firstW (ps ++ ([wd fb "Full"] ++ [wd (crowd Y n c l r) "Crowded"])))) H') :
    tTail D [some (.ref B.m), some (.ref a), some (.str n), some (.int c), some (.int l), some (.int r), y6, y7, some (.ref f), y9, some (.ref rw_)] Hr := by
  have lr : ps.length = vr.length := Paired.length pr
  have lf : 1 = vf.length := Paired.length pf
  refine ⟨_, rfl, _, rfl, rw_, f, vr, vf, rfl, rfl, er, ef, sm (by omega), fun l1 n1 => ?_⟩
  have s1 : Same Hr (upd Hr l1 (.lst (vr ++ vf))) := same_upd n1
  have e1 : (upd Hr l1 (.lst (vr ++ vf))) l1 = some (.lst (vr ++ vf)) := upd_same
  generalize upd Hr l1 (.lst (vr ++ vf)) = H1 at s1 e1 ⊢
  refine ⟨_, rfl, _, rfl, _, rfl, _, rfl, _, rfl, B, Y, n, c, l, r, rfl, hm.keep s1, gd, fun H2 s2 => ?_⟩
  refine ⟨by show 2 ≤ sizeLine; decide, fun t1 m1 => ?_⟩
  have s3 : Same H2 (upd H2 t1 (.tup [.bl (crowd Y n c l r), .str "Crowded"])) := same_upd m1
  have e3 : (upd H2 t1 (.tup [.bl (crowd Y n c l r), .str "Crowded"])) t1 = some (.tup [.bl (crowd Y n c l r), .str "Crowded"]) := upd_same
  generalize upd H2 t1 (.tup [.bl (crowd Y n c l r), .str "Crowded"]) = H3 at s3 e3 ⊢
  refine ⟨by show 1 ≤ sizeLine; decide, fun l2 m2 => ?_⟩
  have s4 : Same H3 (upd H3 l2 (.lst [.ref t1])) := same_upd m2
  have e4 : (upd H3 l2 (.lst [.ref t1])) l2 = some (.lst [.ref t1]) := upd_same
  generalize upd H3 l2 (.lst [.ref t1]) = H4 at s4 e4 ⊢
  refine ⟨l1, l2, _, _, rfl, rfl, s4 _ _ (s3 _ _ (s2 _ _ e1)), e4, sm (by simp only [List.length_append, List.length_cons, List.length_nil]; omega), fun l3 m3 => ?_⟩
  have s5 : Same H4 (upd H4 l3 (.lst (vr ++ vf ++ [.ref t1]))) := same_upd m3
  have sA : Same Hr (upd H4 l3 (.lst (vr ++ vf ++ [.ref t1]))) := s1.trans (s2.trans (s3.trans (s4.trans s5)))
  refine ⟨l3, ps ++ ([wd fb "Full"] ++ [wd (crowd Y n c l r) "Crowded"]), rfl, ⟨_, upd_same, ?_⟩, q _ sA⟩
  have z := prs_app (prs_app (prs_keep (.of sA) pr) (prs_keep (.of sA) pf)) (.cons (show PR _ (wd (crowd Y n c l r) "Crowded") (.ref t1) from ⟨t1, rfl, s5 _ _ (s4 _ _ e3)⟩) .nil)
  rw [← List.append_assoc ps]
  exact z
theorem ok_lay (T : L0 K mg) : FnOk P w K mg base CX0 3 T.d__law_lay_fault.a T.d__law_lay_fault.d ["_law_m", "_law_deed"] spLay := by
  have G__law_new_fault : FnOk P w K mg base CX0 2 T.d__law_new_fault.a T.d__law_new_fault.d ["_law_m", "_law_deed", "_law_most"] spNew := ok_new T
  have G__law_crowds : FnOk P w K mg base CX0 2 T.d__law_crowds.a T.d__law_crowds.d ["_law_m", "_law_name", "_law_course", "_law_left", "_law_right"] spCrowds := ok_crowds T
  have G__law_first : FnOk P w K mg base CX0 1 T.d__law_first.a T.d__law_first.d ["_law_pairs"] spFirst := ok_first T
  refine T.d__law_lay_fault.F.ok sc__law_lay_fault (fun vs H Q E h => ?_) (fun cdv A outer s H vs Q E hr h => ?_)
  · obtain ⟨_, _, _, _, rfl, _⟩ := h
    rfl
  · obtain ⟨B, Y, a, d, rfl, hm, gd, ha, hlk, hz, q⟩ := h
    refine ⟨_, pss_cons (ps_asg (pe_slice sl_tup (pv 1) (po_some pe_int) (po_some pe_int)) (pg_tup rfl (pgs_cons (pg_name (i := 2) sc__law_lay_fault.nd rfl (Or.inl rfl)) (pgs_cons (pg_name (i := 3) sc__law_lay_fault.nd rfl (Or.inl rfl)) (pgs_cons (pg_name (i := 4) sc__law_lay_fault.nd rfl (Or.inl rfl)) (pgs_cons (pg_name (i := 5) sc__law_lay_fault.nd rfl (Or.inl rfl)) pgs_nil))))))
      (pss_cons (ps_set (i := 6) sc__law_lay_fault.nd rfl (Or.inl rfl) (pe_callTy call_int1 (by rfl) T.n_int (by decide +kernel) (pa_cons (pe_cmpR op_eq (pe_ix ix_tup (pv 1) pe_int (fun _ _ => rfl)) pe_str (nomark _)) pa_nil)))
      (pss_cons (ps_asg (pe_call G__law_new_fault (hr.mono (by decide)) (by rfl) T.d__law_new_fault.g T.d__law_new_fault.F.kp T.d__law_new_fault.b .nil pass0 (pa_cons (pv 0) (pa_cons (pv 1) (pa_cons pe_int pa_nil)))) (pg_tup rfl (pgs_cons (pg_name (i := 7) sc__law_lay_fault.nd rfl (Or.inl rfl)) (pgs_cons (pg_name (i := 8) sc__law_lay_fault.nd rfl (Or.inl rfl)) pgs_nil))))
      (pss_cons (ps_set (i := 9) sc__law_lay_fault.nd rfl (Or.inl rfl) (pe_or (pe_cmpR op_lt (pv 4) (pe_un un_neg pe_int) (nomark _)) (pe_or (pe_cmpR op_gt (pv 5) pe_int (nomark _)) (pe_one (pe_cmpR op_lt (pe_op op_sub (pv 5) (pv 4)) (pv 6) (nomark _))))))
      (pss_cons (ps_set (i := 10) sc__law_lay_fault.nd rfl (Or.inl rfl) (pe_op op_cat (pv 7) (pe_lst (pa_cons (pe_tup (pa_cons (pe_or (pe_cmpR op_lt (pv 3) pe_int (nomark _)) (pe_one (pe_cmpR op_gt (pv 3) pe_int (nomark _)))) (pa_cons pe_str pa_nil))) (pa_cons (pe_tup (pa_cons (pv 9) (pa_cons pe_str pa_nil))) pa_nil)))))
      (pss_cons (ps_if (pt_cmpR op_eq (pv 6) pe_int (nomark _)) (pss_one (ps_expr (pe_bm PySem.F.plainAttrs_list PySem.F.slot_list_append PySem.F.type_list_append mt_append (pv 10) (pa_cons (pe_tup (pa_cons (pe_or (pe_cmpR op_lt (pe_ix ix_tup (pv 1) pe_int (fun _ _ => rfl)) pe_int (nomark _)) (pe_one (pe_cmpR op_gt (pe_ix ix_tup (pv 1) pe_int (fun _ _ => rfl)) pe_int (nomark _)))) (pa_cons pe_str pa_nil))) pa_nil)))) pss_nil)
      (pss_one (ps_ret (pe_call G__law_first (hr.mono (by decide)) (by rfl) T.d__law_first.g T.d__law_first.F.kp T.d__law_first.b .nil pass0 (pa_cons (pe_op op_cat (pe_op op_cat (pv 10) (pv 8)) (pe_lst (pa_cons (pe_tup (pa_cons (pe_call G__law_crowds (hr.mono (by decide)) (by rfl) T.d__law_crowds.g T.d__law_crowds.F.kp T.d__law_crowds.b .nil pass0 (pa_cons (pv 0) (pa_cons (pv 2) (pa_cons (pv 3) (pa_cons (pv 4) (pa_cons (pv 5) pa_nil)))))) (pa_cons pe_str pa_nil))) pa_nil))) pa_nil))))))))), ?_⟩
    cases d with
    | tre n c l r =>
      refine ⟨_, rfl, 1, rfl, 5, rfl, a, _, rfl, SqT.of ha, fun z => (by cases z.1), fun tp ntp => ?_⟩
      have s1 : Same H (upd H tp (.tup [.str n, .int c, .int l, .int r])) := same_upd ntp
      have et : (upd H tp (.tup [.str n, .int c, .int l, .int r])) tp = some (.tup [.str n, .int c, .int l, .int r]) := upd_same
      rw [show cutV (.str (dW (.tre n c l r)) :: dR (.tre n c l r)) (some 1) (some 5) = [.str n, .int c, .int l, .int r] from rfl]
      generalize upd H tp (.tup [.str n, .int c, .int l, .int r]) = H1 at s1 et ⊢
      refine ⟨tp, _, rfl, SqT.of et, rfl, _, _, rfl, _, _, rfl, _, _, rfl, _, _, rfl, rfl, ?_⟩
      refine ⟨_, rfl, a, _, _, _, rfl, rfl, SqT.of (s1 _ _ ha), dR0 _, rfl, .inr ⟨_, rfl, ?_⟩⟩
      have e0 : decide (V.str (dW (.tre n c l r)) = V.str "board") = false := decide_eq_false (by
        intro z
        have := V.str.inj z
        revert this
        show ¬ (("trestle" : Str) = "board")
        decide +kernel)
      rw [e0]
      refine ⟨_, rfl, _, rfl, B, Y, a, .tre n c l r, 6, rfl, hm.keep s1, s1 _ _ ha, rfl, hz, fun H2 p h f s2 ep ph pf => ?_⟩
      refine ⟨p, _, rfl, SqT.of ep, rfl, _, _, rfl, _, _, rfl, rfl, ?_⟩
      have s12 := s1.trans s2
      dsimp only [tSeq, tAsg]
      refine tor (decide (l < -1000000)) (decide (1000000 < r) || decide (r - l < 0)) (fun Q' z => ⟨_, rfl, _, rfl, _, _, rfl, rfl, z⟩) (fun Q' z => tor (decide (1000000 < r)) (decide (r - l < 0)) (fun Q' z => ⟨_, rfl, _, _, rfl, rfl, z⟩) (fun Q' z => ⟨_, rfl, _, rfl, _, _, rfl, rfl, _, rfl, _, _, rfl, rfl, z⟩) z) ?_
      -- row
      obtain ⟨vh, eh, pdh⟩ := ph
      obtain ⟨vf, ef, pdf⟩ := pf
      refine ⟨_, rfl, ?_⟩
      dsimp only [tLst, tCons, tTup]
      refine tor (decide (c < 1)) (decide (9 < c)) (fun Q' z => ⟨_, rfl, _, _, rfl, rfl, z⟩) (fun Q' z => ⟨_, rfl, _, _, rfl, rfl, z⟩) ?_
      refine ⟨by show 2 ≤ sizeLine; decide, fun t1 n1 => ?_⟩
      have sa : Same H2 (upd H2 t1 (.tup [.bl (badC c), .str "BadCourse"])) := same_upd n1
      have ea : (upd H2 t1 (.tup [.bl (badC c), .str "BadCourse"])) t1 = some (.tup [.bl (badC c), .str "BadCourse"]) := upd_same
      generalize hHa : upd H2 t1 (.tup [.bl (badC c), .str "BadCourse"]) = Ha at sa ea
      rw [show upd H2 t1 (.tup [.bl (decide (c < 1) || decide (9 < c)), .str "BadCourse"]) = Ha from hHa]
      refine ⟨_, rfl, by show 2 ≤ sizeLine; decide, fun t2 n2 => ?_⟩
      have sb : Same Ha (upd Ha t2 (.tup [.bl (badP l r 0), .str "BadPlace"])) := same_upd n2
      have eb : (upd Ha t2 (.tup [.bl (badP l r 0), .str "BadPlace"])) t2 = some (.tup [.bl (badP l r 0), .str "BadPlace"]) := upd_same
      generalize hHb : upd Ha t2 (.tup [.bl (badP l r 0), .str "BadPlace"]) = Hb at sb eb
      rw [show upd Ha t2 (.tup [.bl (decide (l < -1000000) || (decide (1000000 < r) || decide (r - l < 0))), .str "BadPlace"]) = Hb from hHb]
      refine ⟨by show 2 ≤ sizeLine; decide, fun l1 m1 => ?_⟩
      have sc : Same Hb (upd Hb l1 (.lst [.ref t1, .ref t2])) := same_upd m1
      have ec1 : (upd Hb l1 (.lst [.ref t1, .ref t2])) l1 = some (.lst [.ref t1, .ref t2]) := upd_same
      generalize upd Hb l1 (.lst [.ref t1, .ref t2]) = Hc at sc ec1 ⊢
      have lh : 2 = vh.length := Paired.length pdh
      have s2c : Same H2 Hc := sa.trans (sb.trans sc)
      refine ⟨h, l1, vh, _, rfl, rfl, s2c _ _ eh, ec1, sm (by simp only [List.length_cons, List.length_nil]; omega), fun rw_ nr => ?_⟩
      have sd : Same Hc (upd Hc rw_ (.lst (vh ++ [.ref t1, .ref t2]))) := same_upd nr
      have ed : (upd Hc rw_ (.lst (vh ++ [.ref t1, .ref t2]))) rw_ = some (.lst (vh ++ [.ref t1, .ref t2])) := upd_same
      have nf : f ≠ rw_ := ne_of_none (s2c _ _ ef) nr
      have nn : Hc rw_ = none := nr
      generalize upd Hc rw_ (.lst (vh ++ [.ref t1, .ref t2])) = Hd at sd ed ⊢
      have s2d : Same H2 Hd := s2c.trans sd
      have pr : Paired (PR Hd) ([wd (!isName n) "BadName", wd (taken Y n) "Taken"] ++ [wd (badC c) "BadCourse", wd (badP l r 0) "BadPlace"]) (vh ++ [.ref t1, .ref t2]) :=
        prs_app (prs_keep (.of s2d) pdh) (.cons (show PR Hd (wd (badC c) "BadCourse") (.ref t1) from ⟨t1, rfl, sd _ _ (sc _ _ (sb _ _ ea))⟩) (.cons (show PR Hd (wd _ "BadPlace") (.ref t2) from ⟨t2, rfl, sd _ _ (sc _ _ eb)⟩) .nil))
      refine ⟨_, rfl, rfl, _, rfl, ite2 (fun e => ?_) (fun e => ?_)⟩
      · have z := V.int.inj (of_decide_eq_true e)
        simp at z
      · refine tail_ok (hm.keep (s12.trans s2d)) gd ed (s2d _ _ ef) pr (prs_keep (.of s2d) pdf) (by show 4 ≤ 10; decide) (fun H' s' => ?_)
        have z := q H' (s12.trans (s2d.trans s'))
        rw [show fault Y (.tre n c l r) = faultT Y n c l r from rfl, ← firstT] at z
        exact z
    | boa n c l r g =>
      refine ⟨_, rfl, 1, rfl, 5, rfl, a, _, rfl, SqT.of ha, fun z => (by cases z.1), fun tp ntp => ?_⟩
      have s1 : Same H (upd H tp (.tup [.str n, .int c, .int l, .int r])) := same_upd ntp
      have et : (upd H tp (.tup [.str n, .int c, .int l, .int r])) tp = some (.tup [.str n, .int c, .int l, .int r]) := upd_same
      rw [show cutV (.str (dW (.boa n c l r g)) :: dR (.boa n c l r g)) (some 1) (some 5) = [.str n, .int c, .int l, .int r] from rfl]
      generalize upd H tp (.tup [.str n, .int c, .int l, .int r]) = H1 at s1 et ⊢
      refine ⟨tp, _, rfl, SqT.of et, rfl, _, _, rfl, _, _, rfl, _, _, rfl, _, _, rfl, rfl, ?_⟩
      refine ⟨_, rfl, a, _, _, _, rfl, rfl, SqT.of (s1 _ _ ha), dR0 _, rfl, .inr ⟨_, rfl, ?_⟩⟩
      have e0 : decide (V.str (dW (.boa n c l r g)) = V.str "board") = true := decide_eq_true rfl
      rw [e0]
      refine ⟨_, rfl, _, rfl, B, Y, a, .boa n c l r g, 6, rfl, hm.keep s1, s1 _ _ ha, rfl, hz, fun H2 p h f s2 ep ph pf => ?_⟩
      refine ⟨p, _, rfl, SqT.of ep, rfl, _, _, rfl, _, _, rfl, rfl, ?_⟩
      have s12 := s1.trans s2
      dsimp only [tSeq, tAsg]
      refine tor (decide (l < -1000000)) (decide (1000000 < r) || decide (r - l < 1)) (fun Q' z => ⟨_, rfl, _, rfl, _, _, rfl, rfl, z⟩) (fun Q' z => tor (decide (1000000 < r)) (decide (r - l < 1)) (fun Q' z => ⟨_, rfl, _, _, rfl, rfl, z⟩) (fun Q' z => ⟨_, rfl, _, rfl, _, _, rfl, rfl, _, rfl, _, _, rfl, rfl, z⟩) z) ?_
      -- row
      obtain ⟨vh, eh, pdh⟩ := ph
      obtain ⟨vf, ef, pdf⟩ := pf
      refine ⟨_, rfl, ?_⟩
      dsimp only [tLst, tCons, tTup]
      refine tor (decide (c < 1)) (decide (9 < c)) (fun Q' z => ⟨_, rfl, _, _, rfl, rfl, z⟩) (fun Q' z => ⟨_, rfl, _, _, rfl, rfl, z⟩) ?_
      refine ⟨by show 2 ≤ sizeLine; decide, fun t1 n1 => ?_⟩
      have sa : Same H2 (upd H2 t1 (.tup [.bl (badC c), .str "BadCourse"])) := same_upd n1
      have ea : (upd H2 t1 (.tup [.bl (badC c), .str "BadCourse"])) t1 = some (.tup [.bl (badC c), .str "BadCourse"]) := upd_same
      generalize hHa : upd H2 t1 (.tup [.bl (badC c), .str "BadCourse"]) = Ha at sa ea
      rw [show upd H2 t1 (.tup [.bl (decide (c < 1) || decide (9 < c)), .str "BadCourse"]) = Ha from hHa]
      refine ⟨_, rfl, by show 2 ≤ sizeLine; decide, fun t2 n2 => ?_⟩
      have sb : Same Ha (upd Ha t2 (.tup [.bl (badP l r 1), .str "BadPlace"])) := same_upd n2
      have eb : (upd Ha t2 (.tup [.bl (badP l r 1), .str "BadPlace"])) t2 = some (.tup [.bl (badP l r 1), .str "BadPlace"]) := upd_same
      generalize hHb : upd Ha t2 (.tup [.bl (badP l r 1), .str "BadPlace"]) = Hb at sb eb
      rw [show upd Ha t2 (.tup [.bl (decide (l < -1000000) || (decide (1000000 < r) || decide (r - l < 1))), .str "BadPlace"]) = Hb from hHb]
      refine ⟨by show 2 ≤ sizeLine; decide, fun l1 m1 => ?_⟩
      have sc : Same Hb (upd Hb l1 (.lst [.ref t1, .ref t2])) := same_upd m1
      have ec1 : (upd Hb l1 (.lst [.ref t1, .ref t2])) l1 = some (.lst [.ref t1, .ref t2]) := upd_same
      generalize upd Hb l1 (.lst [.ref t1, .ref t2]) = Hc at sc ec1 ⊢
      have lh : 2 = vh.length := Paired.length pdh
      have s2c : Same H2 Hc := sa.trans (sb.trans sc)
      refine ⟨h, l1, vh, _, rfl, rfl, s2c _ _ eh, ec1, sm (by simp only [List.length_cons, List.length_nil]; omega), fun rw_ nr => ?_⟩
      have sd : Same Hc (upd Hc rw_ (.lst (vh ++ [.ref t1, .ref t2]))) := same_upd nr
      have ed : (upd Hc rw_ (.lst (vh ++ [.ref t1, .ref t2]))) rw_ = some (.lst (vh ++ [.ref t1, .ref t2])) := upd_same
      have nf : f ≠ rw_ := ne_of_none (s2c _ _ ef) nr
      have nn : Hc rw_ = none := nr
      generalize upd Hc rw_ (.lst (vh ++ [.ref t1, .ref t2])) = Hd at sd ed ⊢
      have s2d : Same H2 Hd := s2c.trans sd
      have pr : Paired (PR Hd) ([wd (!isName n) "BadName", wd (taken Y n) "Taken"] ++ [wd (badC c) "BadCourse", wd (badP l r 1) "BadPlace"]) (vh ++ [.ref t1, .ref t2]) :=
        prs_app (prs_keep (.of s2d) pdh) (.cons (show PR Hd (wd (badC c) "BadCourse") (.ref t1) from ⟨t1, rfl, sd _ _ (sc _ _ (sb _ _ ea))⟩) (.cons (show PR Hd (wd _ "BadPlace") (.ref t2) from ⟨t2, rfl, sd _ _ (sc _ _ eb)⟩) .nil))
      refine ⟨_, rfl, rfl, _, rfl, ite2 (fun e => ?_) (fun e => ?_)⟩
      · have at5 : atI (.str (dW (.boa n c l r g)) :: dR (.boa n c l r g) : List V) (5 : Int) = some (.int g) := atI_nat (j := 5) rfl
        have had := s12.trans s2d _ _ ha
        refine ⟨_, rfl, .inl ⟨rfl, _, SqL.of ed⟩, ?_⟩
        dsimp only [tCons, tTup]
        refine tor (decide (g < 1)) (decide (1000000000 < g)) (fun Q' z => ⟨_, rfl, a, _, _, _, rfl, rfl, SqT.of had, at5, _, _, rfl, rfl, z⟩) (fun Q' z => ⟨_, rfl, a, _, _, _, rfl, rfl, SqT.of had, at5, _, _, rfl, rfl, z⟩) ?_
        refine ⟨by show 2 ≤ sizeLine; decide, fun t3 n3 => ?_⟩
        have se : Same Hd (upd Hd t3 (.tup [.bl (badW g), .str "BadWeight"])) := same_upd n3
        have ee : (upd Hd t3 (.tup [.bl (badW g), .str "BadWeight"])) t3 = some (.tup [.bl (badW g), .str "BadWeight"]) := upd_same
        generalize hHe : upd Hd t3 (.tup [.bl (badW g), .str "BadWeight"]) = He at se ee
        rw [show upd Hd t3 (.tup [.bl (decide (g < 1) || decide (1000000000 < g)), .str "BadWeight"]) = He from hHe]
        refine ⟨rw_, _, _, rfl, rfl, se _ _ ed, small1000 (by simp only [List.length_append, List.length_cons, List.length_nil]; omega), ?_⟩
        have ts : TS He (upd He rw_ (.lst (vh ++ [.ref t1, .ref t2] ++ [.ref t3]))) := .upd fun xs z => by rw [se _ _ ed] at z; cases z
        have s2e : Same H2 (upd He rw_ (.lst (vh ++ [.ref t1, .ref t2] ++ [.ref t3]))) := fun p o z => by
          rw [upd_ne (ne_of_none (s2c _ _ z) nn)]
          exact se _ _ (s2d _ _ z)
        refine tail_ok (ps := [wd (!isName n) "BadName", wd (taken Y n) "Taken"] ++ [wd (badC c) "BadCourse", wd (badP l r 1) "BadPlace"] ++ [wd (badW g) "BadWeight"]) (hm.keep (s12.trans s2e)) gd upd_same (s2e _ _ ef) (prs_app (prs_keep ((TS.of se).trans ts) pr) (.cons (show PR _ (wd (badW g) "BadWeight") (.ref t3) from ⟨t3, rfl, ts _ _ ee⟩) .nil)) (prs_keep (.of s2e) pdf) (by show 5 ≤ 10; decide) (fun H' s' => ?_)
        have z := q H' (s12.trans (s2e.trans s'))
        rw [show fault Y (.boa n c l r g) = faultB Y n c l r g from rfl, ← firstB] at z
        exact z
      · exact absurd (decide_eq_true rfl) e
    | _ => cases hlk
end
end DY
namespace DY
open PySem PySem.Spec PyProof.Rows L2
abbrev s__law_corded : Stmt := topS 73
abbrev N__law_corded : List Str := ["_law_m", "_law_name", "_law_row"]
theorem sc__law_corded : FnScope N__law_corded ["_law_m", "_law_name"] (defScope s__law_corded) := ⟨rfl, rfl, rfl, by decide +kernel, rfl, by decide +kernel, by decide +kernel⟩
abbrev s__law_shift_fault : Stmt := topS 74
abbrev N__law_shift_fault : List Str := ["_law_m", "_law_deed", "_law_thing_here", "_law_sacked", "_law_course", "_law_left", "_law_right", "_law_bad", "_law_pairs", "_law_row"]
theorem sc__law_shift_fault : FnScope N__law_shift_fault ["_law_m", "_law_deed"] (defScope s__law_shift_fault) := ⟨rfl, rfl, rfl, by decide +kernel, rfl, by decide +kernel, by decide +kernel⟩
abbrev s__law_off : Stmt := topS 75
abbrev N__law_off : List Str := ["_law_m", "_law_board", "_law_place"]
theorem sc__law_off : FnScope N__law_off ["_law_m", "_law_board", "_law_place"] (defScope s__law_off) := ⟨rfl, rfl, rfl, by decide +kernel, rfl, by decide +kernel, by decide +kernel⟩
abbrev s__law_sack_fault : Stmt := topS 76
abbrev N__law_sack_fault : List Str := ["_law_m", "_law_deed", "_law_row", "_law_full", "_law_word", "_law_board", "_law_place"]
theorem sc__law_sack_fault : FnScope N__law_sack_fault ["_law_m", "_law_deed"] (defScope s__law_sack_fault) := ⟨rfl, rfl, rfl, by decide +kernel, rfl, by decide +kernel, by decide +kernel⟩
abbrev s__law_cord_fault : Stmt := topS 77
abbrev N__law_cord_fault : List Str := ["_law_m", "_law_deed", "_law_head", "_law_full", "_law_name", "_law_upper", "_law_lower", "_law_place", "_law_lacks", "_law_word", "_law_both", "_law_level", "_law_off_here", "_law_one"]
theorem sc__law_cord_fault : FnScope N__law_cord_fault ["_law_m", "_law_deed"] (defScope s__law_cord_fault) := ⟨rfl, rfl, rfl, by decide +kernel, rfl, by decide +kernel, by decide +kernel⟩
structure L01 (K : PySem.W.Frag) (mg : Str → Option Value) extends L0 K mg where
  d__law_corded : DefF K mg "_law_corded" s__law_corded ["_law_m", "_law_name"]
  d__law_shift_fault : DefF K mg "_law_shift_fault" s__law_shift_fault ["_law_m", "_law_deed"]
  d__law_off : DefF K mg "_law_off" s__law_off ["_law_m", "_law_board", "_law_place"]
  d__law_sack_fault : DefF K mg "_law_sack_fault" s__law_sack_fault ["_law_m", "_law_deed"]
  d__law_cord_fault : DefF K mg "_law_cord_fault" s__law_cord_fault ["_law_m", "_law_deed"]
theorem unl_same {H H' : Hp} {a : Addr} {x y : HO} (e : H a = some y) (s : Same (upd H a x) H') : Same H (upd H' a y) := fun b o h => by
  by_cases z : b = a
  · rw [z, upd_same, ← e, ← z]
    exact h
  · rw [upd_ne z]
    exact s _ _ (by rw [upd_ne z]; exact h)
theorem nm_of {α : Type} {H : Hp} {B : MA} {Y : Yd} {a : Addr} {f : Str → α → List V} {kvs : List (Key × V)} {T : List (Str × α)} (hm : IsM B H Y) (e : H a = some (.dK kvs)) (r : Rows H f kvs T) : B.m ≠ a := by
  intro z
  have e1 := hm.ob
  rw [z, e] at e1
  have e2 : kvs = kvM B := by
    have := Option.some.inj e1
    cases this
    rfl
  rw [e2] at r
  obtain ⟨k1, et, _⟩ := hm.tr
  cases r with
  | cons h _ =>
    rw [et] at h
    cases h
theorem tand {ta tb : TE} {σ : L2.St} {H : Hp} {Q : VK} (p q : Bool) (h1 : ∀ Q' : VK, Q' (.bl p) H → ta σ H Q') (h2 : p = true → ∀ Q' : VK, Q' (.bl q) H → tb σ H Q') (h : Q (.bl (p && q)) H) : tAndV ta tb σ H Q := by
  refine h1 _ ⟨p, rfl, ?_⟩
  cases p
  · rw [if_neg Bool.false_ne_true]
    exact h
  · rw [if_pos rfl]
    exact h2 rfl _ h
/-- a frozen dict behind -/
structure Lk (H Hf : Hp) (a : Addr) (od : Obj) (kvs : List (Key × V)) : Prop where
  at_ : Hf a = some (.frz od (.dK kvs))
  ts : TS H Hf
  ne : ∀ b o, H b = some o → b ≠ a → Hf b = some o
  un : ∀ H', Same Hf H' → Same H (upd H' a (.dK kvs))
theorem lk_of {H : Hp} {a : Addr} {od : Obj} {kvs : List (Key × V)} (e : H a = some (.dK kvs)) : Lk H (upd H a (.frz od (.dK kvs))) a od kvs :=
  ⟨upd_same, .upd fun xs z => (by rw [e] at z; cases z), fun b o h n => (by rw [upd_ne n]; exact h), fun H' s => unl_same e s⟩
section
variable {P : Program} {w : World} {K : PySem.W.Frag} {mg : Str → Option Value} {base : Heap}
def spLCd : Sp := fun vs H Q _ => ∃ (A : MA) (Y : Yd) (n : Str), vs = [.ref A.m, .str n] ∧ IsM A H Y ∧ ∀ H', Same H H' → Q (.bl (corded Y n)) H'
theorem ok_lcorded (T : L01 K mg) : FnOk P w K mg base CX0 1 T.d__law_corded.a T.d__law_corded.d ["_law_m", "_law_name"] spLCd := by
  refine T.d__law_corded.F.ok sc__law_corded (fun vs H Q E h => ?_) (fun cdv A outer s H vs Q E hr h => ?_)
  · obtain ⟨_, _, _, rfl, _⟩ := h
    rfl
  · obtain ⟨B, Y, n, rfl, hm, q⟩ := h
    have hu := hu_of hr
    obtain ⟨k4, e4, r4⟩ := hm.co
    refine ⟨_, pss_one (ps_ret (pe_callB (cr_any rfl) (by rfl) T.n_any (by decide +kernel) (pa_cons (pe_lock (pe_lc (own := [("_law_row", 2)]) (g := (gName 2)) (tt := tYes) (by rfl) sc__law_corded.nd (pi_values (pe_dget hu (pv 0) pe_str (fun _ _ => rfl))) (blkOk_by (N := N__law_corded) (sc := defScope s__law_corded) (by decide +kernel)) (fun _ _ _ _ _ => (pg_name (i := 2) sc__law_corded.nd rfl (Or.inl rfl))) (fun _ _ _ _ _ => pts_nil) (fun _ _ _ _ _ => (pe_cmpR (r := rIn K false) op_in_seq (pv 1) (pe_slice (r := rSlT K) sl_tup (pv 2) po_none (po_some pe_int)) (by rfl))))) pa_nil))), ?_⟩
    refine ⟨B.c, .dK k4, e4, trivial, fun od => ?_⟩
    have nmc := nm_of hm e4 r4
    have lk := lk_of (od := od) e4
    generalize upd H B.c (.frz od (.dK k4)) = Hf at lk ⊢
    refine ⟨_, rfl, B.m, _, rfl, dget (lk.ne _ _ hm.ob nmc) (vc B), B.c, od, k4, rfl, lk.at_, fun D nD => ?_⟩
    have kl := r4.len
    have le := hm.le
    refine lc_it walk_values (fun i H' => Same Hf H' ∧ H' D = some (.lst (((Y.co.take i).map fun q => V.bl (decide (q.2.1 = n) || decide (q.2.2.1 = n)))))) ⟨same_upd nD, upd_same⟩ (fun i H' _ p => p.1 _ _ lk.at_) (fun i x H1 H2 hi p hy => ?_) (fun H' p => ?_)
    · obtain ⟨p1, p2⟩ := p
      obtain ⟨rfl, key, hk⟩ := hy
      obtain ⟨pr, m, a, rfl, ha, ep⟩ := r4.at i x (by rw [List.getElem?_map, hk]; rfl)
      have ep' := p1 _ _ (lk.ts _ _ ep)
      refine ⟨rfl, yes (iteT ?_)⟩
      refine ⟨_, rfl, _, rfl, 2, rfl, pr, _, rfl, SqT.of ep', (by intro z; cases z.2), fun tp ntp => ?_⟩
      rw [show cutV (coL m a) none (some 2) = [.str a.1, .str a.2.1] from rfl]
      have s3 := same_upd (o := .tup [.str a.1, .str a.2.1]) ntp
      refine ⟨tp, _, rfl, .inr (SqT.of upd_same), rfl, rfl, ?_⟩
      have ev : (if false = true then !inV (.str n) [.str a.1, .str a.2.1] else inV (.str n) [.str a.1, .str a.2.1]) = (decide (a.1 = n) || decide (a.2.1 = n)) := by
        rw [if_neg Bool.false_ne_true]
        show ((a.1 == n) || ((a.2.1 == n) || false)) = _
        rw [Bool.or_false]
        rfl
      rw [ev]
      refine ⟨_, s3 _ _ p2, ?_, ?_, ?_⟩
      · rw [List.length_map, List.length_take]
        exact small1000 (by omega)
      · intro b o e
        rw [upd_ne (ne_of_none e nD)]
        exact s3 _ _ (p1 _ _ e)
      · rw [upd_same, List.take_add_one, ha, List.map_append]
        rfl
    · obtain ⟨p1, p2⟩ := p
      rw [kl, List.take_length] at p2
      have nDc : D ≠ B.c := fun z => by rw [z, lk.at_] at nD; cases nD
      refine ⟨p1 _ _ lk.at_, D, Y.co.map (fun q => decide (q.2.1 = n) || decide (q.2.2.1 = n)), rfl, SqL.of ?_, ?_⟩
      · rw [upd_ne nDc, p2, List.map_map]
        rfl
      · have e0 : (Y.co.map (fun q => decide (q.2.1 = n) || decide (q.2.2.1 = n))).any id = corded Y n := by
          unfold corded
          rw [List.any_map]
          rfl
        rw [e0]
        exact q _ (lk.un _ p1)
def spOff : Sp := fun vs H Q _ => ∃ (A : MA) (Y : Yd) (b : Str) (p : Int) (x : BoR), vs = [.ref A.m, .str b, .int p] ∧ IsM A H Y ∧ getT Y.bo b = some x ∧ Q (.bl (!(decide (x.2.1 ≤ p) && decide (p ≤ x.2.2.1)))) H
theorem ok_off (T : L01 K mg) : FnOk P w K mg base CX0 1 T.d__law_off.a T.d__law_off.d ["_law_m", "_law_board", "_law_place"] spOff := by
  refine T.d__law_off.F.ok sc__law_off (fun vs H Q E h => ?_) (fun cdv A outer s H vs Q E hr h => ?_)
  · obtain ⟨_, _, _, _, _, rfl, _⟩ := h
    rfl
  · obtain ⟨B, Y, b, p, x, rfl, hm, hx, q⟩ := h
    have hu := hu_of hr
    obtain ⟨k2, e2, r2⟩ := hm.bo
    refine ⟨_, pss_one (ps_ret (pe_not (pe_chain op_le op_le (pe_ix ix_tup (pe_dget hu (pe_dget hu (pv 0) pe_str (fun _ _ => rfl)) (pv 1) (fun _ _ => rfl)) pe_int (fun _ _ => rfl)) (pv 2) (pe_ix ix_tup (pe_dget hu (pe_dget hu (pv 0) pe_str (fun _ _ => rfl)) (pv 1) (fun _ _ => rfl)) pe_int (fun _ _ => rfl))))), ?_⟩
    rcases r2.get b with ⟨_, z⟩ | ⟨pr, x', hv, hx', ep⟩
    · rw [hx] at z
      cases z
    · obtain rfl : x' = x := by rw [hx] at hx'; exact (Option.some.inj hx').symm
      have at1 : atI (boL b x' : List V) (1 : Int) = some (.int x'.2.1) := atI_nat (j := 1) rfl
      have at2 : atI (boL b x' : List V) (2 : Int) = some (.int x'.2.2.1) := atI_nat (j := 2) rfl
      refine ⟨_, rfl, B.m, _, rfl, dget hm.ob (vb B), _, rfl, B.b, _, rfl, dget e2 hv, pr, _, _, _, rfl, rfl, SqT.of ep, at1, _, rfl, _, _, rfl, rfl, _, rfl, ite2 (fun e => ?_) (fun e => ?_)⟩
      · refine ⟨_, rfl, B.m, _, rfl, dget hm.ob (vb B), _, rfl, B.b, _, rfl, dget e2 hv, pr, _, _, _, rfl, rfl, SqT.of ep, at2, _, _, rfl, rfl, _, rfl, ?_⟩
        rw [show decide (x'.2.1 ≤ p) = true from e, Bool.true_and] at q
        exact q
      · rw [show decide (x'.2.1 ≤ p) = false from Bool.eq_false_iff.mpr e, Bool.false_and] at q
        exact ⟨_, rfl, q⟩
end
end DY
namespace DY
open PySem PySem.Spec PyProof.Rows L2
structure Fit (Y : Yd) : Prop where
  tr : ∀ q ∈ Y.tr, isPlace q.2.2.1 = true ∧ isPlace q.2.2.2 = true ∧ q.2.2.1 ≤ q.2.2.2
  bo : ∀ q ∈ Y.bo, q.1 ≠ "" ∧ isCourse q.2.1 = true ∧ isPlace q.2.2.1 = true ∧ isPlace q.2.2.2.1 = true ∧ q.2.2.1 ≤ q.2.2.2.1
theorem decide_str (x y : Str) : decide (V.str x = V.str y) = decide (x = y) := by
  by_cases h : x = y
  · rw [decide_eq_true h, decide_eq_true (by rw [h])]
  · rw [decide_eq_false h, decide_eq_false (fun z => h (V.str.inj z))]
theorem torH {ta tb : TE} {σ : L2.St} {H : Hp} {Q : VK} (p q : Bool) (h1 : ∀ Q' : VK, Q' (.bl p) H → ta σ H Q') (h2 : ∀ Q' : VK, (∀ H', Same H H' → Q' (.bl q) H') → tb σ H Q') (h : ∀ H', Same H H' → Q (.bl (p || q)) H') : tOrV ta tb σ H Q := by
  refine h1 _ ⟨p, rfl, ?_⟩
  cases p
  · rw [if_neg Bool.false_ne_true]
    exact h2 _ h
  · rw [if_pos rfl]
    exact h H (Same.refl H)
theorem get_mem {α : Type} {T : List (Str × α)} {n : Str} {x : α} (h : getT T n = some x) : (n, x) ∈ T := by
  unfold getT at h
  cases e : T.find? (fun q => decide (q.1 = n)) with
  | none => rw [e] at h; cases h
  | some q =>
    rw [e] at h
    have h1 := List.mem_of_find?_eq_some e
    have h2 : q.1 = n := by simpa using List.find?_some e
    have h3 : q.2 = x := Option.some.inj h
    rw [← h2, ← h3]
    exact h1
theorem thing_fit {Y : Yd} (ft : Fit Y) {n : Str} {x : Int × Int × Int} (h : thingY Y n = some x) : isPlace x.2.1 = true ∧ isPlace x.2.2 = true ∧ x.2.1 ≤ x.2.2 := by
  unfold thingY at h
  cases e : getT Y.tr n with
  | some y =>
    rw [e] at h
    cases h
    exact ft.tr _ (get_mem e)
  | none =>
    rw [e] at h
    cases e2 : getT Y.bo n with
    | none => rw [e2] at h; cases h
    | some y =>
      rw [e2] at h
      cases h
      obtain ⟨_, _, a, b, c⟩ := ft.bo _ (get_mem e2)
      exact ⟨a, b, c⟩
def prsAl (Y : Yd) (n : Str) (c l r : Int) : List (Bool × Str) := [(decide (l < -1000000) || decide (1000000 < r), "BadPlace"), (corded Y n, "InUse"), (crowd Y n c l r, "Crowded")]
theorem firstAl {Y : Yd} (ft : Fit Y) {n : Str} {x : Int × Int × Int} {k : Int} (h : thingY Y n = some x) : firstW (prsAl Y n x.1 (x.2.1 + k) (x.2.2 + k)) = erW (faultAl Y n k) := by
  obtain ⟨_, _, le⟩ := thing_fit ft h
  have e : (decide (x.2.1 + k < -1000000) || decide (1000000 < x.2.2 + k)) = !(isPlace (x.2.1 + k) && isPlace (x.2.2 + k)) := by
    unfold isPlace
    rw [Bool.eq_iff_iff]
    simp only [Bool.or_eq_true, decide_eq_true_eq, Bool.not_eq_true', Bool.and_eq_false_iff, decide_eq_false_iff_not]
    omega
  unfold prsAl faultAl
  rw [h, e]
  dsimp only
  cases h1 : (isPlace (x.2.1 + k) && isPlace (x.2.2 + k)) <;> simp [firstW, erW, erS]
  cases h2 : corded Y n <;> simp [firstW, erW, erS]
  cases h3 : crowd Y n x.1 (x.2.1 + k) (x.2.2 + k) <;> simp [firstW, erW, erS]
section
variable {P : Program} {w : World} {K : PySem.W.Frag} {mg : Str → Option Value} {base : Heap}
def shK : Deed → Bool
  | .awa .. => true
  | .alo .. => true
  | _ => false
def spShF : Sp := fun vs H Q _ => ∃ (A : MA) (Y : Yd) (a : Addr) (d : Deed), vs = [.ref A.m, .ref a] ∧ IsM A H Y ∧ Gd Y ∧ Fit Y ∧ H a = some (.tup (.str (dW d) :: dR d)) ∧ shK d = true ∧ ∀ H', Same H H' → Q (.str (erW (fault Y d))) H'
theorem ok_shift_fault (T : L01 K mg) : FnOk P w K mg base CX0 3 T.d__law_shift_fault.a T.d__law_shift_fault.d ["_law_m", "_law_deed"] spShF := by
  have G__law_thing : FnOk P w K mg base CX0 1 T.d__law_thing.a T.d__law_thing.d ["_law_m", "_law_name"] spThing2 := ok_thing2 T.toL0
  have G__law_corded : FnOk P w K mg base CX0 1 T.d__law_corded.a T.d__law_corded.d ["_law_m", "_law_name"] spLCd := ok_lcorded T
  have G__law_crowds : FnOk P w K mg base CX0 2 T.d__law_crowds.a T.d__law_crowds.d ["_law_m", "_law_name", "_law_course", "_law_left", "_law_right"] spCrowds := ok_crowds T.toL0
  have G__law_first : FnOk P w K mg base CX0 1 T.d__law_first.a T.d__law_first.d ["_law_pairs"] spFirst := ok_first T.toL0
  refine T.d__law_shift_fault.F.ok sc__law_shift_fault (fun vs H Q E h => ?_) (fun cdv A outer s H vs Q E hr h => ?_)
  · obtain ⟨_, _, _, _, rfl, _⟩ := h
    rfl
  · obtain ⟨B, Y, a, d, rfl, hm, gd, ft, ha, hk, q⟩ := h
    have hu := hu_of hr
    refine ⟨_, pss_cons (ps_set (i := 2) sc__law_shift_fault.nd rfl (Or.inl rfl) (pe_call G__law_thing (hr.mono (by decide)) (by rfl) T.d__law_thing.g T.d__law_thing.F.kp T.d__law_thing.b .nil pass0 (pa_cons (pv 0) (pa_cons (pe_ix ix_tup (pv 1) pe_int (fun _ _ => rfl)) pa_nil))))
      (pss_cons (ps_if (pt_cmpR op_isN (pv 2) pe_non (nomark _)) (pss_one (ps_ret pe_str)) pss_nil)
      (pss_cons (ps_if (pt_cmpR op_eq (pe_ix ix_tup (pv 1) pe_int (fun _ _ => rfl)) pe_str (nomark _)) (pss_cons (ps_set (i := 3) sc__law_shift_fault.nd rfl (Or.inl rfl) (pe_callB (cr_any rfl) (by rfl) T.n_any (by decide +kernel) (pa_cons (pe_lock (pe_lc (own := [("_law_row", 9)]) (g := (gName 9)) (tt := tYes) (by rfl) sc__law_shift_fault.nd (pi_values (pe_dget hu (pv 0) pe_str (fun _ _ => rfl))) (blkOk_by (N := N__law_shift_fault) (sc := defScope s__law_shift_fault) (by decide +kernel)) (fun _ _ _ _ _ => (pg_name (i := 9) sc__law_shift_fault.nd rfl (Or.inl rfl))) (fun _ _ _ _ _ => pts_nil) (fun _ _ _ _ _ => (pe_cmpR op_eq (pe_ix (r := rIxT K) ix_tup (pv 9) pe_int (fun _ _ => rfl)) (pe_ix (r := rIxT K) ix_tup (pv 1) pe_int (fun _ _ => rfl)) (nomark _))))) pa_nil)))
      (pss_one (ps_ret (pe_call G__law_first (hr.mono (by decide)) (by rfl) T.d__law_first.g T.d__law_first.F.kp T.d__law_first.b .nil pass0 (pa_cons (pe_lst (pa_cons (pe_tup (pa_cons (pe_or (pv 3) (pe_one (pe_call G__law_corded (hr.mono (by decide)) (by rfl) T.d__law_corded.g T.d__law_corded.F.kp T.d__law_corded.b .nil pass0 (pa_cons (pv 0) (pa_cons (pe_ix ix_tup (pv 1) pe_int (fun _ _ => rfl)) pa_nil))))) (pa_cons pe_str pa_nil))) pa_nil)) pa_nil))))) pss_nil)
      (pss_cons (ps_par3 (i := 4) (j := 5) (l := 6) (by rfl) sc__law_shift_fault.nd rfl rfl rfl (by decide) (by decide) (by decide) rfl rfl rfl (pa_cons (pe_ix ix_tup (pv 2) pe_int (fun _ _ => rfl)) (pa_cons (pe_op op_add (pe_ix ix_tup (pv 2) pe_int (fun _ _ => rfl)) (pe_ix ix_tup (pv 1) pe_int (fun _ _ => rfl))) (pa_cons (pe_op op_add (pe_ix ix_tup (pv 2) pe_int (fun _ _ => rfl)) (pe_ix ix_tup (pv 1) pe_int (fun _ _ => rfl))) pa_nil))) (by rfl))
      (pss_cons (ps_set (i := 7) sc__law_shift_fault.nd rfl (Or.inl rfl) (pe_or (pe_cmpR op_lt (pv 5) (pe_un un_neg pe_int) (nomark _)) (pe_one (pe_cmpR op_gt (pv 6) pe_int (nomark _)))))
      (pss_cons (ps_set (i := 8) sc__law_shift_fault.nd rfl (Or.inl rfl) (pe_lst (pa_cons (pe_tup (pa_cons (pv 7) (pa_cons pe_str pa_nil))) (pa_cons (pe_tup (pa_cons (pe_call G__law_corded (hr.mono (by decide)) (by rfl) T.d__law_corded.g T.d__law_corded.F.kp T.d__law_corded.b .nil pass0 (pa_cons (pv 0) (pa_cons (pe_ix ix_tup (pv 1) pe_int (fun _ _ => rfl)) pa_nil))) (pa_cons pe_str pa_nil))) pa_nil))))
      (pss_one (ps_ret (pe_call G__law_first (hr.mono (by decide)) (by rfl) T.d__law_first.g T.d__law_first.F.kp T.d__law_first.b .nil pass0 (pa_cons (pe_op op_cat (pv 8) (pe_lst (pa_cons (pe_tup (pa_cons (pe_call G__law_crowds (hr.mono (by decide)) (by rfl) T.d__law_crowds.g T.d__law_crowds.F.kp T.d__law_crowds.b .nil pass0 (pa_cons (pv 0) (pa_cons (pe_ix ix_tup (pv 1) pe_int (fun _ _ => rfl)) (pa_cons (pv 4) (pa_cons (pv 5) (pa_cons (pv 6) pa_nil)))))) (pa_cons pe_str pa_nil))) pa_nil))) pa_nil))))))))), ?_⟩
    refine ⟨_, rfl, _, rfl, a, _, _, _, rfl, rfl, SqT.of ha, dR1 d, B, Y, dN d, rfl, hm, fun x H1 p hx s1 ep => ?_, fun hx => ?_⟩
    · refine ⟨_, rfl, rfl, _, rfl, iteF ?_⟩
      have ha1 := s1 _ _ ha
      have hm1 := hm.keep s1
      refine ⟨_, rfl, a, _, _, _, rfl, rfl, SqT.of ha1, dR0 d, rfl, _, rfl, ?_⟩
      cases d with
      | awa n =>
        rw [show decide (V.str (dW (.awa n)) = V.str "away") = true from decide_eq_true rfl]
        refine iteT ?_
        obtain ⟨k3, e3, r3⟩ := hm1.sa
        have nms := nm_of hm1 e3 r3
        refine ⟨B.s, .dK k3, e3, trivial, fun od => ?_⟩
        have lk := lk_of (od := od) e3
        have naa : a ≠ B.s := ne_of ha1 e3 (fun z => nomatch z)
        generalize upd H1 B.s (.frz od (.dK k3)) = Hf at lk ⊢
        refine ⟨_, rfl, B.m, _, rfl, dget (lk.ne _ _ hm1.ob nms) (vs B), B.s, od, k3, rfl, lk.at_, fun D nD => ?_⟩
        have kl := r3.len
        have le := hm.le
        refine lc_it walk_values (fun i H' => Same Hf H' ∧ H' D = some (.lst (((Y.sa.take i).map fun q => V.bl (decide (q.2.1 = n)))))) ⟨same_upd nD, upd_same⟩ (fun i H' _ p => p.1 _ _ lk.at_) (fun i x' H2 H3 hi p hy => ?_) (fun H' p => ?_)
        · obtain ⟨p1, p2⟩ := p
          obtain ⟨rfl, key, hkk⟩ := hy
          obtain ⟨pr, m, y, rfl, hy1, epr⟩ := r3.at i x' (by rw [List.getElem?_map, hkk]; rfl)
          have ep' := p1 _ _ (lk.ts _ _ epr)
          have at0 : atI (saL m y : List V) (0 : Int) = some (.str y.1) := atI_nat (j := 0) rfl
          refine ⟨rfl, yes (iteT ?_)⟩
          refine ⟨_, rfl, pr, _, _, _, rfl, rfl, SqT.of ep', at0, _, rfl, a, _, _, _, rfl, rfl, SqT.of (p1 _ _ (lk.ne _ _ ha1 naa)), dR1 (.awa n), rfl, _, p2, ?_, ?_, ?_⟩
          · rw [List.length_map, List.length_take]
            exact small1000 (by omega)
          · intro b o e
            rw [upd_ne (ne_of_none e nD)]
            exact p1 _ _ e
          · rw [upd_same, List.take_add_one, hy1, List.map_append, show (decide (V.str y.1 = V.str (dN (.awa n)))) = decide (y.1 = n) from decide_str _ _]
            rfl
        · obtain ⟨p1, p2⟩ := p
          rw [kl, List.take_length] at p2
          have nDc : D ≠ B.s := fun z => by rw [z, lk.at_] at nD; cases nD
          refine ⟨p1 _ _ lk.at_, D, Y.sa.map (fun q => decide (q.2.1 = n)), rfl, SqL.of ?_, ?_⟩
          · rw [upd_ne nDc, p2, List.map_map]
            rfl
          · have e0 : (Y.sa.map (fun q => decide (q.2.1 = n))).any id = sacked Y n := by
              unfold sacked
              rw [List.any_map]
              rfl
            rw [e0]
            have s2 := lk.un _ p1
            generalize upd H' B.s (.dK k3) = H2 at s2 ⊢
            have sH2 := s1.trans s2
            dsimp only [gName, tRet, tCall, tLst, tTup, tCons, tNil]
            refine torH (sacked Y n) (corded Y n) (fun Q' z => ⟨_, rfl, z⟩) (fun Q' z => ⟨_, rfl, _, rfl, a, _, _, _, rfl, rfl, SqT.of (sH2 _ _ ha), dR1 (.awa n), B, Y, n, rfl, hm.keep sH2, z⟩) (fun H3 s3 => ?_)
            refine ⟨by show 2 ≤ sizeLine; decide, fun t1 n1 => ⟨by show 1 ≤ sizeLine; decide, fun l1 m1 => ?_⟩⟩
            have s4 := same_upd (o := .tup [.bl (sacked Y n || corded Y n), .str "InUse"]) n1
            have s5 := same_upd (o := .lst [.ref t1]) m1
            refine ⟨l1, [(sacked Y n || corded Y n, "InUse")], rfl, ⟨_, upd_same, .cons ⟨t1, rfl, s5 _ _ upd_same⟩ .nil⟩, ?_⟩
            have z := q _ (sH2.trans (s3.trans (s4.trans s5)))
            have e : erW (fault Y (.awa n)) = firstW [(sacked Y n || corded Y n, "InUse")] := by
              show erW (faultAw Y n) = _
              have ht : (hasT Y.tr n || hasT Y.bo n) = true := by
                have hx' : thingY Y n = some x := hx
                unfold thingY at hx'
                unfold hasT
                cases e1 : getT Y.tr n with
                | some y => rfl
                | none =>
                  rw [e1] at hx'
                  cases e2 : getT Y.bo n with
                  | some y => rfl
                  | none => rw [e2] at hx'; cases hx'
              unfold faultAw
              rw [ht]
              cases h1 : (sacked Y n || corded Y n) <;> simp [firstW, erW, erS]
            rw [e] at z
            exact z
      | alo n k =>
        rw [show decide (V.str (dW (.alo n k)) = V.str "away") = false from decide_eq_false (fun z => by have := V.str.inj z; revert this; show ¬ (("along" : Str) = "away"); decide +kernel)]
        refine iteF ?_
        have at0 : atI ([.int x.1, .int x.2.1, .int x.2.2] : List V) (0 : Int) = some (.int x.1) := atI_nat (j := 0) rfl
        have at1 : atI ([.int x.1, .int x.2.1, .int x.2.2] : List V) (1 : Int) = some (.int x.2.1) := atI_nat (j := 1) rfl
        have at2 : atI ([.int x.1, .int x.2.1, .int x.2.2] : List V) (2 : Int) = some (.int x.2.2) := atI_nat (j := 2) rfl
        have ad2 : atI (.str (dW (.alo n k)) :: dR (.alo n k) : List V) (2 : Int) = some (.int k) := atI_nat (j := 2) rfl
        refine ⟨_, rfl, p, _, _, _, rfl, rfl, SqT.of ep, at0, _, rfl, p, _, _, _, rfl, rfl, SqT.of ep, at1, _, rfl, a, _, _, _, rfl, rfl, SqT.of ha1, ad2, _, _, rfl, rfl, _, rfl, p, _, _, _, rfl, rfl, SqT.of ep, at2, _, rfl, a, _, _, _, rfl, rfl, SqT.of ha1, ad2, _, _, rfl, rfl, _, _, _, rfl, ?_⟩
        dsimp only [tSeq, tAsg]
        refine tor (decide (x.2.1 + k < -1000000)) (decide (1000000 < x.2.2 + k)) (fun Q' z => ⟨_, rfl, _, rfl, _, _, rfl, rfl, z⟩) (fun Q' z => ⟨_, rfl, _, _, rfl, rfl, z⟩) ?_
        refine ⟨_, rfl, by show 2 ≤ sizeLine; decide, fun t1 n1 => ?_⟩
        have s2 := same_upd (o := .tup [.bl (decide (x.2.1 + k < -1000000) || decide (1000000 < x.2.2 + k)), .str "BadPlace"]) n1
        have e2 := upd_same (H := H1) (a := t1) (o := .tup [.bl (decide (x.2.1 + k < -1000000) || decide (1000000 < x.2.2 + k)), .str "BadPlace"])
        generalize upd H1 t1 (.tup [.bl (decide (x.2.1 + k < -1000000) || decide (1000000 < x.2.2 + k)), .str "BadPlace"]) = H2 at s2 e2 ⊢
        have sH2 := s1.trans s2
        refine ⟨_, rfl, _, rfl, a, _, _, _, rfl, rfl, SqT.of (sH2 _ _ ha), dR1 (.alo n k), B, Y, n, rfl, hm.keep sH2, fun H3 s3 => ?_⟩
        refine ⟨by show 2 ≤ sizeLine; decide, fun t2 n2 => ⟨by show 2 ≤ sizeLine; decide, fun l1 m1 => ?_⟩⟩
        have s4 := same_upd (o := .tup [.bl (corded Y n), .str "InUse"]) n2
        have e4 := upd_same (H := H3) (a := t2) (o := .tup [.bl (corded Y n), .str "InUse"])
        generalize upd H3 t2 (.tup [.bl (corded Y n), .str "InUse"]) = H4 at s4 e4 m1 ⊢
        have s5 := same_upd (o := .lst [.ref t1, .ref t2]) m1
        have e5 := upd_same (H := H4) (a := l1) (o := .lst [.ref t1, .ref t2])
        generalize upd H4 l1 (.lst [.ref t1, .ref t2]) = H5 at s5 e5 ⊢
        have sH5 := sH2.trans (s3.trans (s4.trans s5))
        refine ⟨_, rfl, _, rfl, _, rfl, a, _, _, _, rfl, rfl, SqT.of (sH5 _ _ ha), dR1 (.alo n k), _, rfl, _, rfl, _, rfl, B, Y, n, x.1, x.2.1 + k, x.2.2 + k, rfl, hm.keep sH5, gd, fun H6 s6 => ?_⟩
        refine ⟨by show 2 ≤ sizeLine; decide, fun t3 n3 => ⟨by show 1 ≤ sizeLine; decide, fun l2 m2 => ?_⟩⟩
        have s7 := same_upd (o := .tup [.bl (crowd Y n x.1 (x.2.1 + k) (x.2.2 + k)), .str "Crowded"]) n3
        have e7 := upd_same (H := H6) (a := t3) (o := .tup [.bl (crowd Y n x.1 (x.2.1 + k) (x.2.2 + k)), .str "Crowded"])
        generalize upd H6 t3 (.tup [.bl (crowd Y n x.1 (x.2.1 + k) (x.2.2 + k)), .str "Crowded"]) = H7 at s7 e7 m2 ⊢
        have s8 := same_upd (o := .lst [.ref t3]) m2
        have e8 := upd_same (H := H7) (a := l2) (o := .lst [.ref t3])
        generalize upd H7 l2 (.lst [.ref t3]) = H8 at s8 e8 ⊢
        have s68 := s6.trans (s7.trans s8)
        refine ⟨l1, l2, _, _, rfl, rfl, s68 _ _ e5, e8, by show 2 + 1 ≤ sizeLine; decide, fun l3 m3 => ?_⟩
        have s9 := same_upd (o := .lst ([.ref t1, .ref t2] ++ [.ref t3])) m3
        refine ⟨l3, prsAl Y n x.1 (x.2.1 + k) (x.2.2 + k), rfl, ⟨_, upd_same, .cons ⟨t1, rfl, s9 _ _ (s68 _ _ (s5 _ _ (s4 _ _ (s3 _ _ e2))))⟩ (.cons ⟨t2, rfl, s9 _ _ (s68 _ _ (s5 _ _ e4))⟩ (.cons ⟨t3, rfl, s9 _ _ (s8 _ _ e7)⟩ .nil))⟩, ?_⟩
        have z := q _ (sH5.trans (s68.trans s9))
        rw [show fault Y (.alo n k) = faultAl Y n k from rfl, ← firstAl ft (show thingY Y n = some x from hx)] at z
        exact z
      | _ => cases hk
    · refine ⟨_, rfl, rfl, _, rfl, iteT ?_⟩
      have z := q H (Same.refl H)
      cases d with
      | awa n =>
        have hx' : thingY Y n = none := hx
        have e : fault Y (.awa n) = some .NoThing := by
          show faultAw Y n = _
          unfold faultAw hasT
          unfold thingY at hx'
          cases e1 : getT Y.tr n with
          | some y => rw [e1] at hx'; cases hx'
          | none =>
            rw [e1] at hx'
            cases e2 : getT Y.bo n with
            | some y => rw [e2] at hx'; cases hx'
            | none => rfl
        rw [e] at z
        exact z
      | alo n k =>
        have hx' : thingY Y n = none := hx
        have e : fault Y (.alo n k) = some .NoThing := by
          show faultAl Y n k = _
          unfold faultAl
          rw [hx']
        rw [e] at z
        exact z
      | _ => cases hk
end
end DY
namespace DY
open PySem PySem.Spec PyProof.Rows L2
theorem on_fit {l r p : Int} (h1 : isPlace l = true) (h2 : isPlace r = true) : onB l r p = (decide (l ≤ p) && decide (p ≤ r)) := by
  unfold onB
  unfold isPlace at h1 h2 ⊢
  simp only [Bool.and_eq_true, decide_eq_true_eq] at h1 h2
  rw [Bool.eq_iff_iff]
  simp only [Bool.and_eq_true, decide_eq_true_eq]
  omega
theorem tne {z : Str} (h : z ≠ "") : (!decide (V.str z = V.str "")) = true := by
  rw [decide_str, decide_eq_false h]
  rfl
section
variable {P : Program} {w : World} {K : PySem.W.Frag} {mg : Str → Option Value} {base : Heap}
def saK : Deed → Bool
  | .sac .. => true
  | .mov .. => true
  | .lif .. => true
  | _ => false
def spSaF : Sp := fun vs H Q _ => ∃ (A : MA) (Y : Yd) (a : Addr) (d : Deed), vs = [.ref A.m, .ref a] ∧ IsM A H Y ∧ Fit Y ∧ H a = some (.tup (.str (dW d) :: dR d)) ∧ saK d = true ∧ dOk d ∧ ∀ H', Same H H' → Q (.str (erW (fault Y d))) H'
theorem ok_sack_fault (T : L01 K mg) : FnOk P w K mg base CX0 3 T.d__law_sack_fault.a T.d__law_sack_fault.d ["_law_m", "_law_deed"] spSaF := by
  have G__law_new_fault : FnOk P w K mg base CX0 2 T.d__law_new_fault.a T.d__law_new_fault.d ["_law_m", "_law_deed", "_law_most"] spNew := ok_new T.toL0
  have G__law_first : FnOk P w K mg base CX0 1 T.d__law_first.a T.d__law_first.d ["_law_pairs"] spFirst := ok_first T.toL0
  have G__law_off : FnOk P w K mg base CX0 1 T.d__law_off.a T.d__law_off.d ["_law_m", "_law_board", "_law_place"] spOff := ok_off T
  refine T.d__law_sack_fault.F.ok sc__law_sack_fault (fun vs H Q E h => ?_) (fun cdv A outer s H vs Q E hr h => ?_)
  · obtain ⟨_, _, _, _, rfl, _⟩ := h
    rfl
  · obtain ⟨B, Y, a, d, rfl, hm, ft, ha, hk, hok, q⟩ := h
    have hu := hu_of hr
    refine ⟨_, pss_cons (ps_par (i := 2) (j := 3) (by rfl) sc__law_sack_fault.nd rfl rfl (by decide) rfl rfl (pa_cons (pe_lst pa_nil) (pa_cons (pe_lst pa_nil) pa_nil)) (by rfl))
      (pss_cons (ps_if (pt_cmpR op_eq (pe_ix ix_tup (pv 1) pe_int (fun _ _ => rfl)) pe_str (nomark _)) (pss_one (ps_asg (pe_call G__law_new_fault (hr.mono (by decide)) (by rfl) T.d__law_new_fault.g T.d__law_new_fault.F.kp T.d__law_new_fault.b .nil pass0 (pa_cons (pv 0) (pa_cons (pv 1) (pa_cons pe_int pa_nil)))) (pg_tup rfl (pgs_cons (pg_name (i := 2) sc__law_sack_fault.nd rfl (Or.inl rfl)) (pgs_cons (pg_name (i := 3) sc__law_sack_fault.nd rfl (Or.inl rfl)) pgs_nil))))) (pss_one (ps_set (i := 2) sc__law_sack_fault.nd rfl (Or.inl rfl) (pe_lst (pa_cons (pe_tup (pa_cons (pe_cmp (pc_dnotin hu (pe_ix ix_tup (pv 1) pe_int (fun _ _ => rfl)) (pe_dget hu (pv 0) pe_str (fun _ _ => rfl)))) (pa_cons pe_str pa_nil))) pa_nil)))))
      (pss_cons (ps_set (i := 4) sc__law_sack_fault.nd rfl (Or.inl rfl) (pe_call G__law_first (hr.mono (by decide)) (by rfl) T.d__law_first.g T.d__law_first.F.kp T.d__law_first.b .nil pass0 (pa_cons (pv 2) pa_nil)))
      (pss_cons (ps_if (PW.pt (pw_or (pt_cmpR op_ne (pv 4) pe_str (nomark _)) (pw_or1 (pt_cmpR op_eq (pe_ix ix_tup (pv 1) pe_int (fun _ _ => rfl)) pe_str (nomark _))))) (pss_one (ps_ret (pv 4))) pss_nil)
      (pss_cons (ps_par (i := 5) (j := 6) (by rfl) sc__law_sack_fault.nd rfl rfl (by decide) rfl rfl (pa_cons (pe_ix ix_tup (pv 1) pe_int (fun _ _ => rfl)) (pa_cons (pe_ix ix_tup (pv 1) pe_int (fun _ _ => rfl)) pa_nil)) (by rfl))
      (pss_cons (ps_if (pt_cmp (pc_dnotin hu (pv 5) (pe_dget hu (pv 0) pe_str (fun _ _ => rfl)))) (pss_one (ps_ret pe_str)) pss_nil)
      (pss_cons (ps_set (i := 2) sc__law_sack_fault.nd rfl (Or.inl rfl) (pe_lst (pa_cons (pe_tup (pa_cons (pe_call G__law_off (hr.mono (by decide)) (by rfl) T.d__law_off.g T.d__law_off.F.kp T.d__law_off.b .nil pass0 (pa_cons (pv 0) (pa_cons (pv 5) (pa_cons (pv 6) pa_nil)))) (pa_cons pe_str pa_nil))) pa_nil)))
      (pss_cons (ps_if (pt_cmpR op_eq (pe_ix ix_tup (pv 1) pe_int (fun _ _ => rfl)) pe_str (nomark _)) (pss_one (ps_expr (pe_bm PySem.F.plainAttrs_list PySem.F.slot_list_append PySem.F.type_list_append mt_append (pv 2) (pa_cons (pe_tup (pa_cons (pe_or (pe_cmpR op_lt (pe_ix ix_tup (pv 1) pe_int (fun _ _ => rfl)) pe_int (nomark _)) (pe_one (pe_cmpR op_gt (pe_ix ix_tup (pv 1) pe_int (fun _ _ => rfl)) pe_int (nomark _)))) (pa_cons pe_str pa_nil))) pa_nil)))) pss_nil)
      (pss_one (ps_ret (pe_call G__law_first (hr.mono (by decide)) (by rfl) T.d__law_first.g T.d__law_first.F.kp T.d__law_first.b .nil pass0 (pa_cons (pe_op op_cat (pv 2) (pv 3)) pa_nil))))))))))), ?_⟩
    refine ⟨by show 0 ≤ sizeLine; decide, fun r0 nr0 => ⟨by show 0 ≤ sizeLine; decide, fun f0 nf0 => ?_⟩⟩
    have s0 := (same_upd (o := .lst []) nr0).trans (same_upd (o := .lst []) nf0)
    have ef0 := upd_same (H := upd H r0 (.lst [])) (a := f0) (o := .lst [])
    generalize upd (upd H r0 (.lst [])) f0 (.lst []) = H0 at s0 ef0 ⊢
    refine ⟨_, _, rfl, ?_⟩
    have ha0 := s0 _ _ ha
    have hm0 := hm.keep s0
    refine ⟨_, rfl, a, _, _, _, rfl, rfl, SqT.of ha0, dR0 d, rfl, _, rfl, ?_⟩
    cases d with
    | sac n b p g =>
      rw [show decide (V.str (dW (.sac n b p g)) = V.str "sack") = true from decide_eq_true rfl]
      refine iteT ?_
      refine ⟨_, rfl, _, rfl, B, Y, a, .sac n b p g, 8, rfl, hm0, ha0, rfl, hok.1.1, fun H1 pp h f s1 ep ph pf => ?_⟩
      refine ⟨pp, _, rfl, SqT.of ep, rfl, _, _, rfl, _, _, rfl, rfl, ?_⟩
      have s01 := s0.trans s1
      have hN : dN (.sac n b p g) = n := rfl
      rw [hN] at ph
      refine ⟨_, rfl, h, _, rfl, ph, ?_⟩
      cases h1 : isName n with
      | false =>
        have hw : firstW [(!isName n, "BadName"), (taken Y n, "Taken")] = "BadName" := by rw [h1]; rfl
        rw [h1] at hw
        rw [hw]
        refine ⟨_, rfl, rfl, _, rfl, ite2 (fun _ => iteT ⟨_, rfl, ?_⟩) (fun e => (e ((tne (by decide +kernel : ("BadName" : Str) ≠ "")))).elim)⟩
        have z := q _ s01
        rw [show fault Y (.sac n b p g) = some .BadName by show faultSa Y n b p g = _; unfold faultSa; simp [h1]] at z
        exact z
      | true =>
        cases h2 : taken Y n with
        | true =>
          have hw : firstW [(!true, "BadName"), (true, "Taken")] = "Taken" := rfl
          rw [hw]
          refine ⟨_, rfl, rfl, _, rfl, ite2 (fun _ => iteT ⟨_, rfl, ?_⟩) (fun e => (e ((tne (by decide +kernel : ("Taken" : Str) ≠ "")))).elim)⟩
          have z := q _ s01
          rw [show fault Y (.sac n b p g) = some .Taken by show faultSa Y n b p g = _; unfold faultSa; simp [h1, h2]] at z
          exact z
        | false =>
          have hw : firstW [(!true, "BadName"), (false, "Taken")] = "" := rfl
          rw [hw]
          refine ⟨_, rfl, rfl, _, rfl, ite2 (fun e => by rw [decide_eq_true rfl] at e; cases e) (fun _ => ?_)⟩
          refine ⟨_, rfl, a, _, _, _, rfl, rfl, SqT.of (s01 _ _ ha), dR0 (.sac n b p g), rfl, _, rfl, ?_⟩
          rw [show decide (V.str (dW (.sac n b p g)) = V.str "lift") = false from decide_eq_false (fun z => by have := V.str.inj z; revert this; show ¬ (("sack" : Str) = "lift"); decide +kernel)]
          refine iteF ?_
          have ad2 : atI (.str (dW (.sac n b p g)) :: dR (.sac n b p g) : List V) (2 : Int) = some (.str b) := atI_nat (j := 2) rfl
          have ad3 : atI (.str (dW (.sac n b p g)) :: dR (.sac n b p g) : List V) (3 : Int) = some (.int p) := atI_nat (j := 3) rfl
          refine ⟨_, rfl, a, _, _, _, rfl, rfl, SqT.of (s01 _ _ ha), ad2, _, rfl, a, _, _, _, rfl, rfl, SqT.of (s01 _ _ ha), ad3, _, _, rfl, ?_⟩
          have hmX := hm.keep s01
          obtain ⟨k2, e2, r2⟩ := hmX.bo
          refine ⟨_, rfl, _, rfl, B.m, _, rfl, dget hmX.ob (vb B), B.b, _, rfl, DGet.k (k := Sum.inr b) e2, _, rfl, ?_⟩
          rcases r2.get b with ⟨g1, g2⟩ | ⟨pr, x, g1, g2, g3⟩
          · rw [g1]
            refine iteT ?_
            have z := q _ s01
            have ob : onBd Y b p = none := by unfold onBd; rw [g2]; rfl
            rw [show fault Y (.sac n b p g) = some .NoThing by show faultSa Y n b p g = _; unfold faultSa; simp [h1, h2, ob]] at z
            exact z
          · rw [g1]
            refine iteF ?_
            obtain ⟨_, _, pl1, pl2, _⟩ := ft.bo _ (get_mem g2)
            have ob : onBd Y b p = some (decide (x.2.1 ≤ p) && decide (p ≤ x.2.2.1)) := by
              unfold onBd
              rw [g2, Option.map_some, on_fit pl1 pl2]
            refine ⟨_, rfl, _, rfl, _, rfl, B, Y, b, p, x, rfl, hmX, g2, ?_⟩
            generalize (decide (x.2.1 ≤ p) && decide (p ≤ x.2.2.1)) = on at ob ⊢
            refine ⟨by show 2 ≤ sizeLine; decide, fun t1 n1 => ⟨by show 1 ≤ sizeLine; decide, fun l1 m1 => ?_⟩⟩
            have sa := same_upd (o := .tup [.bl (!on), .str "BadPlace"]) n1
            have ea := upd_same (H := H1) (a := t1) (o := .tup [.bl (!on), .str "BadPlace"])
            generalize upd H1 t1 (.tup [.bl (!on), .str "BadPlace"]) = Ha at sa ea m1 ⊢
            have sb := same_upd (o := .lst [.ref t1]) m1
            have eb := upd_same (H := Ha) (a := l1) (o := .lst [.ref t1])
            have m1' := m1
            generalize upd Ha l1 (.lst [.ref t1]) = Hb at sb eb ⊢
            have sXb := s01.trans (sa.trans sb)
            refine ⟨_, rfl, a, _, _, _, rfl, rfl, SqT.of (sXb _ _ ha), dR0 (.sac n b p g), rfl, _, rfl, ?_⟩
            rw [show decide (V.str (dW (.sac n b p g)) = V.str "sack") = true from decide_eq_true rfl]
            refine iteT ?_
            have ad4 : atI (.str (dW (.sac n b p g)) :: dR (.sac n b p g) : List V) (4 : Int) = some (.int g) := atI_nat (j := 4) rfl
            refine ⟨.ref l1, rfl, .inl ⟨rfl, _, SqL.of eb⟩, ?_⟩
            dsimp only [tCons, tTup, tNil]
            refine tor (decide (g < 1)) (decide (1000000000 < g)) (fun Q' z => ⟨_, rfl, a, _, _, _, rfl, rfl, SqT.of (sXb _ _ ha), ad4, _, _, rfl, rfl, z⟩) (fun Q' z => ⟨_, rfl, a, _, _, _, rfl, rfl, SqT.of (sXb _ _ ha), ad4, _, _, rfl, rfl, z⟩) ?_
            refine ⟨by show 2 ≤ sizeLine; decide, fun t2 n2 => ?_⟩
            have sc := same_upd (o := .tup [.bl (decide (g < 1) || decide (1000000000 < g)), .str "BadWeight"]) n2
            have ec := upd_same (H := Hb) (a := t2) (o := .tup [.bl (decide (g < 1) || decide (1000000000 < g)), .str "BadWeight"])
            generalize upd Hb t2 (.tup [.bl (decide (g < 1) || decide (1000000000 < g)), .str "BadWeight"]) = Hc at sc ec ⊢
            refine ⟨l1, _, _, rfl, rfl, sc _ _ eb, by show 1 < sizeLine; decide, ?_⟩
            have ed := upd_same (H := Hc) (a := l1) (o := .lst ([.ref t1] ++ [.ref t2]))
            have keep : ∀ y o, Ha y = some o → (upd Hc l1 (.lst ([.ref t1] ++ [.ref t2]))) y = some o := fun y o hy => by
              rw [upd_ne (ne_of_none hy m1')]
              exact sc _ _ (sb _ _ hy)
            have ec' : (upd Hc l1 (.lst ([.ref t1] ++ [.ref t2]))) t2 = some (.tup [.bl (decide (g < 1) || decide (1000000000 < g)), .str "BadWeight"]) := by
              rw [upd_ne (ne_of ec (sc _ _ eb) (fun z => nomatch z))]
              exact ec
            generalize upd Hc l1 (.lst ([.ref t1] ++ [.ref t2])) = Hd at ed keep ec' ⊢
            have sXd : Same H Hd := fun y o hy => keep y o (sa _ _ (s01 _ _ hy))
            obtain ⟨vf, ef, pdf⟩ := pf
            have lf : 1 = vf.length := Paired.length pdf
            have efd : Hd f = some (.lst vf) := keep _ _ (sa _ _ ef)
            refine ⟨_, rfl, _, rfl, l1, f, _, vf, rfl, rfl, ed, efd, sm (by simp only [List.length_append, List.length_cons, List.length_nil]; omega), fun l3 m3 => ?_⟩
            have s9 := same_upd (o := .lst ([.ref t1] ++ [.ref t2] ++ vf)) m3
            refine ⟨l3, [wd (!on) "BadPlace", wd (badW g) "BadWeight"] ++ [wd (decide ((8 : Int) ≤ (tabN Y (.sac n b p g) : Int))) "Full"], rfl, ⟨_, upd_same, ?_⟩, ?_⟩
            · refine prs_app (.cons (show PR _ (wd (!on) "BadPlace") (.ref t1) from ⟨t1, rfl, s9 _ _ (keep _ _ ea)⟩) (.cons (show PR _ (wd (badW g) "BadWeight") (.ref t2) from ⟨t2, rfl, s9 _ _ ec'⟩) .nil)) (prs_keep (fun y xs hy => s9 _ _ (keep _ _ (sa _ _ hy))) pdf)
            · have z := q _ (sXd.trans s9)
              have e : erW (fault Y (.sac n b p g)) = firstW ([wd (!on) "BadPlace", wd (badW g) "BadWeight"] ++ [wd (decide ((8 : Int) ≤ (tabN Y (.sac n b p g) : Int))) "Full"]) := by
                show erW (faultSa Y n b p g) = firstW [(!on, "BadPlace"), (badW g, "BadWeight"), (decide ((8 : Int) ≤ (Y.sa.length : Int)), "Full")]
                have e8 : decide ((8 : Int) ≤ (Y.sa.length : Int)) = decide (8 ≤ Y.sa.length) := by
                  rw [Bool.eq_iff_iff]
                  simp only [decide_eq_true_eq]
                  omega
                unfold faultSa
                rw [badW_eq, e8, ob]
                simp only [h1, h2]
                cases on <;> simp [firstW, erW, erS]
                cases hw3 : isWeight g <;> simp [firstW, erW, erS]
                by_cases h7 : 8 ≤ Y.sa.length
                · simp [h7, firstW, erW, erS]
                · simp [h7, firstW, erW, erS]
              rw [e] at z
              exact z
    | mov n b p =>
      rw [show decide (V.str (dW (.mov n b p)) = V.str "sack") = false from decide_eq_false (fun z => by have := V.str.inj z; revert this; show ¬ (("move" : Str) = "sack"); decide +kernel)]
      refine iteF ?_
      obtain ⟨k3, e3, r3⟩ := hm0.sa
      refine ⟨_, rfl, a, _, _, _, rfl, rfl, SqT.of ha0, dR1 (.mov n b p), _, rfl, B.m, _, rfl, dget hm0.ob (vs B), B.s, _, rfl, DGet.k (k := Sum.inr n) e3, by show 2 ≤ sizeLine; decide, fun t0 nt0 => ⟨by show 1 ≤ sizeLine; decide, fun l0 nl0 => ?_⟩⟩
      rw [r3.has n] at nl0 ⊢
      have s1 := same_upd (o := .tup [.bl (!hasT Y.sa n), .str "NoSack"]) nt0
      have e1 := upd_same (H := H0) (a := t0) (o := .tup [.bl (!hasT Y.sa n), .str "NoSack"])
      generalize upd H0 t0 (.tup [.bl (!hasT Y.sa n), .str "NoSack"]) = Hy at s1 e1 nl0 ⊢
      have s2 := same_upd (o := .lst [.ref t0]) nl0
      have el := upd_same (H := Hy) (a := l0) (o := .lst [.ref t0])
      generalize upd Hy l0 (.lst [.ref t0]) = H1 at s2 el ⊢
      have s01 := s0.trans (s1.trans s2)
      have ef0X := s2 _ _ (s1 _ _ ef0)
      refine ⟨_, rfl, l0, [(!hasT Y.sa n, "NoSack")], rfl, ⟨_, el, .cons ⟨t0, rfl, s2 _ _ e1⟩ .nil⟩, ?_⟩
      cases h1 : hasT Y.sa n with
      | false =>
        have hw : firstW [(!false, "NoSack")] = "NoSack" := rfl
        rw [hw]
        refine ⟨_, rfl, rfl, _, rfl, ite2 (fun _ => iteT ⟨_, rfl, ?_⟩) (fun e => (e ((tne (by decide +kernel : ("NoSack" : Str) ≠ "")))).elim)⟩
        have z := q _ s01
        rw [show fault Y (.mov n b p) = some .NoSack by show faultMo Y n b p = _; unfold faultMo; simp [h1]] at z
        exact z
      | true =>
        have hw : firstW [(!true, "NoSack")] = "" := rfl
        rw [hw]
        refine ⟨_, rfl, rfl, _, rfl, ite2 (fun e => by rw [decide_eq_true rfl] at e; cases e) (fun _ => ?_)⟩
        refine ⟨_, rfl, a, _, _, _, rfl, rfl, SqT.of (s01 _ _ ha), dR0 (.mov n b p), rfl, _, rfl, ?_⟩
        rw [show decide (V.str (dW (.mov n b p)) = V.str "lift") = false from decide_eq_false (fun z => by have := V.str.inj z; revert this; show ¬ (("move" : Str) = "lift"); decide +kernel)]
        refine iteF ?_
        have ad2 : atI (.str (dW (.mov n b p)) :: dR (.mov n b p) : List V) (2 : Int) = some (.str b) := atI_nat (j := 2) rfl
        have ad3 : atI (.str (dW (.mov n b p)) :: dR (.mov n b p) : List V) (3 : Int) = some (.int p) := atI_nat (j := 3) rfl
        refine ⟨_, rfl, a, _, _, _, rfl, rfl, SqT.of (s01 _ _ ha), ad2, _, rfl, a, _, _, _, rfl, rfl, SqT.of (s01 _ _ ha), ad3, _, _, rfl, ?_⟩
        have hmX := hm.keep s01
        obtain ⟨k2, e2, r2⟩ := hmX.bo
        refine ⟨_, rfl, _, rfl, B.m, _, rfl, dget hmX.ob (vb B), B.b, _, rfl, DGet.k (k := Sum.inr b) e2, _, rfl, ?_⟩
        rcases r2.get b with ⟨g1, g2⟩ | ⟨pr, x, g1, g2, g3⟩
        · rw [g1]
          refine iteT ?_
          have z := q _ s01
          have ob : onBd Y b p = none := by unfold onBd; rw [g2]; rfl
          rw [show fault Y (.mov n b p) = some .NoThing by show faultMo Y n b p = _; unfold faultMo; simp [h1, ob]] at z
          exact z
        · rw [g1]
          refine iteF ?_
          obtain ⟨_, _, pl1, pl2, _⟩ := ft.bo _ (get_mem g2)
          have ob : onBd Y b p = some (decide (x.2.1 ≤ p) && decide (p ≤ x.2.2.1)) := by
            unfold onBd
            rw [g2, Option.map_some, on_fit pl1 pl2]
          refine ⟨_, rfl, _, rfl, _, rfl, B, Y, b, p, x, rfl, hmX, g2, ?_⟩
          generalize (decide (x.2.1 ≤ p) && decide (p ≤ x.2.2.1)) = on at ob ⊢
          refine ⟨by show 2 ≤ sizeLine; decide, fun t1 n1 => ⟨by show 1 ≤ sizeLine; decide, fun l1 m1 => ?_⟩⟩
          have sa := same_upd (o := .tup [.bl (!on), .str "BadPlace"]) n1
          have ea := upd_same (H := H1) (a := t1) (o := .tup [.bl (!on), .str "BadPlace"])
          generalize upd H1 t1 (.tup [.bl (!on), .str "BadPlace"]) = Ha at sa ea m1 ⊢
          have sb := same_upd (o := .lst [.ref t1]) m1
          have eb := upd_same (H := Ha) (a := l1) (o := .lst [.ref t1])
          have m1' := m1
          generalize upd Ha l1 (.lst [.ref t1]) = Hb at sb eb ⊢
          have sXb := s01.trans (sa.trans sb)
          refine ⟨_, rfl, a, _, _, _, rfl, rfl, SqT.of (sXb _ _ ha), dR0 (.mov n b p), rfl, _, rfl, ?_⟩
          rw [show decide (V.str (dW (.mov n b p)) = V.str "sack") = false from decide_eq_false (fun z => by have := V.str.inj z; revert this; show ¬ (("move" : Str) = "sack"); decide +kernel)]
          refine iteF ?_
          refine ⟨_, rfl, _, rfl, l1, f0, _, [], rfl, rfl, eb, sb _ _ (sa _ _ ef0X), by show 1 + 0 ≤ sizeLine; decide, fun l3 m3 => ?_⟩
          have s9 := same_upd (o := .lst ([.ref t1] ++ [])) m3
          refine ⟨l3, [(!on, "BadPlace")], rfl, ⟨_, upd_same, .cons ⟨t1, rfl, s9 _ _ (sb _ _ ea)⟩ .nil⟩, ?_⟩
          have z := q _ (sXb.trans s9)
          have e : erW (fault Y (.mov n b p)) = firstW [(!on, "BadPlace")] := by
            show erW (faultMo Y n b p) = _
            unfold faultMo
            rw [ob]
            simp only [h1]
            cases on <;> simp [firstW, erW, erS]
          rw [e] at z
          exact z
    | lif n =>
      rw [show decide (V.str (dW (.lif n)) = V.str "sack") = false from decide_eq_false (fun z => by have := V.str.inj z; revert this; show ¬ (("lift" : Str) = "sack"); decide +kernel)]
      refine iteF ?_
      obtain ⟨k3, e3, r3⟩ := hm0.sa
      refine ⟨_, rfl, a, _, _, _, rfl, rfl, SqT.of ha0, dR1 (.lif n), _, rfl, B.m, _, rfl, dget hm0.ob (vs B), B.s, _, rfl, DGet.k (k := Sum.inr n) e3, by show 2 ≤ sizeLine; decide, fun t0 nt0 => ⟨by show 1 ≤ sizeLine; decide, fun l0 nl0 => ?_⟩⟩
      rw [r3.has n] at nl0 ⊢
      have s1 := same_upd (o := .tup [.bl (!hasT Y.sa n), .str "NoSack"]) nt0
      have e1 := upd_same (H := H0) (a := t0) (o := .tup [.bl (!hasT Y.sa n), .str "NoSack"])
      generalize upd H0 t0 (.tup [.bl (!hasT Y.sa n), .str "NoSack"]) = Hy at s1 e1 nl0 ⊢
      have s2 := same_upd (o := .lst [.ref t0]) nl0
      have el := upd_same (H := Hy) (a := l0) (o := .lst [.ref t0])
      generalize upd Hy l0 (.lst [.ref t0]) = H1 at s2 el ⊢
      have s01 := s0.trans (s1.trans s2)
      refine ⟨_, rfl, l0, [(!hasT Y.sa n, "NoSack")], rfl, ⟨_, el, .cons ⟨t0, rfl, s2 _ _ e1⟩ .nil⟩, ?_⟩
      have z := q _ s01
      have e0 : erW (fault Y (.lif n)) = firstW [(!hasT Y.sa n, "NoSack")] := by
        show erW (faultLi Y n) = _
        unfold faultLi
        cases h1 : hasT Y.sa n <;> simp [firstW, erW, erS]
      rw [e0] at z
      refine ⟨_, rfl, rfl, _, rfl, ite2 (fun _ => iteT ⟨_, rfl, z⟩) (fun _ => ?_)⟩
      refine ⟨_, rfl, a, _, _, _, rfl, rfl, SqT.of (s01 _ _ ha), dR0 (.lif n), rfl, _, rfl, ?_⟩
      rw [show decide (V.str (dW (.lif n)) = V.str "lift") = true from decide_eq_true rfl]
      exact iteT ⟨_, rfl, z⟩
    | _ => cases hk
end
end DY
namespace DY
open PySem PySem.Spec PyProof.Rows L2
section
variable {P : Program} {w : World} {K : PySem.W.Frag} {mg : Str → Option Value} {base : Heap}
def coK : Deed → Bool
  | .cor .. => true
  | .cut .. => true
  | _ => false
def offL (Y : Yd) (p : Int) (z : Str) : Bool := match getT Y.bo z with
  | some x => !(decide (x.2.1 ≤ p) && decide (p ≤ x.2.2.1))
  | none => false
def both (u lo : Str) : List Str := [u, lo].filter fun z => !decide (V.str z = V.str "")
def lv (Y : Yd) (u : Str) (c : Int) : Bool := match getT Y.bo u with
  | some y => decide (y.1 ≤ c)
  | none => false
theorem clearTi {a b c : Bool} (h : firstW [(a, "BadName"), (b, "Taken"), (c, "NoThing")] = "") : a = false ∧ b = false ∧ c = false := by
  cases a
  · cases b
    · cases c
      · exact ⟨rfl, rfl, rfl⟩
      · exact absurd h (by show ¬ (("NoThing" : Str) = ""); decide +kernel)
    · exact absurd h (by show ¬ (("Taken" : Str) = ""); decide +kernel)
  · exact absurd h (by show ¬ (("BadName" : Str) = ""); decide +kernel)
theorem upRow_none {Y : Yd} {u : Str} (h : (!decide (V.str u = V.str "") && !hasT Y.bo u) = true) : upRow Y u = none := by
  rw [decide_str] at h
  simp only [Bool.and_eq_true, Bool.not_eq_true', decide_eq_false_iff_not] at h
  unfold upRow
  rw [if_neg h.1]
  have h2 := h.2
  unfold hasT at h2
  cases e : getT Y.bo u with
  | none => rfl
  | some y => rw [e] at h2; cases h2
theorem hasT_none {α : Type} {T : List (Str × α)} {n : Str} (h : hasT T n = false) : getT T n = none := by
  unfold hasT at h
  cases e : getT T n with
  | none => rfl
  | some y => rw [e] at h; cases h
theorem hasT_some {α : Type} {T : List (Str × α)} {n : Str} (h : hasT T n = true) : ∃ x, getT T n = some x := by
  unfold hasT at h
  cases e : getT T n with
  | none => rw [e] at h; cases h
  | some y => exact ⟨y, rfl⟩
theorem wordTi {Y : Yd} {n u lo : Str} {p : Int} (hW : firstW [(!isName n, "BadName"), (taken Y n, "Taken"), ((!decide (V.str u = V.str "") && !hasT Y.bo u || !hasT Y.bo lo), "NoThing")] ≠ "") : erW (faultTi Y n u lo p) = firstW [(!isName n, "BadName"), (taken Y n, "Taken"), ((!decide (V.str u = V.str "") && !hasT Y.bo u || !hasT Y.bo lo), "NoThing")] := by
  unfold faultTi
  cases h1 : isName n with
  | false => rfl
  | true =>
    cases h2 : taken Y n with
    | true => rfl
    | false =>
      rw [h1, h2] at hW
      cases h3 : (!decide (V.str u = V.str "") && !hasT Y.bo u) with
      | true =>
        rw [upRow_none h3]
        rfl
      | false =>
        rw [h3] at hW
        cases h4 : hasT Y.bo lo with
        | true =>
          rw [h4] at hW
          exact absurd rfl hW
        | false =>
          rw [hasT_none h4]
          cases upRow Y u <;> rfl
theorem endTi {Y : Yd} {n u lo : Str} {p : Int} {x : BoR} (ft : Fit Y) (h1 : isName n = true) (h2 : taken Y n = false) (hx : getT Y.bo lo = some x) (hu : u = "" ∨ ∃ y, getT Y.bo u = some y) :
    erW (faultTi Y n u lo p) = firstW [(!decide (V.str u = V.str "") && lv Y u x.1, "BadCord"), ((both u lo).any (offL Y p), "BadPlace"), (decide ((4 : Int) ≤ (Y.co.length : Int)), "Full")] := by
  obtain ⟨l0, l1, l2, l3, l4⟩ := ft.bo _ (get_mem hx)
  have e4 : decide ((4 : Int) ≤ (Y.co.length : Int)) = decide (4 ≤ Y.co.length) := by
    rw [Bool.eq_iff_iff]
    simp only [decide_eq_true_eq]
    omega
  have ol : offL Y p lo = !onB x.2.1 x.2.2.1 p := by
    unfold offL
    rw [hx, on_fit l2 l3]
  have nl : (!decide (V.str lo = V.str "")) = true := tne l0
  rw [e4]
  by_cases ue : u = ""
  · have d0 : decide (V.str u = V.str "") = true := by rw [ue]; exact decide_eq_true rfl
    have ur : upRow Y u = some (10, -1000000, 1000000) := by unfold upRow; rw [if_pos ue]
    have bo : both u lo = [lo] := by
      unfold both
      simp only [List.filter_cons, d0, nl, List.filter_nil]
      rfl
    have c10 : ¬ ((10 : Int) ≤ x.1) := by
      intro z
      unfold isCourse at l1
      simp only [Bool.and_eq_true, decide_eq_true_eq] at l1
      have : x.1 ≤ 9 := l1.2
      omega
    unfold faultTi
    rw [ur, hx, bo, d0]
    simp only [h1, h2, c10, List.any_cons, List.any_nil, ol, Bool.or_false]
    cases o2 : onB x.2.1 x.2.2.1 p with
    | false =>
      cases o1 : onB (-1000000) 1000000 p <;> simp [firstW, erW, erS]
    | true =>
      have o1 : onB (-1000000) 1000000 p = true := by
        unfold onB at o2 ⊢
        unfold isPlace at o2 ⊢
        simp only [Bool.and_eq_true, decide_eq_true_eq] at o2 ⊢
        omega
      rw [o1]
      by_cases h7 : 4 ≤ Y.co.length
      · simp [h7, firstW, erW, erS]
      · simp [h7, firstW, erW, erS]
  · obtain ⟨y, hy⟩ := hu.resolve_left ue
    obtain ⟨m0, m1, m2, m3, m4⟩ := ft.bo _ (get_mem hy)
    have d0 : decide (V.str u = V.str "") = false := by rw [decide_str]; exact decide_eq_false ue
    have ur : upRow Y u = some (y.1, y.2.1, y.2.2.1) := by unfold upRow; rw [if_neg ue, hy]; rfl
    have ou : offL Y p u = !onB y.2.1 y.2.2.1 p := by
      unfold offL
      rw [hy, on_fit m2 m3]
    have bo : both u lo = [u, lo] := by
      unfold both
      simp only [List.filter_cons, d0, nl, List.filter_nil]
      rfl
    have lve : lv Y u x.1 = decide (y.1 ≤ x.1) := by unfold lv; rw [hy]
    unfold faultTi
    rw [ur, hx, bo, d0, lve]
    simp only [h1, h2, List.any_cons, List.any_nil, ol, ou, Bool.or_false]
    by_cases c : y.1 ≤ x.1
    · simp [c, firstW, erW, erS]
    · cases o1 : onB y.2.1 y.2.2.1 p <;> cases o2 : onB x.2.1 x.2.2.1 p <;> simp [c, firstW, erW, erS]
      by_cases h7 : 4 ≤ Y.co.length
      · simp [h7, firstW, erW, erS]
      · simp [h7, firstW, erW, erS]
def spCoF : Sp := fun vs H Q _ => ∃ (A : MA) (Y : Yd) (a : Addr) (d : Deed), vs = [.ref A.m, .ref a] ∧ IsM A H Y ∧ Fit Y ∧ H a = some (.tup (.str (dW d) :: dR d)) ∧ coK d = true ∧ dOk d ∧ ∀ H', Same H H' → Q (.str (erW (fault Y d))) H'
theorem ok_cord_fault (T : L01 K mg) : FnOk P w K mg base CX0 3 T.d__law_cord_fault.a T.d__law_cord_fault.d ["_law_m", "_law_deed"] spCoF := by
  have G__law_new_fault : FnOk P w K mg base CX0 2 T.d__law_new_fault.a T.d__law_new_fault.d ["_law_m", "_law_deed", "_law_most"] spNew := ok_new T.toL0
  have G__law_first : FnOk P w K mg base CX0 1 T.d__law_first.a T.d__law_first.d ["_law_pairs"] spFirst := ok_first T.toL0
  have G__law_off : FnOk P w K mg base CX0 1 T.d__law_off.a T.d__law_off.d ["_law_m", "_law_board", "_law_place"] spOff := ok_off T
  refine T.d__law_cord_fault.F.ok sc__law_cord_fault (fun vs H Q E h => ?_) (fun cdv A outer s H vs Q E hr h => ?_)
  · obtain ⟨_, _, _, _, rfl, _⟩ := h
    rfl
  · obtain ⟨B, Y, a, d, rfl, hm, ft, ha, hk, hok, q⟩ := h
    have hu := hu_of hr
    refine ⟨_, pss_cons (ps_if (pt_cmpR op_eq (pe_ix ix_tup (pv 1) pe_int (fun _ _ => rfl)) pe_str (nomark _)) (pss_one (ps_ret (pe_ix ix_list (pe_lst (pa_cons pe_str (pa_cons pe_str pa_nil))) (pe_callTy call_int1 (by rfl) T.n_int (by decide +kernel) (pa_cons (pe_cmp (pc_din hu (pe_ix ix_tup (pv 1) pe_int (fun _ _ => rfl)) (pe_dget hu (pv 0) pe_str (fun _ _ => rfl)))) pa_nil)) (fun _ _ => rfl)))) pss_nil)
      (pss_cons (ps_asg (pe_call G__law_new_fault (hr.mono (by decide)) (by rfl) T.d__law_new_fault.g T.d__law_new_fault.F.kp T.d__law_new_fault.b .nil pass0 (pa_cons (pv 0) (pa_cons (pv 1) (pa_cons pe_int pa_nil)))) (pg_tup rfl (pgs_cons (pg_name (i := 2) sc__law_cord_fault.nd rfl (Or.inl rfl)) (pgs_cons (pg_name (i := 3) sc__law_cord_fault.nd rfl (Or.inl rfl)) pgs_nil))))
      (pss_cons (ps_asg (pe_slice sl_tup (pv 1) (po_some pe_int) po_none) (pg_tup rfl (pgs_cons (pg_name (i := 4) sc__law_cord_fault.nd rfl (Or.inl rfl)) (pgs_cons (pg_name (i := 5) sc__law_cord_fault.nd rfl (Or.inl rfl)) (pgs_cons (pg_name (i := 6) sc__law_cord_fault.nd rfl (Or.inl rfl)) (pgs_cons (pg_name (i := 7) sc__law_cord_fault.nd rfl (Or.inr rfl)) pgs_nil))))))
      (pss_cons (ps_set (i := 8) sc__law_cord_fault.nd rfl (Or.inl rfl) (pe_or (pe_and (pe_cmpR op_ne (pv 5) pe_str (nomark _)) (pe_one (pe_cmp (pc_dnotin hu (pv 5) (pe_dget hu (pv 0) pe_str (fun _ _ => rfl)))))) (pe_one (pe_cmp (pc_dnotin hu (pv 6) (pe_dget hu (pv 0) pe_str (fun _ _ => rfl)))))))
      (pss_cons (ps_set (i := 9) sc__law_cord_fault.nd rfl (Or.inl rfl) (pe_call G__law_first (hr.mono (by decide)) (by rfl) T.d__law_first.g T.d__law_first.F.kp T.d__law_first.b .nil pass0 (pa_cons (pe_op op_cat (pv 2) (pe_lst (pa_cons (pe_tup (pa_cons (pv 8) (pa_cons pe_str pa_nil))) pa_nil))) pa_nil)))
      (pss_cons (ps_if (pt_cmpR op_ne (pv 9) pe_str (nomark _)) (pss_one (ps_ret (pv 9))) pss_nil)
      (pss_cons (ps_setLc (i := 10) (own := [("_law_one", 13)]) (g := (gName 13)) (by rfl) sc__law_cord_fault.nd rfl rfl (sw_true rfl rfl rfl (by decide +kernel)) (pi_tup (pe_tup (pa_cons (pv 5) (pa_cons (pv 6) pa_nil)))) (blkOk_by (N := N__law_cord_fault) (sc := defScope s__law_cord_fault) (by decide +kernel)) (fun _ _ _ _ _ => (pg_name (i := 13) sc__law_cord_fault.nd rfl (Or.inl rfl))) (fun _ _ _ _ _ => (pts_one (pt_cmpR op_ne (pv 13) pe_str (nomark _)))) (fun _ _ _ _ _ => (pv 13)))
      (pss_cons (ps_set (i := 11) sc__law_cord_fault.nd rfl (Or.inl rfl) (pe_and (pe_cmpR op_ne (pv 5) pe_str (nomark _)) (pe_one (pe_cmpR op_le (pe_ix ix_tup (pe_dget hu (pe_dget hu (pv 0) pe_str (fun _ _ => rfl)) (pv 5) (fun _ _ => rfl)) pe_int (fun _ _ => rfl)) (pe_ix ix_tup (pe_dget hu (pe_dget hu (pv 0) pe_str (fun _ _ => rfl)) (pv 6) (fun _ _ => rfl)) pe_int (fun _ _ => rfl)) (nomark _)))))
      (pss_cons (ps_set (i := 12) sc__law_cord_fault.nd rfl (Or.inl rfl) (pe_callB (cr_any rfl) (by rfl) T.n_any (by decide +kernel) (pa_cons (pe_lc (own := [("_law_one", 13)]) (g := (gName 13)) (tt := tYes) (by rfl) sc__law_cord_fault.nd (pi_list (pv 10)) (blkOk_by (N := N__law_cord_fault) (sc := defScope s__law_cord_fault) (by decide +kernel)) (fun _ _ _ _ _ => (pg_name (i := 13) sc__law_cord_fault.nd rfl (Or.inl rfl))) (fun _ _ _ _ _ => pts_nil) (fun _ _ _ _ _ => (pe_call G__law_off (hr.mono (by decide)) (by rfl) T.d__law_off.g T.d__law_off.F.kp T.d__law_off.b .nil pass0 (pa_cons (pv 0) (pa_cons (pv 13) (pa_cons (pv 7) pa_nil)))))) pa_nil)))
      (pss_one (ps_ret (pe_call G__law_first (hr.mono (by decide)) (by rfl) T.d__law_first.g T.d__law_first.F.kp T.d__law_first.b .nil pass0 (pa_cons (pe_op op_cat (pe_lst (pa_cons (pe_tup (pa_cons (pv 11) (pa_cons pe_str pa_nil))) (pa_cons (pe_tup (pa_cons (pv 12) (pa_cons pe_str pa_nil))) pa_nil))) (pv 3)) pa_nil)))))))))))), ?_⟩
    refine ⟨_, rfl, a, _, _, _, rfl, rfl, SqT.of ha, dR0 d, rfl, _, rfl, ?_⟩
    cases d with
    | cut n =>
      rw [show decide (V.str (dW (.cut n)) = V.str "cut") = true from decide_eq_true rfl]
      refine iteT ?_
      obtain ⟨k4, e4, r4⟩ := hm.co
      refine ⟨by show 2 ≤ sizeLine; decide, fun l nl => ?_⟩
      have s1 := same_upd (o := .lst [.str "NoCord", .str ""]) nl
      have e1 := upd_same (H := H) (a := l) (o := .lst [.str "NoCord", .str ""])
      generalize upd H l (.lst [.str "NoCord", .str ""]) = H1 at s1 e1 ⊢
      refine ⟨_, rfl, a, _, _, _, rfl, rfl, SqT.of (s1 _ _ ha), dR1 (.cut n), _, rfl, B.m, _, rfl, dget (s1 _ _ hm.ob) (vc B), B.c, _, rfl, DGet.k (k := Sum.inr n) (s1 _ _ e4), ?_⟩
      rw [r4.has n]
      have z := q _ s1
      cases h1 : hasT Y.co n with
      | true =>
        rw [show fault Y (.cut n) = none by show faultCu Y n = _; unfold faultCu; rw [h1]; rfl] at z
        exact .inr ⟨_, rfl, l, _, _, _, rfl, rfl, SqL.of e1, atI_nat (j := 1) rfl, z⟩
      | false =>
        rw [show fault Y (.cut n) = some .NoCord by show faultCu Y n = _; unfold faultCu; rw [h1]; rfl] at z
        exact .inr ⟨_, rfl, l, _, _, _, rfl, rfl, SqL.of e1, atI_nat (j := 0) rfl, z⟩
    | cor n u lo p =>
      rw [show decide (V.str (dW (.cor n u lo p)) = V.str "cut") = false from decide_eq_false (fun z => by have := V.str.inj z; revert this; show ¬ (("cord" : Str) = "cut"); decide +kernel)]
      refine iteF ?_
      refine ⟨_, rfl, _, rfl, B, Y, a, .cor n u lo p, 4, rfl, hm, ha, rfl, hok.1.1, fun H1 pp h f s1 ep ph pf => ?_⟩
      refine ⟨pp, _, rfl, SqT.of ep, rfl, _, _, rfl, _, _, rfl, rfl, ?_⟩
      rw [show dN (.cor n u lo p) = n from rfl] at ph
      have ncut : ¬ (HT.sIx (V.str (dW (.cor n u lo p)) :: dR (.cor n u lo p)).length 0 (some 1) = 0 ∧ HT.sIx (V.str (dW (.cor n u lo p)) :: dR (.cor n u lo p)).length (V.str (dW (.cor n u lo p)) :: dR (.cor n u lo p)).length none = (V.str (dW (.cor n u lo p)) :: dR (.cor n u lo p)).length) := by
        intro z; cases z.1
      refine ⟨_, rfl, 1, rfl, a, _, rfl, SqT.of (s1 _ _ ha), ncut, fun tp ntp => ?_⟩
      rw [show cutV (.str (dW (.cor n u lo p)) :: dR (.cor n u lo p)) (some 1) none = [.str n, .str u, .str lo, .int p] from rfl]
      have s2 := same_upd (o := .tup [.str n, .str u, .str lo, .int p]) ntp
      have e2 := upd_same (H := H1) (a := tp) (o := .tup [.str n, .str u, .str lo, .int p])
      generalize upd H1 tp (.tup [.str n, .str u, .str lo, .int p]) = H2 at s2 e2 ⊢
      refine ⟨tp, _, rfl, SqT.of e2, rfl, _, _, rfl, _, _, rfl, _, _, rfl, _, _, rfl, rfl, ?_⟩
      have s02 := s1.trans s2
      have hm2 := hm.keep s02
      obtain ⟨k2, eb, r2⟩ := hm2.bo
      have hasU := r2.has u
      have hasL := r2.has lo
      dsimp only [tSeq, tAsg]
      refine tor (!decide (V.str u = V.str "") && !hasT Y.bo u) (!hasT Y.bo lo) (fun Q' z => ?_) (fun Q' z => ?_) ?_
      · refine tand (!decide (V.str u = V.str "")) (!hasT Y.bo u) (fun Q' z => ⟨_, rfl, rfl, z⟩) (fun _ Q' z => ?_) z
        refine ⟨_, rfl, _, rfl, B.m, _, rfl, dget hm2.ob (vb B), B.b, _, rfl, DGet.k (k := Sum.inr u) eb, ?_⟩
        rw [hasU]
        exact z
      · refine ⟨_, rfl, _, rfl, B.m, _, rfl, dget hm2.ob (vb B), B.b, _, rfl, DGet.k (k := Sum.inr lo) eb, ?_⟩
        rw [hasL]
        exact z
      · generalize hlk : (!decide (V.str u = V.str "") && !hasT Y.bo u || !hasT Y.bo lo) = lk
        obtain ⟨vh, eh, pdh⟩ := ph
        obtain ⟨vf, ef, pdf⟩ := pf
        have lh : 2 = vh.length := Paired.length pdh
        have lf : 1 = vf.length := Paired.length pdf
        refine ⟨_, rfl, _, rfl, by show 2 ≤ sizeLine; decide, fun t1 n1 => ⟨by show 1 ≤ sizeLine; decide, fun l1 m1 => ?_⟩⟩
        have s3 := same_upd (o := .tup [.bl lk, .str "NoThing"]) n1
        have e3 := upd_same (H := H2) (a := t1) (o := .tup [.bl lk, .str "NoThing"])
        generalize upd H2 t1 (.tup [.bl lk, .str "NoThing"]) = H3 at s3 e3 m1 ⊢
        have s4 := same_upd (o := .lst [.ref t1]) m1
        have e4 := upd_same (H := H3) (a := l1) (o := .lst [.ref t1])
        generalize upd H3 l1 (.lst [.ref t1]) = H4 at s4 e4 ⊢
        have s14 := s2.trans (s3.trans s4)
        refine ⟨h, l1, vh, _, rfl, rfl, s14 _ _ eh, e4, sm (by simp only [List.length_cons, List.length_nil]; omega), fun l3 m3 => ?_⟩
        have s5 := same_upd (o := .lst (vh ++ [.ref t1])) m3
        have e5 := upd_same (H := H4) (a := l3) (o := .lst (vh ++ [.ref t1]))
        generalize upd H4 l3 (.lst (vh ++ [.ref t1])) = H5 at s5 e5 ⊢
        have s15 := s14.trans s5
        have s05 := s1.trans s15
        refine ⟨l3, [wd (!isName n) "BadName", wd (taken Y n) "Taken"] ++ [wd lk "NoThing"], rfl, ⟨_, e5, prs_app (prs_keep (.of s15) pdh) (.cons (show PR _ (wd lk "NoThing") (.ref t1) from ⟨t1, rfl, s5 _ _ (s4 _ _ e3)⟩) .nil)⟩, ?_⟩
        refine ⟨_, rfl, rfl, _, rfl, ?_⟩
        by_cases hW : firstW ([wd (!isName n) "BadName", wd (taken Y n) "Taken"] ++ [wd lk "NoThing"]) = ""
        · rw [hW]
          refine iteF ?_
          obtain ⟨w1, w2, w3⟩ := clearTi hW
          have w1' : isName n = true := by cases hh : isName n with | true => rfl | false => rw [hh] at w1; cases w1
          rw [w3] at hlk
          simp only [Bool.or_eq_false_iff] at hlk
          obtain ⟨hlk1, hlk2⟩ := hlk
          obtain ⟨x, gx⟩ := hasT_some (show hasT Y.bo lo = true by cases hh : hasT Y.bo lo with | true => rfl | false => rw [hh] at hlk2; cases hlk2)
          have gu : u = "" ∨ ∃ y, getT Y.bo u = some y := by
            by_cases ue : u = ""
            · exact .inl ue
            · refine .inr (hasT_some ?_)
              rw [decide_str, decide_eq_false ue] at hlk1
              cases hh : hasT Y.bo u with
              | true => rfl
              | false => rw [hh] at hlk1; cases hlk1
          have hm5 := hm.keep s05
          refine ⟨_, rfl, _, rfl, by show 2 ≤ sizeLine; decide, fun w1 nw => ?_⟩
          have s6 := same_upd (o := .tup [.str u, .str lo]) nw
          have e6 := upd_same (H := H5) (a := w1) (o := .tup [.str u, .str lo])
          generalize upd H5 w1 (.tup [.str u, .str lo]) = H6 at s6 e6 ⊢
          refine ⟨w1, rfl, ⟨_, SqT.of e6⟩, fun D nD => ?_⟩
          refine lc_tup (K := K) (a := w1) (xs := [.str u, .str lo]) (fun i H' => Same H6 H' ∧ H' D = some (.lst ((([u, lo].take i).filter fun z => !decide (V.str z = V.str "")).map V.str)))
            ⟨same_upd nD, upd_same⟩ (fun i H' _ p => SqT.of (p.1 _ _ e6)) (fun i x H' hx p => ?_) (fun H' p => ?_)
          · obtain ⟨p1, p2⟩ := p
            obtain ⟨z, hz, rfl⟩ : ∃ z, [u, lo][i]? = some z ∧ x = V.str z := by
              match i, hx with
              | 0, hx => cases hx; exact ⟨_, rfl, rfl⟩
              | 1, hx => cases hx; exact ⟨_, rfl, rfl⟩
              | _ + 2, hx => cases hx
            have ts : ([u, lo].take (i + 1)) = [u, lo].take i ++ [z] := by rw [List.take_add_one, hz]; rfl
            refine ⟨rfl, ⟨_, rfl, rfl, _, rfl, ?_⟩⟩
            cases hb : (!decide (V.str z = V.str "")) with
            | true =>
              refine iteT ⟨_, rfl, _, p2, ?_, ?_, ?_⟩
              · rw [List.length_map]
                refine small1000 (Nat.le_trans (List.length_filter_le _ _) ?_)
                rw [List.length_take]
                exact Nat.le_trans (Nat.min_le_right _ _) (by show 2 ≤ 1000; decide)
              · intro c o e
                rw [upd_ne (ne_of_none e nD)]
                exact p1 _ _ e
              · rw [upd_same, ts, List.filter_append, List.map_append, List.filter_cons, if_pos hb]
                rfl
            | false =>
              refine iteF ⟨p1, ?_⟩
              rw [ts, List.filter_append, List.filter_cons, hb, p2]
              simp
          · obtain ⟨p1, p2⟩ := p
            have p2' : H' D = some (.lst ((both u lo).map V.str)) := p2
            have s06 := s05.trans (s6.trans p1)
            have hm6 := hm.keep s06
            obtain ⟨kb, ebb, rb⟩ := hm6.bo
            have bs : ∀ z ∈ both u lo, ∃ x, getT Y.bo z = some x := fun z hz => by
              unfold both at hz
              rw [List.mem_filter] at hz
              obtain ⟨hz1, hz2⟩ := hz
              rw [decide_str] at hz2
              simp only [List.mem_cons, List.not_mem_nil, or_false] at hz1
              rcases hz1 with rfl | rfl
              · refine gu.resolve_left fun ue => ?_
                rw [decide_eq_true ue] at hz2
                cases hz2
              · exact ⟨_, gx⟩
            dsimp only [tSeq, tAsg]
            refine tand (!decide (V.str u = V.str "")) (lv Y u x.1) (fun Q' z => ⟨_, rfl, rfl, z⟩) (fun hne Q' z => ?_) ?_
            · have ue : u ≠ "" := fun e => by rw [e, decide_eq_true rfl] at hne; cases hne
              obtain ⟨y, gy⟩ := gu.resolve_left ue
              rcases rb.get u with ⟨_, zz⟩ | ⟨pu, y', hv, gy', epu⟩
              · rw [gy] at zz; cases zz
              · obtain rfl : y' = y := by rw [gy] at gy'; exact (Option.some.inj gy').symm
                rcases rb.get lo with ⟨_, zz⟩ | ⟨pl, x', hv2, gx', epl⟩
                · rw [gx] at zz; cases zz
                · obtain rfl : x' = x := by rw [gx] at gx'; exact (Option.some.inj gx').symm
                  have a0 : atI (boL u y' : List V) (0 : Int) = some (.int y'.1) := atI_nat (j := 0) rfl
                  have a1 : atI (boL lo x' : List V) (0 : Int) = some (.int x'.1) := atI_nat (j := 0) rfl
                  refine ⟨_, rfl, B.m, _, rfl, dget hm6.ob (vb B), _, rfl, B.b, _, rfl, dget ebb hv, pu, _, _, _, rfl, rfl, SqT.of epu, a0, _, rfl, B.m, _, rfl, dget hm6.ob (vb B), _, rfl, B.b, _, rfl, dget ebb hv2, pl, _, _, _, rfl, rfl, SqT.of epl, a1, _, _, rfl, rfl, ?_⟩
                  rw [show lv Y u x'.1 = decide (y'.1 ≤ x'.1) by unfold lv; rw [gy]] at z
                  exact z
            · refine ⟨_, rfl, D, rfl, ⟨_, SqL.of p2'⟩, fun D2 nD2 => ?_⟩
              refine lc_list (K := K) (a := D) (xs := (both u lo).map V.str) (fun i H7 => Same H' H7 ∧ H7 D2 = some (.lst (((both u lo).take i).map fun z => V.bl (offL Y p z))))
                ⟨same_upd nD2, upd_same⟩ (fun i H7 _ p => SqL.of (p.1 _ _ p2')) (fun i v H7 hx p => ?_) (fun H7 p => ?_)
              · obtain ⟨c1, c2⟩ := p
                obtain ⟨z, hz, rfl⟩ : ∃ z, (both u lo)[i]? = some z ∧ v = V.str z := by
                  rw [List.getElem?_map] at hx
                  cases hh : (both u lo)[i]? with
                  | none => rw [hh] at hx; cases hx
                  | some z => rw [hh] at hx; cases hx; exact ⟨z, rfl, rfl⟩
                obtain ⟨xz, gz⟩ := bs z (List.mem_of_getElem? hz)
                refine ⟨rfl, yes (iteT ?_)⟩
                refine ⟨_, rfl, _, rfl, _, rfl, B, Y, z, _, xz, rfl, hm6.keep c1, gz, ?_⟩
                refine ⟨_, c2, ?_, ?_, ?_⟩
                · rw [List.length_map, List.length_take]
                  refine small1000 (Nat.le_trans (Nat.min_le_right _ _) (Nat.le_trans (List.length_filter_le _ _) ?_))
                  show 2 ≤ 1000
                  decide
                · intro c o e
                  rw [upd_ne (ne_of_none e nD2)]
                  exact c1 _ _ e
                · rw [upd_same, List.take_add_one, hz, List.map_append]
                  have e0 : offL Y p z = !(decide (xz.2.1 ≤ p) && decide (p ≤ xz.2.2.1)) := by unfold offL; rw [gz]
                  rw [← e0]
                  rfl
              · obtain ⟨c1, c2⟩ := p
                rw [List.length_map, List.take_length] at c2
                refine ⟨D2, (both u lo).map (offL Y p), rfl, SqL.of (by rw [c2, List.map_map]; rfl), ?_⟩
                have e0 : ((both u lo).map (offL Y p)).any id = (both u lo).any (offL Y p) := by rw [List.any_map]; rfl
                rw [e0]
                have s07 := s06.trans c1
                have s17 := s15.trans (s6.trans (p1.trans c1))
                refine ⟨_, rfl, by show 2 ≤ sizeLine; decide, fun t4 n4 => ⟨_, rfl, by show 2 ≤ sizeLine; decide, fun t5 n5 => ⟨by show 2 ≤ sizeLine; decide, fun l4 m4 => ?_⟩⟩⟩
                have s8 := same_upd (o := .tup [.bl (!decide (V.str u = V.str "") && lv Y u x.1), .str "BadCord"]) n4
                have e8 := upd_same (H := H7) (a := t4) (o := .tup [.bl (!decide (V.str u = V.str "") && lv Y u x.1), .str "BadCord"])
                generalize upd H7 t4 (.tup [.bl (!decide (V.str u = V.str "") && lv Y u x.1), .str "BadCord"]) = H8 at s8 e8 n5 m4 ⊢
                have s9 := same_upd (o := .tup [.bl ((both u lo).any (offL Y p)), .str "BadPlace"]) n5
                have e9 := upd_same (H := H8) (a := t5) (o := .tup [.bl ((both u lo).any (offL Y p)), .str "BadPlace"])
                generalize upd H8 t5 (.tup [.bl ((both u lo).any (offL Y p)), .str "BadPlace"]) = H9 at s9 e9 m4 ⊢
                have s10 := same_upd (o := .lst [.ref t4, .ref t5]) m4
                have e10 := upd_same (H := H9) (a := l4) (o := .lst [.ref t4, .ref t5])
                generalize upd H9 l4 (.lst [.ref t4, .ref t5]) = Ha at s10 e10 ⊢
                have s1a := s17.trans (s8.trans (s9.trans s10))
                refine ⟨_, rfl, l4, f, _, vf, rfl, rfl, e10, s1a _ _ ef, sm (by simp only [List.length_cons, List.length_nil]; omega), fun l5 m5 => ?_⟩
                have s11 := same_upd (o := .lst ([.ref t4, .ref t5] ++ vf)) m5
                refine ⟨l5, [wd (!decide (V.str u = V.str "") && lv Y u x.1) "BadCord", wd ((both u lo).any (offL Y p)) "BadPlace"] ++ [wd (decide ((4 : Int) ≤ (tabN Y (.cor n u lo p) : Int))) "Full"], rfl, ⟨_, upd_same, ?_⟩, ?_⟩
                · exact prs_app (.cons (show PR _ (wd (!decide (V.str u = V.str "") && lv Y u x.1) "BadCord") (.ref t4) from ⟨t4, rfl, s11 _ _ (s10 _ _ (s9 _ _ e8))⟩) (.cons (show PR _ (wd ((both u lo).any (offL Y p)) "BadPlace") (.ref t5) from ⟨t5, rfl, s11 _ _ (s10 _ _ e9)⟩) .nil)) (prs_keep (.of (s1a.trans s11)) pdf)
                · have z := q _ (s1.trans (s1a.trans s11))
                  rw [show fault Y (.cor n u lo p) = faultTi Y n u lo p from rfl, endTi ft w1' w2 gx gu] at z
                  exact z
        · refine ite2 (fun _ => ⟨_, rfl, ?_⟩) (fun e => (e (tne hW)).elim)
          have z := q _ s05
          rw [show fault Y (.cor n u lo p) = faultTi Y n u lo p from rfl, wordTi (show firstW [(!isName n, "BadName"), (taken Y n, "Taken"), ((!decide (V.str u = V.str "") && !hasT Y.bo u || !hasT Y.bo lo), "NoThing")] ≠ "" by rw [hlk]; exact hW), hlk] at z
          exact z
    | _ => cases hk
end
end DY
namespace DY
open PySem PySem.Spec PyProof.Rows L2
abbrev s__law_fault : Stmt := topS 78
abbrev N__law_fault : List Str := ["_law_m", "_law_deed", "_law_counts"]
theorem sc__law_fault : FnScope N__law_fault ["_law_m", "_law_deed"] (defScope s__law_fault) := ⟨rfl, rfl, rfl, by decide +kernel, rfl, by decide +kernel, by decide +kernel⟩
abbrev s__law_step : Stmt := topS 79
abbrev N__law_step : List Str := ["_law_m", "_law_deed", "_law_new", "_law_word", "_law_kind", "_law_row", "_law_sack", "_law_board", "_law_place", "_law_weight"]
theorem sc__law_step : FnScope N__law_step ["_law_m", "_law_deed"] (defScope s__law_step) := ⟨rfl, rfl, rfl, by decide +kernel, rfl, by decide +kernel, by decide +kernel⟩
abbrev s__law_rows : Stmt := topS 80
abbrev N__law_rows : List Str := ["_law_kept", "_law_name"]
theorem sc__law_rows : FnScope N__law_rows ["_law_kept"] (defScope s__law_rows) := ⟨rfl, rfl, rfl, by decide +kernel, rfl, by decide +kernel, by decide +kernel⟩
structure L1 (K : PySem.W.Frag) (mg : Str → Option Value) extends L01 K mg where
  n_dict : mg "dict" = none
  n_sorted : mg "sorted" = none
  d__law_fault : DefF K mg "_law_fault" s__law_fault ["_law_m", "_law_deed"]
  d__law_step : DefF K mg "_law_step" s__law_step ["_law_m", "_law_deed"]
  d__law_rows : DefF K mg "_law_rows" s__law_rows ["_law_kept"]
def cntK : List (Key × V) := counts.map fun q => (Sum.inr q.1, .int q.2)
theorem cAll (d : Deed) : ∃ m : Int, valV (mergeK [] cntK) (Sum.inr (dW d)) = some (.int m) ∧ (((V.str (dW d) :: dR d).length : Nat) : Int) = m := by
  cases d with
  | tre => exact ⟨5, (by show valV (mergeK [] cntK) (Sum.inr "trestle") = some (.int 5); decide +kernel), rfl⟩
  | boa => exact ⟨6, (by show valV (mergeK [] cntK) (Sum.inr "board") = some (.int 6); decide +kernel), rfl⟩
  | awa => exact ⟨2, (by show valV (mergeK [] cntK) (Sum.inr "away") = some (.int 2); decide +kernel), rfl⟩
  | alo => exact ⟨3, (by show valV (mergeK [] cntK) (Sum.inr "along") = some (.int 3); decide +kernel), rfl⟩
  | sac => exact ⟨5, (by show valV (mergeK [] cntK) (Sum.inr "sack") = some (.int 5); decide +kernel), rfl⟩
  | mov => exact ⟨4, (by show valV (mergeK [] cntK) (Sum.inr "move") = some (.int 4); decide +kernel), rfl⟩
  | lif => exact ⟨2, (by show valV (mergeK [] cntK) (Sum.inr "lift") = some (.int 2); decide +kernel), rfl⟩
  | cor => exact ⟨5, (by show valV (mergeK [] cntK) (Sum.inr "cord") = some (.int 5); decide +kernel), rfl⟩
  | cut => exact ⟨2, (by show valV (mergeK [] cntK) (Sum.inr "cut") = some (.int 2); decide +kernel), rfl⟩
theorem inLay (d : Deed) : inV (.str (dW d)) [.str "trestle", .str "board"] = layK d := by
  cases d with
  | tre => show inV (.str "trestle") [.str "trestle", .str "board"] = true; decide +kernel
  | boa => show inV (.str "board") [.str "trestle", .str "board"] = true; decide +kernel
  | awa => show inV (.str "away") [.str "trestle", .str "board"] = false; decide +kernel
  | alo => show inV (.str "along") [.str "trestle", .str "board"] = false; decide +kernel
  | sac => show inV (.str "sack") [.str "trestle", .str "board"] = false; decide +kernel
  | mov => show inV (.str "move") [.str "trestle", .str "board"] = false; decide +kernel
  | lif => show inV (.str "lift") [.str "trestle", .str "board"] = false; decide +kernel
  | cor => show inV (.str "cord") [.str "trestle", .str "board"] = false; decide +kernel
  | cut => show inV (.str "cut") [.str "trestle", .str "board"] = false; decide +kernel
theorem inSh (d : Deed) : inV (.str (dW d)) [.str "away", .str "along"] = shK d := by
  cases d with
  | tre => show inV (.str "trestle") [.str "away", .str "along"] = false; decide +kernel
  | boa => show inV (.str "board") [.str "away", .str "along"] = false; decide +kernel
  | awa => show inV (.str "away") [.str "away", .str "along"] = true; decide +kernel
  | alo => show inV (.str "along") [.str "away", .str "along"] = true; decide +kernel
  | sac => show inV (.str "sack") [.str "away", .str "along"] = false; decide +kernel
  | mov => show inV (.str "move") [.str "away", .str "along"] = false; decide +kernel
  | lif => show inV (.str "lift") [.str "away", .str "along"] = false; decide +kernel
  | cor => show inV (.str "cord") [.str "away", .str "along"] = false; decide +kernel
  | cut => show inV (.str "cut") [.str "away", .str "along"] = false; decide +kernel
theorem inSa (d : Deed) : inV (.str (dW d)) [.str "sack", .str "move", .str "lift"] = saK d := by
  cases d with
  | tre => show inV (.str "trestle") [.str "sack", .str "move", .str "lift"] = false; decide +kernel
  | boa => show inV (.str "board") [.str "sack", .str "move", .str "lift"] = false; decide +kernel
  | awa => show inV (.str "away") [.str "sack", .str "move", .str "lift"] = false; decide +kernel
  | alo => show inV (.str "along") [.str "sack", .str "move", .str "lift"] = false; decide +kernel
  | sac => show inV (.str "sack") [.str "sack", .str "move", .str "lift"] = true; decide +kernel
  | mov => show inV (.str "move") [.str "sack", .str "move", .str "lift"] = true; decide +kernel
  | lif => show inV (.str "lift") [.str "sack", .str "move", .str "lift"] = true; decide +kernel
  | cor => show inV (.str "cord") [.str "sack", .str "move", .str "lift"] = false; decide +kernel
  | cut => show inV (.str "cut") [.str "sack", .str "move", .str "lift"] = false; decide +kernel
theorem inNew (d : Deed) : inV (.str (dW d)) [.str "trestle", .str "board", .str "sack", .str "cord"] = newK d := by
  cases d with
  | tre => show inV (.str "trestle") [.str "trestle", .str "board", .str "sack", .str "cord"] = true; decide +kernel
  | boa => show inV (.str "board") [.str "trestle", .str "board", .str "sack", .str "cord"] = true; decide +kernel
  | awa => show inV (.str "away") [.str "trestle", .str "board", .str "sack", .str "cord"] = false; decide +kernel
  | alo => show inV (.str "along") [.str "trestle", .str "board", .str "sack", .str "cord"] = false; decide +kernel
  | sac => show inV (.str "sack") [.str "trestle", .str "board", .str "sack", .str "cord"] = true; decide +kernel
  | mov => show inV (.str "move") [.str "trestle", .str "board", .str "sack", .str "cord"] = false; decide +kernel
  | lif => show inV (.str "lift") [.str "trestle", .str "board", .str "sack", .str "cord"] = false; decide +kernel
  | cor => show inV (.str "cord") [.str "trestle", .str "board", .str "sack", .str "cord"] = true; decide +kernel
  | cut => show inV (.str "cut") [.str "trestle", .str "board", .str "sack", .str "cord"] = false; decide +kernel
theorem kinds4 (d : Deed) (h1 : layK d = false) (h2 : shK d = false) (h3 : saK d = false) : coK d = true := by cases d <;> simp_all [layK, shK, saK, coK]
section
variable {P : Program} {w : World} {K : PySem.W.Frag} {mg : Str → Option Value} {base : Heap}
def spFault : Sp := fun vs H Q _ => ∃ (A : MA) (Y : Yd) (a : Addr) (d : Deed), vs = [.ref A.m, .ref a] ∧ IsM A H Y ∧ Gd Y ∧ Fit Y ∧ H a = some (.tup (.str (dW d) :: dR d)) ∧ dOk d ∧ ∀ H', Same H H' → Q (.str (erW (fault Y d))) H'
theorem dOk.len {d : Deed} (h : dOk d) : (dN d).length ≤ 1000 := by
  cases d with
  | tre => exact h.1
  | boa => exact h.1
  | awa => exact h.1
  | alo => exact h.1
  | sac => exact h.1.1
  | mov => exact h.1.1
  | lif => exact h.1
  | cor => exact h.1.1
  | cut => exact h.1
theorem ok_fault (T : L1 K mg) : FnOk P w K mg base CX0 4 T.d__law_fault.a T.d__law_fault.d ["_law_m", "_law_deed"] spFault := by
  have G__law_lay_fault : FnOk P w K mg base CX0 3 T.d__law_lay_fault.a T.d__law_lay_fault.d ["_law_m", "_law_deed"] spLay := ok_lay T.toL0
  have G__law_shift_fault : FnOk P w K mg base CX0 3 T.d__law_shift_fault.a T.d__law_shift_fault.d ["_law_m", "_law_deed"] spShF := ok_shift_fault T.toL01
  have G__law_sack_fault : FnOk P w K mg base CX0 3 T.d__law_sack_fault.a T.d__law_sack_fault.d ["_law_m", "_law_deed"] spSaF := ok_sack_fault T.toL01
  have G__law_cord_fault : FnOk P w K mg base CX0 3 T.d__law_cord_fault.a T.d__law_cord_fault.d ["_law_m", "_law_deed"] spCoF := ok_cord_fault T.toL01
  refine T.d__law_fault.F.ok sc__law_fault (fun vs H Q E h => ?_) (fun cdv A outer s H vs Q E hr h => ?_)
  · obtain ⟨_, _, _, _, rfl, _⟩ := h
    rfl
  · obtain ⟨B, Y, a, d, rfl, hm, gd, ft, ha, hz, q⟩ := h
    have hu := hu_of hr
    refine ⟨_, pss_cons (ps_set (i := 2) sc__law_fault.nd rfl (Or.inl rfl) (pe_disp (pps_cons pe_str pe_int (pps_cons pe_str pe_int (pps_cons pe_str pe_int (pps_cons pe_str pe_int (pps_cons pe_str pe_int (pps_cons pe_str pe_int (pps_cons pe_str pe_int (pps_cons pe_str pe_int (pps_cons pe_str pe_int pps_nil))))))))) (by rfl) (by rfl) (fun z => by cases z) (by decide)))
      (pss_cons (ps_if (PW.pt (pw_or (pt_cmpR op_eq (pe_callB call_len_seq (by rfl) T.n_len (by decide +kernel) (pa_cons (pv 1) pa_nil)) pe_int (nomark _)) (pw_or1 (pt_cmpR op_ne (pe_dget2 hu (pv 2) (pe_ix ix_tup (pv 1) pe_int (fun _ _ => rfl)) pe_int ⟨rfl, rfl, rfl, rfl⟩) (pe_callB call_len_seq (by rfl) T.n_len (by decide +kernel) (pa_cons (pv 1) pa_nil)) (nomark _))))) (pss_one (ps_ret pe_str)) pss_nil)
      (pss_cons (ps_if (pt_cmpR op_in_seq (pe_ix ix_tup (pv 1) pe_int (fun _ _ => rfl)) (pe_tup (pa_cons pe_str (pa_cons pe_str pa_nil))) (by rfl)) (pss_one (ps_ret (pe_call G__law_lay_fault (hr.mono (by decide)) (by rfl) T.d__law_lay_fault.g T.d__law_lay_fault.F.kp T.d__law_lay_fault.b .nil pass0 (pa_cons (pv 0) (pa_cons (pv 1) pa_nil))))) pss_nil)
      (pss_cons (ps_if (pt_cmpR op_in_seq (pe_ix ix_tup (pv 1) pe_int (fun _ _ => rfl)) (pe_tup (pa_cons pe_str (pa_cons pe_str pa_nil))) (by rfl)) (pss_one (ps_ret (pe_call G__law_shift_fault (hr.mono (by decide)) (by rfl) T.d__law_shift_fault.g T.d__law_shift_fault.F.kp T.d__law_shift_fault.b .nil pass0 (pa_cons (pv 0) (pa_cons (pv 1) pa_nil))))) pss_nil)
      (pss_cons (ps_if (pt_cmpR op_in_seq (pe_ix ix_tup (pv 1) pe_int (fun _ _ => rfl)) (pe_tup (pa_cons pe_str (pa_cons pe_str (pa_cons pe_str pa_nil)))) (by rfl)) (pss_one (ps_ret (pe_call G__law_sack_fault (hr.mono (by decide)) (by rfl) T.d__law_sack_fault.g T.d__law_sack_fault.F.kp T.d__law_sack_fault.b .nil pass0 (pa_cons (pv 0) (pa_cons (pv 1) pa_nil))))) pss_nil)
      (pss_one (ps_ret (pe_call G__law_cord_fault (hr.mono (by decide)) (by rfl) T.d__law_cord_fault.g T.d__law_cord_fault.F.kp T.d__law_cord_fault.b .nil pass0 (pa_cons (pv 0) (pa_cons (pv 1) pa_nil))))))))), ?_⟩
    intro p np
    refine ⟨upd_same, cntK, rfl, by show 9 ≤ 15; decide, ?_⟩
    have s1 : Same H (upd (upd H p (.dK [])) p (.dK (mergeK [] cntK))) := fun b o e => by
      rw [upd_ne (ne_of_none e np), upd_ne (ne_of_none e np)]
      exact e
    have e1 : (upd (upd H p (.dK [])) p (.dK (mergeK [] cntK))) p = some (.dK (mergeK [] cntK)) := upd_same
    generalize upd (upd H p (.dK [])) p (.dK (mergeK [] cntK)) = H1 at s1 e1 ⊢
    obtain ⟨m, hv, hl⟩ := cAll d
    refine ⟨_, rfl, a, _, rfl, .inr (SqT.of (s1 _ _ ha)), rfl, _, rfl, ?_⟩
    rw [decide_eq_false (show ¬ (V.int ((V.str (dW d) :: dR d).length : Nat) = V.int 0) from fun z => by have := V.int.inj z; simp at this; omega)]
    refine iteF ?_
    refine ⟨_, rfl, p, rfl, .inl ⟨_, .inl e1⟩, _, rfl, a, _, _, _, rfl, rfl, SqT.of (s1 _ _ ha), dR0 d, _, dget e1 hv, _, rfl, a, _, rfl, .inr (SqT.of (s1 _ _ ha)), rfl, _, rfl, ?_⟩
    rw [hl, show decide ((some (V.int m)).getD (V.int 0) = V.int m) = true from decide_eq_true rfl]
    refine iteF ?_
    refine ⟨_, rfl, a, _, _, _, rfl, rfl, SqT.of (s1 _ _ ha), dR0 d, by show 2 ≤ sizeLine; decide, fun tp ntp => ?_⟩
    have s2 := s1.trans (same_upd (o := .tup [.str "trestle", .str "board"]) ntp)
    refine ⟨tp, _, rfl, .inr (SqT.of upd_same), rfl, rfl, _, rfl, ?_⟩
    show (if inV (.str (dW d)) [.str "trestle", .str "board"] = true then _ else _ : Prop)
    rw [inLay]
    generalize upd H1 tp (.tup [.str "trestle", .str "board"]) = H2 at s2 ⊢
    refine ite2 (fun e => ?_) (fun x1 => ?_)
    · exact ⟨_, rfl, _, rfl, B, Y, a, d, rfl, hm.keep s2, gd, s2 _ _ ha, e, hz.len, fun H' s' => q H' (s2.trans s')⟩
    refine ⟨_, rfl, a, _, _, _, rfl, rfl, SqT.of (s2 _ _ ha), dR0 d, by show 2 ≤ sizeLine; decide, fun tp ntp => ?_⟩
    have s3 := s2.trans (same_upd (o := .tup [.str "away", .str "along"]) ntp)
    refine ⟨tp, _, rfl, .inr (SqT.of upd_same), rfl, rfl, _, rfl, ?_⟩
    show (if inV (.str (dW d)) [.str "away", .str "along"] = true then _ else _ : Prop)
    rw [inSh]
    generalize upd H2 tp (.tup [.str "away", .str "along"]) = H3 at s3 ⊢
    refine ite2 (fun e => ?_) (fun x2 => ?_)
    · exact ⟨_, rfl, _, rfl, B, Y, a, d, rfl, hm.keep s3, gd, ft, s3 _ _ ha, e, fun H' s' => q H' (s3.trans s')⟩
    refine ⟨_, rfl, a, _, _, _, rfl, rfl, SqT.of (s3 _ _ ha), dR0 d, by show 3 ≤ sizeLine; decide, fun tp ntp => ?_⟩
    have s4 := s3.trans (same_upd (o := .tup [.str "sack", .str "move", .str "lift"]) ntp)
    refine ⟨tp, _, rfl, .inr (SqT.of upd_same), rfl, rfl, _, rfl, ?_⟩
    show (if inV (.str (dW d)) [.str "sack", .str "move", .str "lift"] = true then _ else _ : Prop)
    rw [inSa]
    generalize upd H3 tp (.tup [.str "sack", .str "move", .str "lift"]) = H4 at s4 ⊢
    refine ite2 (fun e => ?_) (fun x3 => ?_)
    · exact ⟨_, rfl, _, rfl, B, Y, a, d, rfl, hm.keep s4, ft, s4 _ _ ha, e, hz, fun H' s' => q H' (s4.trans s')⟩
    exact ⟨_, rfl, _, rfl, B, Y, a, d, rfl, hm.keep s4, ft, s4 _ _ ha, kinds4 d (Bool.eq_false_iff.mpr x1) (Bool.eq_false_iff.mpr x2) (Bool.eq_false_iff.mpr x3), hz, fun H' s' => q H' (s4.trans s')⟩
/-! ### a step of the model: new dicts -/
/-! ### the rows by names, as the law tells them -/
def spLR {α : Type} (f : Str → α → List V) : Sp := fun vs H Q _ => ∃ (a : Addr) (kvs : List (Key × V)) (T : List (Str × α)), vs = [.ref a] ∧ H a = some (.dK kvs) ∧ Rows H f kvs T ∧ T.length < 64 ∧ (∀ n x, getT T n = some x → (f n x).length ≤ 10 ∧ f n x ≠ []) ∧ ∀ H' p us, Same H H' → H p = none → H' p = some (.lst us) → Told H' (fun n x => .str n :: f n x) T us → Q (.ref p) H'
theorem ok_lrows {α : Type} (f : Str → α → List V) (T : L1 K mg) : FnOk P w K mg base CX0 1 T.d__law_rows.a T.d__law_rows.d ["_law_kept"] (spLR f) := by
  refine T.d__law_rows.F.ok sc__law_rows (fun vs H Q E h => ?_) (fun cdv A outer s H vs Q E hr h => ?_)
  · obtain ⟨_, _, _, rfl, _⟩ := h
    rfl
  · obtain ⟨a, kvs, Tb, rfl, ha, r, hl, hf, q⟩ := h
    have hu := hu_of hr
    refine ⟨_, pss_one (ps_ret (pe_lc (own := [("_law_name", 1)]) (g := (gName 1)) (tt := tYes) (by rfl) sc__law_rows.nd (pi_list (pe_callB (call_sortedD rfl) (by rfl) T.n_sorted (by decide +kernel) (pa_cons (pv 0) pa_nil))) (blkOk_by (N := N__law_rows) (sc := defScope s__law_rows) (by decide +kernel)) (fun _ _ _ _ _ => (pg_name (i := 1) sc__law_rows.nd rfl (Or.inl rfl))) (fun _ _ _ _ _ => pts_nil) (fun _ _ _ _ _ => (pe_op (r := rCatT K) op_catT (pe_tup (pa_cons (pv 1) pa_nil)) (pe_dget hu (pv 0) (pv 1) (fun _ _ => rfl)))))), ?_⟩
    refine ⟨_, rfl, a, kvs, Tb.map (·.1), rfl, .inl ha, r.keys, by rw [List.length_map]; exact hl, fun ys p hp hs np => ?_⟩
    have s1 : Same H (upd H p (.lst (ys.map V.str))) := same_upd np
    have ep : (upd H p (.lst (ys.map V.str))) p = some (.lst (ys.map V.str)) := upd_same
    generalize upd H p (.lst (ys.map V.str)) = H1 at s1 ep ⊢
    refine ⟨p, rfl, ⟨_, SqL.of ep⟩, fun D nD => ?_⟩
    refine lc_list (K := K) (a := p) (xs := ys.map V.str) (fun i H' => Same H1 H' ∧ ∃ us, H' D = some (.lst us) ∧ us.length = i ∧ Paired (fun n v => ∃ p x, v = V.ref p ∧ getT Tb n = some x ∧ H' p = some (.tup (.str n :: f n x))) (ys.take i) us)
      ⟨same_upd nD, [], upd_same, rfl, .nil⟩ (fun i H' _ p => SqL.of (p.1 _ _ ep)) (fun i x H' hx p => ?_) (fun H' p => ?_)
    · obtain ⟨sm', us, eD, hus, pd⟩ := p
      obtain ⟨n, hn, rfl⟩ : ∃ n, ys[i]? = some n ∧ x = .str n := by
        rw [List.getElem?_map] at hx
        cases e : ys[i]? with
        | none => rw [e] at hx; cases hx
        | some n => rw [e] at hx; exact ⟨n, rfl, (Option.some.inj hx).symm⟩
      have hm : n ∈ Tb.map (·.1) := hp.mem_iff.mp (List.mem_of_getElem? hn)
      obtain ⟨x, hx2⟩ := has_mem hm
      have ts := TS.of (s1.trans sm')
      rcases (r.keep ts).get n with ⟨_, z⟩ | ⟨pr, x', hv, hx3, er⟩
      · rw [z] at hx2
        cases hx2
      · have hi : i < ys.length := (List.getElem?_eq_some_iff.mp hn).1
        have hyl : ys.length = Tb.length := by rw [hp.length_eq, List.length_map]
        obtain ⟨f1, f2⟩ := hf n x' hx3
        refine ⟨rfl, yes (iteT ?_)⟩
        refine ⟨_, rfl, by show 1 ≤ sizeLine; decide, fun tp ntp => ?_⟩
        have s2 : Same H' (upd H' tp (.tup [.str n])) := same_upd ntp
        have e2 : (upd H' tp (.tup [.str n])) tp = some (.tup [.str n]) := upd_same
        generalize upd H' tp (.tup [.str n]) = H2 at s2 e2 ⊢
        refine ⟨_, rfl, _, rfl, a, .ref pr, rfl, dget (s2 _ _ (s1.trans sm' _ _ ha)) hv, tp, pr, _, _, rfl, rfl, SqT.of e2, SqT.of (s2 _ _ er), by simp, sm (by simp only [List.length_cons, List.length_nil]; omega), fun z => absurd z f2, fun _ pn npn => ?_⟩
        have s3 : Same H2 (upd H2 pn (.tup ([.str n] ++ f n x'))) := same_upd npn
        have e3 : (upd H2 pn (.tup ([.str n] ++ f n x'))) pn = some (.tup (.str n :: f n x')) := upd_same
        generalize upd H2 pn (.tup ([.str n] ++ f n x')) = H3 at s3 e3 ⊢
        have eD3 := s3 _ _ (s2 _ _ eD)
        refine ⟨us, eD3, ?_, ?_, us ++ [.ref pn], ?_, ?_, ?_⟩
        · exact small1000 (by omega)
        · intro b o e
          rw [upd_ne (ne_of_none e nD)]
          exact s3 _ _ (s2 _ _ (sm' _ _ e))
        · rw [upd_same]
        · rw [List.length_append, hus]
          rfl
        · have ts2 : TS H3 (upd H3 D (.lst (us ++ [.ref pn]))) := .upd fun xs z => by rw [eD3] at z; cases z
          rw [List.take_add_one, hn]
          exact paired_snoc ⟨pn, x', rfl, hx3, ts2 _ _ e3⟩ (paired_keep (f := fun n x => .str n :: f n x) ((TS.of (s2.trans s3)).trans ts2) pd)
    · obtain ⟨sm', us, eD, hus, pd⟩ := p
      rw [List.length_map, List.take_length] at pd
      exact q H' D us (s1.trans sm') (s1.free nD) eD ⟨ys, ⟨hp, hs⟩, pd⟩
end
end DY
namespace DY
open PySem PySem.Spec PyProof.Rows L2
def allN (Y : Yd) : List Str := Y.tr.map (·.1) ++ (Y.bo.map (·.1) ++ (Y.sa.map (·.1) ++ Y.co.map (·.1)))
/-- what holds of every yard that comes of deeds -/
structure Std (Y : Yd) : Prop where
  gd : Gd Y
  ft : Fit Y
  nm : ∀ z ∈ allN Y, Nm z
  on : ∀ q ∈ Y.sa, hasT Y.bo q.2.1 = true
  sn : (Y.sa.map (·.1)).Nodup
theorem Std.sm {Y : Yd} (h : Std Y) : Sml Y := by
  have n := h.nm
  unfold allN at n
  refine ⟨fun q hq => ?_, fun z hz => (n z (by simp only [List.mem_append]; exact .inr (.inr (.inl hz)))).1, fun z hz => (n z (by simp only [List.mem_append]; exact .inr (.inr (.inr hz)))).1⟩
  unfold lies at hq
  rcases List.mem_append.mp hq with z | z
  · obtain ⟨x, hx, rfl⟩ := List.mem_map.mp z
    exact (n x.1 (by simp only [List.mem_append]; exact .inr (.inl (List.mem_map_of_mem hx)))).1
  · obtain ⟨x, hx, rfl⟩ := List.mem_map.mp z
    exact (n x.1 (by simp only [List.mem_append]; exact .inl (List.mem_map_of_mem hx))).1
/-- a model of one's own -/
structure Own (H0 H : Hp) (A : MA) (Y : Yd) : Prop where
  is : IsM A H Y
  sm : Same H0 H
  nw : Nw H0 A
  nd : A.t ≠ A.m ∧ A.b ≠ A.m ∧ A.s ≠ A.m ∧ A.c ≠ A.m ∧ A.b ≠ A.t ∧ A.s ≠ A.t ∧ A.s ≠ A.b ∧ A.c ≠ A.t ∧ A.c ≠ A.b ∧ A.c ≠ A.s
theorem Own.keep {H0 H H1 : Hp} {A : MA} {Y : Yd} (o : Own H0 H A Y) (s : Same H H1) : Own H0 H1 A Y := ⟨o.is.keep s, o.sm.trans s, o.nw, o.nd⟩
theorem dF {x y : Str} (h : x ≠ y) : decide (V.str x = V.str y) = false := by rw [decide_str]; exact decide_eq_false h
theorem Own.updT {H0 H : Hp} {A : MA} {Y : Yd} (o : Own H0 H A Y) {k' : List (Key × V)} {T' : List (Str × TrR)} (r : Rows H trL k' T') (hl : T'.length ≤ 6) : Own H0 (upd H A.t (.dK k')) A { Y with tr := T' } ∧ TS H (upd H A.t (.dK k')) := by
  obtain ⟨is, s, nw, n1, n2, n3, n4, n5, n6, n7, n8, n9, n10⟩ := o
  obtain ⟨om, ⟨kt, et, rt⟩, ⟨kb, eb, rb⟩, ⟨ks, es, rs⟩, ⟨kc, ec, rc⟩, le⟩ := is
  have ts : TS H (upd H A.t (.dK k')) := .upd fun xs z => by rw [et] at z; cases z
  refine ⟨⟨⟨?_, ?_, ?_, ?_, ?_, ?_⟩, fun p x e => ?_, nw, n1, n2, n3, n4, n5, n6, n7, n8, n9, n10⟩, ts⟩
  · rw [upd_ne n1.symm]; exact om
  · exact ⟨k', upd_same, r.keep ts⟩
  · refine ⟨kb, ?_, rb.keep ts⟩; rw [upd_ne n5]; exact eb
  · refine ⟨ks, ?_, rs.keep ts⟩; rw [upd_ne n6]; exact es
  · refine ⟨kc, ?_, rc.keep ts⟩; rw [upd_ne n8]; exact ec
  · exact ⟨hl, le.2.1, le.2.2.1, le.2.2.2⟩
  · rw [upd_ne (ne_of_none e nw.2.1)]; exact s _ _ e
theorem Own.updB {H0 H : Hp} {A : MA} {Y : Yd} (o : Own H0 H A Y) {k' : List (Key × V)} {T' : List (Str × BoR)} (r : Rows H boL k' T') (hl : T'.length ≤ 6) : Own H0 (upd H A.b (.dK k')) A { Y with bo := T' } ∧ TS H (upd H A.b (.dK k')) := by
  obtain ⟨is, s, nw, n1, n2, n3, n4, n5, n6, n7, n8, n9, n10⟩ := o
  obtain ⟨om, ⟨kt, et, rt⟩, ⟨kb, eb, rb⟩, ⟨ks, es, rs⟩, ⟨kc, ec, rc⟩, le⟩ := is
  have ts : TS H (upd H A.b (.dK k')) := .upd fun xs z => by rw [eb] at z; cases z
  refine ⟨⟨⟨?_, ?_, ?_, ?_, ?_, ?_⟩, fun p x e => ?_, nw, n1, n2, n3, n4, n5, n6, n7, n8, n9, n10⟩, ts⟩
  · rw [upd_ne n2.symm]; exact om
  · refine ⟨kt, ?_, rt.keep ts⟩; rw [upd_ne n5.symm]; exact et
  · exact ⟨k', upd_same, r.keep ts⟩
  · refine ⟨ks, ?_, rs.keep ts⟩; rw [upd_ne n7]; exact es
  · refine ⟨kc, ?_, rc.keep ts⟩; rw [upd_ne n9]; exact ec
  · exact ⟨le.1, hl, le.2.2.1, le.2.2.2⟩
  · rw [upd_ne (ne_of_none e nw.2.2.1)]; exact s _ _ e
theorem Own.updS {H0 H : Hp} {A : MA} {Y : Yd} (o : Own H0 H A Y) {k' : List (Key × V)} {T' : List (Str × SaR)} (r : Rows H saL k' T') (hl : T'.length ≤ 8) : Own H0 (upd H A.s (.dK k')) A { Y with sa := T' } ∧ TS H (upd H A.s (.dK k')) := by
  obtain ⟨is, s, nw, n1, n2, n3, n4, n5, n6, n7, n8, n9, n10⟩ := o
  obtain ⟨om, ⟨kt, et, rt⟩, ⟨kb, eb, rb⟩, ⟨ks, es, rs⟩, ⟨kc, ec, rc⟩, le⟩ := is
  have ts : TS H (upd H A.s (.dK k')) := .upd fun xs z => by rw [es] at z; cases z
  refine ⟨⟨⟨?_, ?_, ?_, ?_, ?_, ?_⟩, fun p x e => ?_, nw, n1, n2, n3, n4, n5, n6, n7, n8, n9, n10⟩, ts⟩
  · rw [upd_ne n3.symm]; exact om
  · refine ⟨kt, ?_, rt.keep ts⟩; rw [upd_ne n6.symm]; exact et
  · refine ⟨kb, ?_, rb.keep ts⟩; rw [upd_ne n7.symm]; exact eb
  · exact ⟨k', upd_same, r.keep ts⟩
  · refine ⟨kc, ?_, rc.keep ts⟩; rw [upd_ne n10]; exact ec
  · exact ⟨le.1, le.2.1, hl, le.2.2.2⟩
  · rw [upd_ne (ne_of_none e nw.2.2.2.1)]; exact s _ _ e
theorem Own.updC {H0 H : Hp} {A : MA} {Y : Yd} (o : Own H0 H A Y) {k' : List (Key × V)} {T' : List (Str × CoR)} (r : Rows H coL k' T') (hl : T'.length ≤ 4) : Own H0 (upd H A.c (.dK k')) A { Y with co := T' } ∧ TS H (upd H A.c (.dK k')) := by
  obtain ⟨is, s, nw, n1, n2, n3, n4, n5, n6, n7, n8, n9, n10⟩ := o
  obtain ⟨om, ⟨kt, et, rt⟩, ⟨kb, eb, rb⟩, ⟨ks, es, rs⟩, ⟨kc, ec, rc⟩, le⟩ := is
  have ts : TS H (upd H A.c (.dK k')) := .upd fun xs z => by rw [ec] at z; cases z
  refine ⟨⟨⟨?_, ?_, ?_, ?_, ?_, ?_⟩, fun p x e => ?_, nw, n1, n2, n3, n4, n5, n6, n7, n8, n9, n10⟩, ts⟩
  · rw [upd_ne n4.symm]; exact om
  · refine ⟨kt, ?_, rt.keep ts⟩; rw [upd_ne n8.symm]; exact et
  · refine ⟨kb, ?_, rb.keep ts⟩; rw [upd_ne n9.symm]; exact eb
  · refine ⟨ks, ?_, rs.keep ts⟩; rw [upd_ne n10.symm]; exact es
  · exact ⟨k', upd_same, r.keep ts⟩
  · exact ⟨le.1, le.2.1, le.2.2.1, hl⟩
  · rw [upd_ne (ne_of_none e nw.2.2.2.2)]; exact s _ _ e
theorem tak {Y : Yd} {n : Str} (h : taken Y n = false) : hasT Y.bo n = false ∧ hasT Y.tr n = false ∧ hasT Y.sa n = false ∧ hasT Y.co n = false := by
  unfold taken at h
  simp only [Bool.or_eq_false_iff] at h
  exact h
def cap : Deed → Nat
  | .tre .. => 6
  | .boa .. => 6
  | .sac .. => 8
  | _ => 4
theorem newF {Y : Yd} {d : Deed} (h : newK d = true) (hf : fault Y d = none) : isName (dN d) = true ∧ taken Y (dN d) = false ∧ tabN Y d < cap d := by
  cases d with
  | tre n c l r =>
    have hf' : faultT Y n c l r = none := hf
    show isName n = true ∧ taken Y n = false ∧ Y.tr.length < 6
    unfold faultT at hf'
    cases h1 : isName n with
    | false => simp [h1] at hf'
    | true =>
      cases h2 : taken Y n with
      | true => simp [h1, h2] at hf'
      | false =>
        refine ⟨rfl, rfl, ?_⟩
        by_cases h6 : 6 ≤ Y.tr.length
        · exfalso
          revert hf'
          simp only [h1, h2, h6]
          repeat' split
          all_goals simp_all
        · omega
  | boa n c l r g =>
    have hf' : faultB Y n c l r g = none := hf
    show isName n = true ∧ taken Y n = false ∧ Y.bo.length < 6
    unfold faultB at hf'
    cases h1 : isName n with
    | false => simp [h1] at hf'
    | true =>
      cases h2 : taken Y n with
      | true => simp [h1, h2] at hf'
      | false =>
        refine ⟨rfl, rfl, ?_⟩
        by_cases h6 : 6 ≤ Y.bo.length
        · exfalso
          revert hf'
          simp only [h1, h2, h6]
          repeat' split
          all_goals simp_all
        · omega
  | sac n b p g =>
    have hf' : faultSa Y n b p g = none := hf
    show isName n = true ∧ taken Y n = false ∧ Y.sa.length < 8
    unfold faultSa at hf'
    cases h1 : isName n with
    | false => simp [h1] at hf'
    | true =>
      cases h2 : taken Y n with
      | true => simp [h1, h2] at hf'
      | false =>
        refine ⟨rfl, rfl, ?_⟩
        by_cases h6 : 8 ≤ Y.sa.length
        · exfalso
          revert hf'
          simp only [h1, h2, h6]
          repeat' split
          all_goals simp_all
        · omega
  | cor n u lo p =>
    have hf' : faultTi Y n u lo p = none := hf
    show isName n = true ∧ taken Y n = false ∧ Y.co.length < 4
    unfold faultTi at hf'
    cases h1 : isName n with
    | false => simp [h1] at hf'
    | true =>
      cases h2 : taken Y n with
      | true => simp [h1, h2] at hf'
      | false =>
        refine ⟨rfl, rfl, ?_⟩
        by_cases h6 : 4 ≤ Y.co.length
        · exfalso
          revert hf'
          simp only [h1, h2, h6]
          repeat' split
          all_goals simp_all
        · omega
  | _ => cases h
theorem alive_tr {Y : Yd} (g : Gd Y) {n : Str} (h : hasT Y.tr n = true) : hasT Y.bo n = false := by
  obtain ⟨x, hx⟩ := hasT_some h
  cases e : hasT Y.bo n with
  | false => rfl
  | true =>
    obtain ⟨y, hy⟩ := hasT_some e
    unfold Gd at g
    rw [List.nodup_append] at g
    exact absurd rfl (g.2.2 n (List.mem_map_of_mem (f := (·.1)) (get_mem hx)) n (List.mem_map_of_mem (f := (·.1)) (get_mem hy)))
theorem get_no {α : Type} {T : List (Str × α)} {n : Str} (h : hasT T n = false) : getT T n = none := hasT_none h
theorem get_yes {α : Type} {T : List (Str × α)} {n : Str} {x : α} (h : getT T n = some x) : hasT T n = true := by unfold hasT; rw [h]; rfl
theorem val_none {α : Type} {H : Hp} {f : Str → α → List V} {kvs : List (Key × V)} {T : List (Str × α)} (r : Rows H f kvs T) {n : Str} (h : hasT T n = false) : valV kvs (Sum.inr n) = none := by
  have z := r.has n
  rw [h] at z
  cases y : valV kvs (Sum.inr n) with
  | none => rfl
  | some v => rw [y] at z; cases z
theorem shift_none {b : Str} {k : Int} : ∀ {l acc : List (Str × SaR)}, (∀ q ∈ l, q.2.1 ≠ b) → l.foldl (shiftF b k) acc = acc
  | [], _, _ => rfl
  | q :: l, acc, h => by
    rw [List.foldl_cons]
    have e : shiftF b k acc q = acc := by unfold shiftF; rw [if_neg (h q List.mem_cons_self)]
    rw [e]
    exact shift_none fun q hq => h q (List.mem_cons_of_mem _ hq)
theorem Rows.atK {α : Type} {H : Hp} {f : Str → α → List V} {kvs : List (Key × V)} {T : List (Str × α)} (r : Rows H f kvs T) : ∀ (i : Nat) (k : Key) (v : V), kvs[i]? = some (k, v) → ∃ p n x, k = Sum.inr n ∧ v = .ref p ∧ T[i]? = some (n, x) ∧ H p = some (.tup (f n x)) := by
  induction r with
  | nil => intro i k v h; cases h
  | @cons m x p kvs T h0 _ ih =>
    intro i k v h
    cases i with
    | zero => cases h; exact ⟨p, m, x, rfl, rfl, rfl, h0⟩
    | succ i => exact ih i k v h
theorem Own.unl {H H' : Hp} {b : Addr} {A : MA} {Y : Yd} {od : Obj} {k3 : List (Key × V)} (o : Own (fun x => if x = b then none else H x) H' A Y) (nw : Nw H A) (e3 : H b = some (.dK k3)) (ef : H' b = some (.frz od (.dK k3))) : Own H (upd H' b (.dK k3)) A Y := by
  obtain ⟨is, sm0, _, nd⟩ := o
  obtain ⟨om, ⟨kt, et, rt⟩, ⟨kb, eb, rb⟩, ⟨ks, es, rs⟩, ⟨kc, ec, rc⟩, le'⟩ := is
  obtain ⟨w1, w2, w3, w4, w5⟩ := nw
  have up : ∀ p, H p = none → upd H' b (.dK k3) p = H' p := fun p hp => upd_ne (ne_of_none e3 hp).symm
  have ts : TS H' (upd H' b (.dK k3)) := .upd fun xs z => by rw [ef] at z; cases z
  refine ⟨⟨(up _ w1).trans om, ⟨kt, (up _ w2).trans et, rt.keep ts⟩, ⟨kb, (up _ w3).trans eb, rb.keep ts⟩, ⟨ks, (up _ w4).trans es, rs.keep ts⟩, ⟨kc, (up _ w5).trans ec, rc.keep ts⟩, le'⟩, fun p o e => ?_, ⟨w1, w2, w3, w4, w5⟩, nd⟩
  by_cases z : p = b
  · rw [z, upd_same, ← e3, ← z]
    exact e
  · rw [upd_ne z]
    exact sm0 _ _ (by simp only [z, if_false]; exact e)
/-- the tables behind i of the two kinds -/
def alY (Y : Yd) (n : Str) (k : Int) (i : Nat) : Yd :=
  { Y with tr := (match i, getT Y.tr n with | 0, _ => Y.tr | _ + 1, none => Y.tr | _ + 1, some x => putT Y.tr n (x.1, x.2.1 + k, x.2.2 + k)),
           bo := (match i, getT Y.bo n with | 0, _ => Y.bo | 1, _ => Y.bo | _ + 2, none => Y.bo | _ + 2, some x => putT Y.bo n (x.1, x.2.1 + k, x.2.2.1 + k, x.2.2.2)) }
theorem alY_end {Y : Yd} (st : Std Y) {n : Str} {k : Int} (hf : faultAl Y n k = none) : { alY Y n k 2 with sa := shiftS Y.sa n k } = stepAl Y n k := by
  unfold alY stepAl
  cases e1 : getT Y.tr n with
  | some x =>
    have nb := alive_tr st.gd (get_yes e1)
    rw [get_no nb]
    have es : shiftS Y.sa n k = Y.sa := shift_none fun q hq z => by
      have := st.on q hq
      rw [z, nb] at this
      cases this
    simp only [es]
  | none =>
    cases e2 : getT Y.bo n with
    | some x => rfl
    | none =>
      unfold faultAl thingY at hf
      rw [e1, e2] at hf
      cases hf
end DY
namespace DY
open PySem PySem.Spec PyProof.Rows L2
/-- behind i copies -/
structure Cp (H H' : Hp) (A : MA) (k1 k2 k3 k4 : List (Key × V)) (i : Nat) : Prop where
  sm : Same H H'
  ob : H' A.m = some (.dK ((kvM A).take i))
  nm : H A.m = none
  t : 1 ≤ i → H' A.t = some (.dK k1) ∧ H A.t = none ∧ A.t ≠ A.m
  b : 2 ≤ i → H' A.b = some (.dK k2) ∧ H A.b = none ∧ A.b ≠ A.m ∧ A.b ≠ A.t
  s : 3 ≤ i → H' A.s = some (.dK k3) ∧ H A.s = none ∧ A.s ≠ A.m ∧ A.s ≠ A.t ∧ A.s ≠ A.b
  c : 4 ≤ i → H' A.c = some (.dK k4) ∧ H A.c = none ∧ A.c ≠ A.m ∧ A.c ≠ A.t ∧ A.c ≠ A.b ∧ A.c ≠ A.s
section
variable {P : Program} {w : World} {K : PySem.W.Frag} {mg : Str → Option Value} {base : Heap}
def spStep : Sp := fun vs H Q _ => ∃ (A : MA) (Y : Yd) (a : Addr) (d : Deed), vs = [.ref A.m, .ref a] ∧ IsM A H Y ∧ Std Y ∧ H a = some (.tup (.str (dW d) :: dR d)) ∧ fault Y d = none ∧ ∀ (A' : MA) H', Same H H' → Nw H A' → IsM A' H' (step Y d) → Q (.ref A'.m) H'
theorem Own.fin {H H' : Hp} {A : MA} {Y : Yd} {Q : VK} (q : ∀ (A' : MA) H', Same H H' → Nw H A' → IsM A' H' Y → Q (.ref A'.m) H') (o : Own H H' A Y) : Q (.ref A.m) H' := q A H' o.sm o.nw o.is
theorem tup_not {α : Type} {H : Hp} {f : Str → α → List V} {kvs : List (Key × V)} {T : List (Str × α)} {a : Addr} {xs : List V} (r : Rows H f kvs T) (e : H a = some (.tup xs)) : H a = some (.tup xs) := e
theorem ok_lstep (T : L1 K mg) : FnOk P w K mg base CX0 1 T.d__law_step.a T.d__law_step.d ["_law_m", "_law_deed"] spStep := by
  refine T.d__law_step.F.ok sc__law_step (fun vs H Q E h => ?_) (fun cdv A outer s H vs Q E hr h => ?_)
  · obtain ⟨_, _, _, _, rfl, _⟩ := h
    rfl
  · obtain ⟨B, Y, a, d, rfl, hm, st, ha, hf, q⟩ := h
    have hu := hu_of hr
    obtain ⟨k1, e1, r1⟩ := hm.tr
    obtain ⟨k2, e2, r2⟩ := hm.bo
    obtain ⟨k3, e3, r3⟩ := hm.sa
    obtain ⟨k4, e4, r4⟩ := hm.co
    refine ⟨_, pss_cons (ps_set (i := 2) sc__law_step.nd rfl (Or.inl rfl) pe_dnewK)
      (pss_cons (ps_for PassesOwn.never rfl (pi_tup (pe_tup (pa_cons pe_str (pa_cons pe_str (pa_cons pe_str (pa_cons pe_str pa_nil)))))) (pg_name (i := 3) sc__law_step.nd rfl (Or.inl rfl))
        (pss_one (ps_dput hu (pv 2) (pv 3) (pe_callTy call_dictD (by rfl) T.n_dict (by decide +kernel) (pa_cons (pe_dget hu (pv 0) (pv 3) (fun _ _ => rfl)) pa_nil)) rfl)))
      (pss_cons (ps_set (i := 3) sc__law_step.nd rfl (Or.inl rfl) (pe_ix ix_tup (pv 1) pe_int (fun _ _ => rfl)))
      (pss_cons (ps_if (pt_cmpR op_in_seq (pv 3) (pe_tup (pa_cons pe_str (pa_cons pe_str (pa_cons pe_str (pa_cons pe_str pa_nil))))) (by rfl)) (pss_one (ps_dput hu (pe_dget hu (pv 2) (pe_op op_add_str (pv 3) pe_str) (fun _ _ => rfl)) (pe_ix ix_tup (pv 1) pe_int (fun _ _ => rfl)) (pe_slice sl_tup (pv 1) (po_some pe_int) po_none) rfl)) (pss_one (ps_if (pt_cmpR op_eq (pv 3) pe_str (nomark _)) (pss_cons (ps_expr (pe_dpop2 (pe_dget hu (pv 2) pe_str (fun _ _ => rfl)) (pe_ix ix_tup (pv 1) pe_int (fun _ _ => rfl)) pe_int ⟨rfl, rfl, rfl, rfl⟩))
      (pss_one (ps_expr (pe_dpop2 (pe_dget hu (pv 2) pe_str (fun _ _ => rfl)) (pe_ix ix_tup (pv 1) pe_int (fun _ _ => rfl)) pe_int ⟨rfl, rfl, rfl, rfl⟩)))) (pss_one (ps_if (pt_cmpR op_eq (pv 3) pe_str (nomark _)) (pss_cons (ps_for PassesOwn.never rfl (pi_tup (pe_tup (pa_cons pe_str (pa_cons pe_str pa_nil)))) (pg_name (i := 4) sc__law_step.nd rfl (Or.inl rfl))
        (pss_one (ps_if (pt_cmp (pc_din hu (pe_ix ix_tup (pv 1) pe_int (fun _ _ => rfl)) (pe_dget hu (pv 0) (pv 4) (fun _ _ => rfl)))) (pss_cons (ps_set (i := 5) sc__law_step.nd rfl (Or.inl rfl) (pe_dget hu (pe_dget hu (pv 0) (pv 4) (fun _ _ => rfl)) (pe_ix ix_tup (pv 1) pe_int (fun _ _ => rfl)) (fun _ _ => rfl)))
      (pss_one (ps_dput hu (pe_dget hu (pv 2) (pv 4) (fun _ _ => rfl)) (pe_ix ix_tup (pv 1) pe_int (fun _ _ => rfl)) (pe_op (r := rCatT K) op_catT (pe_tup (pa_cons (pe_ix ix_tup (pv 5) pe_int (fun _ _ => rfl)) (pa_cons (pe_op op_add (pe_ix ix_tup (pv 5) pe_int (fun _ _ => rfl)) (pe_ix ix_tup (pv 1) pe_int (fun _ _ => rfl))) (pa_cons (pe_op op_add (pe_ix ix_tup (pv 5) pe_int (fun _ _ => rfl)) (pe_ix ix_tup (pv 1) pe_int (fun _ _ => rfl))) pa_nil)))) (pe_slice sl_tup (pv 5) (po_some pe_int) po_none)) rfl))) pss_nil)))
      (pss_one (ps_lock (ps_for PassesOwn.never rfl (pi_keys (pe_dget hu (pv 0) pe_str (fun _ _ => rfl))) (pg_name (i := 6) sc__law_step.nd rfl (Or.inl rfl))
        (pss_cons (ps_asg (pe_dget hu (pe_dget hu (pv 0) pe_str (fun _ _ => rfl)) (pv 6) (fun _ _ => rfl)) (pg_tup rfl (pgs_cons (pg_name (i := 7) sc__law_step.nd rfl (Or.inl rfl)) (pgs_cons (pg_name (i := 8) sc__law_step.nd rfl (Or.inl rfl)) (pgs_cons (pg_name (i := 9) sc__law_step.nd rfl (Or.inl rfl)) pgs_nil)))))
      (pss_one (ps_if (pt_cmpR op_eq (pv 7) (pe_ix ix_tup (pv 1) pe_int (fun _ _ => rfl)) (nomark _)) (pss_one (ps_dput hu (pe_dget hu (pv 2) pe_str (fun _ _ => rfl)) (pv 6) (pe_tup (pa_cons (pv 7) (pa_cons (pe_op op_add (pv 8) (pe_ix ix_tup (pv 1) pe_int (fun _ _ => rfl))) (pa_cons (pv 9) pa_nil)))) rfl)) pss_nil))))))) (pss_one (ps_if (pt_cmpR op_eq (pv 3) pe_str (nomark _)) (pss_one (ps_dput hu (pe_dget hu (pv 2) pe_str (fun _ _ => rfl)) (pe_ix ix_tup (pv 1) pe_int (fun _ _ => rfl)) (pe_op (r := rCatT K) op_catT (pe_slice sl_tup (pv 1) (po_some pe_int) po_none) (pe_slice sl_tup (pe_dget hu (pe_dget hu (pv 0) pe_str (fun _ _ => rfl)) (pe_ix ix_tup (pv 1) pe_int (fun _ _ => rfl)) (fun _ _ => rfl)) (po_some pe_int) po_none)) rfl)) (pss_one (ps_if (pt_cmpR op_eq (pv 3) pe_str (nomark _)) (pss_one (ps_expr (pe_dpop1 (pe_dget hu (pv 2) pe_str (fun _ _ => rfl)) (pe_ix ix_tup (pv 1) pe_int (fun _ _ => rfl)) ⟨rfl, rfl, rfl, rfl⟩))) (pss_one (ps_expr (pe_dpop1 (pe_dget hu (pv 2) pe_str (fun _ _ => rfl)) (pe_ix ix_tup (pv 1) pe_int (fun _ _ => rfl)) ⟨rfl, rfl, rfl, rfl⟩))))))))))))
      (pss_one (ps_ret (pv 2)))))), ?_⟩
    intro nw nnw
    have s0 : Same H (upd H nw (.dK [])) := same_upd nnw
    have e0 : (upd H nw (.dK [])) nw = some (.dK []) := upd_same
    generalize upd H nw (.dK []) = H0 at s0 e0 ⊢
    refine ⟨by show 4 ≤ sizeLine; decide, fun tp ntp => ?_⟩
    have s1 : Same H0 (upd H0 tp (.tup [.str "trestles", .str "boards", .str "sacks", .str "cords"])) := same_upd ntp
    have et : (upd H0 tp (.tup [.str "trestles", .str "boards", .str "sacks", .str "cords"])) tp = some (.tup [.str "trestles", .str "boards", .str "sacks", .str "cords"]) := upd_same
    generalize upd H0 tp (.tup [.str "trestles", .str "boards", .str "sacks", .str "cords"]) = H1 at s1 et ⊢
    refine ⟨tp, rfl, ⟨_, SqT.of et⟩, ?_⟩
    refine for_tup (K := K) (a := tp) (xs := [.str "trestles", .str "boards", .str "sacks", .str "cords"]) (fun i σ H' => H' tp = some (.tup [.str "trestles", .str "boards", .str "sacks", .str "cords"]) ∧ (∃ y3, σ = [some (.ref B.m), some (.ref a), some (.ref nw), y3, none, none, none, none, none, none]) ∧ ∃ A' : MA, A'.m = nw ∧ Cp H H' A' k1 k2 k3 k4 i)
      ⟨et, ⟨_, rfl⟩, ⟨nw, 0, 0, 0, 0⟩, rfl, s0.trans s1, s1 _ _ e0, nnw, fun z => absurd z (by decide), fun z => absurd z (by decide), fun z => absurd z (by decide), fun z => absurd z (by decide)⟩ (fun i σ H' _ p => SqT.of p.1) (fun i x σ H' hx p => ?_) (fun σ H' p => ?_)
    · obtain ⟨et', ⟨y3, rfl⟩, A', rfl, cp⟩ := p
      have turn : ∀ (z : Str) (t : Addr) (kvs : List (Key × V)), x = .str z → valV (kvM B) (Sum.inr z) = some (.ref t) → H t = some (.dK kvs) → valV ((kvM A').take i) (Sum.inr z) = none → i < 4 →
          ∀ (D : Ends), (∀ p, H' p = none → D.nx [some (.ref B.m), some (.ref a), some (.ref A'.m), some (.str z), none, none, none, none, none, none] (upd (upd H' p (.dK kvs)) A'.m (.dK ((kvM A').take i ++ [(Sum.inr z, .ref p)])))) →
          sDPut (tVar 2) (tVar 3) (tCB (fun xs H Q => ∃ (a : Addr) (kvs : List (Key × V)), xs = [.ref a] ∧ Rd H a (.dK kvs) ∧ ∀ p, H p = none → Q (.ref p) (upd H p (.dK kvs))) (tCons (tDGet (tVar 0) (tVar 3)) tNil)) D [some (.ref B.m), some (.ref a), some (.ref A'.m), some (.str z), none, none, none, none, none, none] H' := by
        intro z t kvs _ hv ht hn hi D hD
        refine ⟨_, rfl, _, rfl, B.m, _, rfl, dget (cp.sm _ _ hm.ob) hv, t, kvs, rfl, .inl (cp.sm _ _ ht), fun p np => ?_⟩
        have nmp : A'.m ≠ p := ne_of_none cp.ob np
        refine ⟨_, rfl, _, rfl, A'.m, _, rfl, DPut.k (k := Sum.inr z) (by rw [upd_ne nmp]; exact cp.ob) ?_, ?_⟩
        · rw [List.length_take]
          exact small1000 (by omega)
        · rw [putK_new _ hn]
          exact hD p np
      have stay : ∀ (p : Addr) (o1 o2 : HO), H' p = none → (upd (upd H' p o1) A'.m o2) tp = some (.tup [.str "trestles", .str "boards", .str "sacks", .str "cords"]) := fun p o1 o2 np => by
        rw [upd_ne (ne_of et' cp.ob (by intro z; cases z)), upd_ne (ne_of_none et' np)]
        exact et'
      have same2 : ∀ (p : Addr) (o1 o2 : HO), H' p = none → Same H (upd (upd H' p o1) A'.m o2) := fun p o1 o2 np b o e => by
        rw [upd_ne (ne_of_none e cp.nm), upd_ne (ne_of_none (cp.sm _ _ e) np)]
        exact cp.sm _ _ e
      have at_ : ∀ (p : Addr) (kv o2), H' p = none → (upd (upd H' p (.dK kv)) A'.m o2) p = some (.dK kv) := fun p kv o2 np => by
        rw [upd_ne (ne_of_none cp.ob np).symm, upd_same]
      have old : ∀ (p q : Addr) (o o1 o2 : HO), H' p = none → H' q = some o → q ≠ A'.m → (upd (upd H' p o1) A'.m o2) q = some o := fun p q o o1 o2 np hq nq => by
        rw [upd_ne nq, upd_ne (ne_of_none hq np)]
        exact hq
      match i, hx, cp with
      | 0, hx, cp =>
        cases hx
        refine turn _ _ _ rfl (vt B) e1 rfl (by decide) _ (fun p np => ⟨stay p _ _ np, ⟨_, rfl⟩, ⟨A'.m, p, A'.b, A'.s, A'.c⟩, rfl, same2 p _ _ np, upd_same, cp.nm, fun _ => ⟨at_ p _ _ np, cp.sm.free np, (ne_of_none cp.ob np).symm⟩, fun z => absurd z (by decide), fun z => absurd z (by decide), fun z => absurd z (by decide)⟩)
      | 1, hx, cp =>
        cases hx
        obtain ⟨t1, t2, t3⟩ := cp.t (by decide)
        refine turn _ _ _ rfl (vb B) e2 (by show valV [((Sum.inr "trestles" : Key), V.ref A'.t)] (Sum.inr "boards") = none; rw [valV_neg (p := ((Sum.inr "trestles" : Key), V.ref A'.t)) ntb]; rfl) (by decide) _ (fun p np => ⟨stay p _ _ np, ⟨_, rfl⟩, ⟨A'.m, A'.t, p, A'.s, A'.c⟩, rfl, same2 p _ _ np, upd_same, cp.nm, fun _ => ⟨old p _ _ _ _ np t1 t3, t2, t3⟩, fun _ => ⟨at_ p _ _ np, cp.sm.free np, (ne_of_none cp.ob np).symm, (ne_of_none t1 np).symm⟩, fun z => absurd z (by decide), fun z => absurd z (by decide)⟩)
      | 2, hx, cp =>
        cases hx
        obtain ⟨t1, t2, t3⟩ := cp.t (by decide)
        obtain ⟨b1, b2, b3, b4⟩ := cp.b (by decide)
        refine turn _ _ _ rfl (vs B) e3 (by show valV [((Sum.inr "trestles" : Key), V.ref A'.t), (Sum.inr "boards", V.ref A'.b)] (Sum.inr "sacks") = none; rw [valV_neg (p := ((Sum.inr "trestles" : Key), V.ref A'.t)) nts, valV_neg (p := ((Sum.inr "boards" : Key), V.ref A'.b)) nbs]; rfl) (by decide) _ (fun p np => ⟨stay p _ _ np, ⟨_, rfl⟩, ⟨A'.m, A'.t, A'.b, p, A'.c⟩, rfl, same2 p _ _ np, upd_same, cp.nm, fun _ => ⟨old p _ _ _ _ np t1 t3, t2, t3⟩, fun _ => ⟨old p _ _ _ _ np b1 b3, b2, b3, b4⟩, fun _ => ⟨at_ p _ _ np, cp.sm.free np, (ne_of_none cp.ob np).symm, (ne_of_none t1 np).symm, (ne_of_none b1 np).symm⟩, fun z => absurd z (by decide)⟩)
      | 3, hx, cp =>
        cases hx
        obtain ⟨t1, t2, t3⟩ := cp.t (by decide)
        obtain ⟨b1, b2, b3, b4⟩ := cp.b (by decide)
        obtain ⟨c1, c2, c3, c4, c5⟩ := cp.s (by decide)
        refine turn _ _ _ rfl (vc B) e4 (by show valV [((Sum.inr "trestles" : Key), V.ref A'.t), (Sum.inr "boards", V.ref A'.b), (Sum.inr "sacks", V.ref A'.s)] (Sum.inr "cords") = none; rw [valV_neg (p := ((Sum.inr "trestles" : Key), V.ref A'.t)) ntc, valV_neg (p := ((Sum.inr "boards" : Key), V.ref A'.b)) nbc, valV_neg (p := ((Sum.inr "sacks" : Key), V.ref A'.s)) nsc]; rfl) (by decide) _ (fun p np => ⟨stay p _ _ np, ⟨_, rfl⟩, ⟨A'.m, A'.t, A'.b, A'.s, p⟩, rfl, same2 p _ _ np, upd_same, cp.nm, fun _ => ⟨old p _ _ _ _ np t1 t3, t2, t3⟩, fun _ => ⟨old p _ _ _ _ np b1 b3, b2, b3, b4⟩, fun _ => ⟨old p _ _ _ _ np c1 c3, c2, c3, c4, c5⟩, fun _ => ⟨at_ p _ _ np, cp.sm.free np, (ne_of_none cp.ob np).symm, (ne_of_none t1 np).symm, (ne_of_none b1 np).symm, (ne_of_none c1 np).symm⟩⟩)
      | _ + 4, hx, _ => cases hx
    · obtain ⟨_, ⟨y3, rfl⟩, A', rfl, cp⟩ := p
      obtain ⟨t1, t2, t3⟩ := cp.t (by decide)
      obtain ⟨b1, b2, b3, b4⟩ := cp.b (by decide)
      obtain ⟨c1, c2, c3, c4, c5⟩ := cp.s (by decide)
      obtain ⟨d1, d2, d3, d4, d5, d6'⟩ := cp.c (by decide)
      have own : Own H H' A' Y := ⟨⟨cp.ob, ⟨k1, t1, r1.keep (.of cp.sm)⟩, ⟨k2, b1, r2.keep (.of cp.sm)⟩, ⟨k3, c1, r3.keep (.of cp.sm)⟩, ⟨k4, d1, r4.keep (.of cp.sm)⟩, hm.le⟩, cp.sm, ⟨cp.nm, t2, b2, c2, d2⟩, t3, b3, c3, d3, b4, c4, c5, d4, d5, d6'⟩
      have had := cp.sm _ _ ha
      have le := hm.le
      clear t1 t2 t3 b1 b2 b3 b4 c1 c2 c3 c4 c5 d1 d2 d3 d4 d5 d6' cp
      refine ⟨_, rfl, a, _, _, _, rfl, rfl, SqT.of had, dR0 d, ?_⟩
      refine ⟨_, rfl, by show 4 ≤ sizeLine; decide, fun wp nwp => ?_⟩
      have s2 : Same H' (upd H' wp (.tup [.str "trestle", .str "board", .str "sack", .str "cord"])) := same_upd nwp
      have ew : (upd H' wp (.tup [.str "trestle", .str "board", .str "sack", .str "cord"])) wp = some (.tup [.str "trestle", .str "board", .str "sack", .str "cord"]) := upd_same
      generalize upd H' wp (.tup [.str "trestle", .str "board", .str "sack", .str "cord"]) = H2 at s2 ew ⊢
      refine ⟨wp, _, rfl, .inr (SqT.of ew), rfl, rfl, _, rfl, ?_⟩
      show (if inV (.str (dW d)) [.str "trestle", .str "board", .str "sack", .str "cord"] = true then _ else _ : Prop)
      rw [inNew]
      have own2 := own.keep s2
      have ha2 := s2 _ _ had
      have sm2 := own2.sm
      refine ite2 (fun hn => ?_) (fun hn => ?_)
      · obtain ⟨_, tk, lt⟩ := newF hn hf
        obtain ⟨q1, q2, q3, q4⟩ := tak tk
        refine ⟨_, rfl, 2, rfl, a, _, rfl, SqT.of ha2, (by cases d <;> first | (intro z; cases z.1) | cases hn), fun rp nrp => ?_⟩
        cases d with
        | tre n c l r =>
          rw [show cutV (.str (dW (.tre n c l r)) :: dR (.tre n c l r)) (some 2) none = trV (c, l, r) from rfl]
          have s3 := same_upd (o := .tup (trV (c, l, r))) nrp
          have er := upd_same (H := H2) (a := rp) (o := .tup (trV (c, l, r)))
          generalize upd H2 rp (.tup (trV (c, l, r))) = H3 at s3 er ⊢
          have own3 := own2.keep s3
          obtain ⟨kx, ex, rx⟩ := own3.is.tr
          have ln := rx.len
          refine ⟨_, rfl, _, rfl, dW (.tre n c l r), "s", rfl, rfl, ?_, A'.m, .ref A'.t, rfl, ?_, ?_⟩
          · have := wL (.tre n c l r)
            refine sm ?_
            show (dW (.tre n c l r)).length + 1 ≤ _
            omega
          · rw [wS _ hn]
            exact dget own3.is.ob (vt A')
          · refine ⟨_, rfl, a, _, _, _, rfl, rfl, SqT.of (s3 _ _ ha2), dR1 _, A'.t, _, rfl, DPut.k (k := Sum.inr n) ex (small1000 (by omega)), _, rfl, ?_⟩
            have rp' := rx.put (n := n) (p := rp) er
            have lt' : Y.tr.length < cap (.tre n c l r) := lt
            rw [putT_new (show hasT Y.tr n = false from q2)] at rp'
            have o4 := (own3.updT rp' (by rw [List.length_append]; exact lt')).1
            exact q A' _ o4.sm o4.nw o4.is
        | boa n c l r g =>
          rw [show cutV (.str (dW (.boa n c l r g)) :: dR (.boa n c l r g)) (some 2) none = boV (c, l, r, g) from rfl]
          have s3 := same_upd (o := .tup (boV (c, l, r, g))) nrp
          have er := upd_same (H := H2) (a := rp) (o := .tup (boV (c, l, r, g)))
          generalize upd H2 rp (.tup (boV (c, l, r, g))) = H3 at s3 er ⊢
          have own3 := own2.keep s3
          obtain ⟨kx, ex, rx⟩ := own3.is.bo
          have ln := rx.len
          refine ⟨_, rfl, _, rfl, dW (.boa n c l r g), "s", rfl, rfl, ?_, A'.m, .ref A'.b, rfl, ?_, ?_⟩
          · have := wL (.boa n c l r g)
            refine sm ?_
            show (dW (.boa n c l r g)).length + 1 ≤ _
            omega
          · rw [wS _ hn]
            exact dget own3.is.ob (vb A')
          · refine ⟨_, rfl, a, _, _, _, rfl, rfl, SqT.of (s3 _ _ ha2), dR1 _, A'.b, _, rfl, DPut.k (k := Sum.inr n) ex (small1000 (by omega)), _, rfl, ?_⟩
            have rp' := rx.put (n := n) (p := rp) er
            have lt' : Y.bo.length < cap (.boa n c l r g) := lt
            rw [putT_new (show hasT Y.bo n = false from q1)] at rp'
            have o4 := (own3.updB rp' (by rw [List.length_append]; exact lt')).1
            exact q A' _ o4.sm o4.nw o4.is
        | sac n b p g =>
          rw [show cutV (.str (dW (.sac n b p g)) :: dR (.sac n b p g)) (some 2) none = saV (b, p, g) from rfl]
          have s3 := same_upd (o := .tup (saV (b, p, g))) nrp
          have er := upd_same (H := H2) (a := rp) (o := .tup (saV (b, p, g)))
          generalize upd H2 rp (.tup (saV (b, p, g))) = H3 at s3 er ⊢
          have own3 := own2.keep s3
          obtain ⟨kx, ex, rx⟩ := own3.is.sa
          have ln := rx.len
          refine ⟨_, rfl, _, rfl, dW (.sac n b p g), "s", rfl, rfl, ?_, A'.m, .ref A'.s, rfl, ?_, ?_⟩
          · have := wL (.sac n b p g)
            refine sm ?_
            show (dW (.sac n b p g)).length + 1 ≤ _
            omega
          · rw [wS _ hn]
            exact dget own3.is.ob (vs A')
          · refine ⟨_, rfl, a, _, _, _, rfl, rfl, SqT.of (s3 _ _ ha2), dR1 _, A'.s, _, rfl, DPut.k (k := Sum.inr n) ex (small1000 (by omega)), _, rfl, ?_⟩
            have rp' := rx.put (n := n) (p := rp) er
            have lt' : Y.sa.length < cap (.sac n b p g) := lt
            rw [putT_new (show hasT Y.sa n = false from q3)] at rp'
            have o4 := (own3.updS rp' (by rw [List.length_append]; exact lt')).1
            exact q A' _ o4.sm o4.nw o4.is
        | cor n u lo p =>
          rw [show cutV (.str (dW (.cor n u lo p)) :: dR (.cor n u lo p)) (some 2) none = coV (u, lo, p) from rfl]
          have s3 := same_upd (o := .tup (coV (u, lo, p))) nrp
          have er := upd_same (H := H2) (a := rp) (o := .tup (coV (u, lo, p)))
          generalize upd H2 rp (.tup (coV (u, lo, p))) = H3 at s3 er ⊢
          have own3 := own2.keep s3
          obtain ⟨kx, ex, rx⟩ := own3.is.co
          have ln := rx.len
          refine ⟨_, rfl, _, rfl, dW (.cor n u lo p), "s", rfl, rfl, ?_, A'.m, .ref A'.c, rfl, ?_, ?_⟩
          · have := wL (.cor n u lo p)
            refine sm ?_
            show (dW (.cor n u lo p)).length + 1 ≤ _
            omega
          · rw [wS _ hn]
            exact dget own3.is.ob (vc A')
          · refine ⟨_, rfl, a, _, _, _, rfl, rfl, SqT.of (s3 _ _ ha2), dR1 _, A'.c, _, rfl, DPut.k (k := Sum.inr n) ex (small1000 (by omega)), _, rfl, ?_⟩
            have rp' := rx.put (n := n) (p := rp) er
            have lt' : Y.co.length < cap (.cor n u lo p) := lt
            rw [putT_new (show hasT Y.co n = false from q4)] at rp'
            have o4 := (own3.updC rp' (by rw [List.length_append]; exact lt')).1
            exact q A' _ o4.sm o4.nw o4.is
        | _ => cases hn
      · cases d with
        | tre => exact absurd rfl hn
        | boa => exact absurd rfl hn
        | sac => exact absurd rfl hn
        | cor => exact absurd rfl hn
        | awa n =>
          refine ⟨_, rfl, rfl, _, rfl, ?_⟩
          rw [show decide (V.str (dW (.awa n)) = V.str "away") = true from decide_eq_true rfl]
          refine iteT ?_
          have hf' : faultAw Y n = none := hf
          obtain ⟨kt, et, rt⟩ := own2.is.tr
          refine ⟨_, rfl, A'.m, _, rfl, dget own2.is.ob (vt A'), A'.t, rfl, .inl ⟨_, .inl et⟩, _, rfl, a, _, _, _, rfl, rfl, SqT.of ha2, dR1 (.awa n), kt, Sum.inr n, et, rfl, fun v hv => ?_, fun hv => ?_⟩
          · have h1 : hasT Y.tr n = true := by
              have z := rt.has n
              rw [hv] at z
              exact z.symm
            have nb := alive_tr st.gd h1
            have o3 := own2.updT (rt.del n) (Nat.le_trans (delT_len _ _) le.1)
            have ha3 := o3.2 _ _ ha2
            generalize upd H2 A'.t (.dK (dropK kt (Sum.inr n))) = H3 at o3 ha3 ⊢
            obtain ⟨kb, eb, rb⟩ := o3.1.is.bo
            refine ⟨_, rfl, A'.m, _, rfl, dget o3.1.is.ob (vb A'), A'.b, rfl, .inl ⟨_, .inl eb⟩, _, rfl, a, _, _, _, rfl, rfl, SqT.of ha3, dR1 (.awa n), kb, Sum.inr n, eb, rfl, fun v hv => ?_, fun hv => ?_⟩
            · have z := rb.has n
              rw [hv] at z
              have z2 : hasT Y.bo n = true := z.symm
              rw [nb] at z2
              cases z2
            · refine ⟨_, rfl, ?_⟩
              have e0 : step Y (.awa n) = { Y with tr := delT Y.tr n } := by show stepAw Y n = _; unfold stepAw; rw [h1]; rfl
              rw [e0] at q
              exact q A' _ o3.1.sm o3.1.nw o3.1.is
          · have h1 : hasT Y.tr n = false := by
              have z := rt.has n
              rw [hv] at z
              exact z.symm
            have h2 : hasT Y.bo n = true := by
              cases h2 : hasT Y.bo n with
              | true => rfl
              | false => unfold faultAw at hf'; rw [h1, h2] at hf'; cases hf'
            obtain ⟨kb, eb, rb⟩ := own2.is.bo
            refine ⟨_, rfl, A'.m, _, rfl, dget own2.is.ob (vb A'), A'.b, rfl, .inl ⟨_, .inl eb⟩, _, rfl, a, _, _, _, rfl, rfl, SqT.of ha2, dR1 (.awa n), kb, Sum.inr n, eb, rfl, fun v hv => ?_, fun hv => ?_⟩
            · have o3 := own2.updB (rb.del n) (Nat.le_trans (delT_len _ _) le.2.1)
              refine ⟨_, rfl, ?_⟩
              have e0 : step Y (.awa n) = { Y with bo := delT Y.bo n } := by show stepAw Y n = _; unfold stepAw; rw [h1]; rfl
              rw [e0] at q
              exact q A' _ o3.1.sm o3.1.nw o3.1.is
            · have z := rb.has n
              rw [hv] at z
              rw [h2] at z
              cases z
        | alo n k =>
          refine ⟨_, rfl, rfl, _, rfl, ?_⟩
          rw [show decide (V.str (dW (.alo n k)) = V.str "away") = false from dF (by show ¬ (("along" : Str) = "away"); decide +kernel)]
          refine iteF ⟨_, rfl, rfl, _, rfl, ?_⟩
          rw [show decide (V.str (dW (.alo n k)) = V.str "along") = true from decide_eq_true rfl]
          refine iteT ?_
          have hf' : faultAl Y n k = none := hf
          have ad2 : atI (.str (dW (.alo n k)) :: dR (.alo n k) : List V) (2 : Int) = some (.int k) := atI_nat (j := 2) rfl
          refine ⟨by show 2 ≤ sizeLine; decide, fun kp nkp => ?_⟩
          have s3 := same_upd (o := .tup [.str "trestles", .str "boards"]) nkp
          have ek := upd_same (H := H2) (a := kp) (o := .tup [.str "trestles", .str "boards"])
          generalize upd H2 kp (.tup [.str "trestles", .str "boards"]) = H3 at s3 ek ⊢
          refine ⟨kp, rfl, ⟨_, SqT.of ek⟩, ?_⟩
          refine for_tup (K := K) (a := kp) (xs := [.str "trestles", .str "boards"]) (fun i σ Hx => Hx kp = some (.tup [.str "trestles", .str "boards"]) ∧ Hx a = some (.tup (.str (dW (.alo n k)) :: dR (.alo n k))) ∧ (∃ y4 y5, σ = [some (.ref B.m), some (.ref a), some (.ref A'.m), some (.str (dW (.alo n k))), y4, y5, none, none, none, none]) ∧ Own H Hx A' (alY Y n k i))
            ⟨ek, s3 _ _ ha2, ⟨_, _, rfl⟩, own2.keep s3⟩ (fun i σ Hx _ p => SqT.of p.1) (fun i x σ Hx hx p => ?_) (fun σ Hx p => ?_)
          · obtain ⟨ekx, hax, ⟨y4, y5, rfl⟩, ox⟩ := p
            have hmx := hm.keep ox.sm
            match i, hx, ox with
            | 0, hx, ox =>
              cases hx
              obtain ⟨kt, et, rt⟩ := hmx.tr
              refine ⟨_, rfl, a, _, _, _, rfl, rfl, SqT.of hax, dR1 (.alo n k), _, rfl, _, rfl, B.m, _, rfl, dget hmx.ob (vt B), B.t, _, rfl, DGet.k (k := Sum.inr n) et, _, rfl, ?_⟩
              rcases rt.get n with ⟨g1, g2⟩ | ⟨pr, x, g1, g2, g3⟩
              · rw [g1]
                refine iteF ⟨ekx, hax, ⟨_, _, rfl⟩, ?_⟩
                have e0 : alY Y n k 1 = alY Y n k 0 := by unfold alY; rw [g2]
                rw [e0]
                exact ox
              · rw [g1]
                refine iteT ?_
                refine ⟨_, rfl, _, rfl, B.m, _, rfl, dget hmx.ob (vt B), _, rfl, a, _, _, _, rfl, rfl, SqT.of hax, dR1 (.alo n k), B.t, _, rfl, dget et g1, ?_⟩
                have at0 : atI (trL n x : List V) (0 : Int) = some (.int x.1) := atI_nat (j := 0) rfl
                have at1 : atI (trL n x : List V) (1 : Int) = some (.int x.2.1) := atI_nat (j := 1) rfl
                have at2 : atI (trL n x : List V) (2 : Int) = some (.int x.2.2) := atI_nat (j := 2) rfl
                refine ⟨_, rfl, pr, _, _, _, rfl, rfl, SqT.of g3, at0, _, rfl, pr, _, _, _, rfl, rfl, SqT.of g3, at1, _, rfl, a, _, _, _, rfl, rfl, SqT.of hax, ad2, _, _, rfl, rfl, _, rfl, pr, _, _, _, rfl, rfl, SqT.of g3, at2, _, rfl, a, _, _, _, rfl, rfl, SqT.of hax, ad2, _, _, rfl, rfl, by show 3 ≤ sizeLine; decide, fun t1 n1 => ?_⟩
                have s4 := same_upd (o := .tup [.int x.1, .int (x.2.1 + k), .int (x.2.2 + k)]) n1
                have e4 := upd_same (H := Hx) (a := t1) (o := .tup [.int x.1, .int (x.2.1 + k), .int (x.2.2 + k)])
                generalize upd Hx t1 (.tup [.int x.1, .int (x.2.1 + k), .int (x.2.2 + k)]) = H4 at s4 e4 ⊢
                refine ⟨_, rfl, 3, rfl, pr, _, rfl, SqT.of (s4 _ _ g3), (by intro z; cases z.1), fun t2 n2 => ?_⟩
                rw [show cutV (trL n x) (some 3) none = [] from rfl]
                have s5 := same_upd (o := .tup []) n2
                have e5 := upd_same (H := H4) (a := t2) (o := .tup [])
                generalize upd H4 t2 (.tup []) = H5 at s5 e5 ⊢
                refine ⟨t1, t2, _, [], rfl, rfl, SqT.of (s5 _ _ e4), SqT.of e5, by simp, by show 3 + 0 ≤ sizeLine; decide, fun _ => ?_, fun z => absurd rfl z⟩
                have s45 := s4.trans s5
                have o5 := ox.keep s45
                obtain ⟨kn, en, rn⟩ := o5.is.tr
                have ln := rn.len
                refine ⟨_, rfl, _, rfl, A'.m, _, rfl, dget o5.is.ob (vt A'), _, rfl, a, _, _, _, rfl, rfl, SqT.of (s45 _ _ hax), dR1 (.alo n k), A'.t, _, rfl, DPut.k (k := Sum.inr n) en (small1000 (by have : (alY Y n k 0).tr.length ≤ 6 := le.1; omega)), ?_⟩
                have hx : hasT Y.tr n = true := get_yes g2
                have rn' : Rows H5 trL kn Y.tr := rn
                have o6 := o5.updT (rn'.put (n := n) (x := (x.1, x.2.1 + k, x.2.2 + k)) (p := t1) (s5 _ _ e4)) (by rw [putT_len_in hx]; exact le.1)
                refine ⟨o6.2 _ _ (s45 _ _ ekx), o6.2 _ _ (s45 _ _ hax), ⟨_, _, rfl⟩, ?_⟩
                have e0 : alY Y n k 1 = { alY Y n k 0 with tr := putT Y.tr n (x.1, x.2.1 + k, x.2.2 + k) } := by unfold alY; rw [g2]
                rw [e0]
                exact o6.1
            | 1, hx, ox =>
              cases hx
              obtain ⟨kb, eb, rb⟩ := hmx.bo
              refine ⟨_, rfl, a, _, _, _, rfl, rfl, SqT.of hax, dR1 (.alo n k), _, rfl, _, rfl, B.m, _, rfl, dget hmx.ob (vb B), B.b, _, rfl, DGet.k (k := Sum.inr n) eb, _, rfl, ?_⟩
              rcases rb.get n with ⟨g1, g2⟩ | ⟨pr, x, g1, g2, g3⟩
              · rw [g1]
                refine iteF ⟨ekx, hax, ⟨_, _, rfl⟩, ?_⟩
                have e0 : alY Y n k 2 = alY Y n k 1 := by unfold alY; rw [g2]; cases getT Y.tr n <;> rfl
                rw [e0]
                exact ox
              · rw [g1]
                refine iteT ?_
                refine ⟨_, rfl, _, rfl, B.m, _, rfl, dget hmx.ob (vb B), _, rfl, a, _, _, _, rfl, rfl, SqT.of hax, dR1 (.alo n k), B.b, _, rfl, dget eb g1, ?_⟩
                have at0 : atI (boL n x : List V) (0 : Int) = some (.int x.1) := atI_nat (j := 0) rfl
                have at1 : atI (boL n x : List V) (1 : Int) = some (.int x.2.1) := atI_nat (j := 1) rfl
                have at2 : atI (boL n x : List V) (2 : Int) = some (.int x.2.2.1) := atI_nat (j := 2) rfl
                refine ⟨_, rfl, pr, _, _, _, rfl, rfl, SqT.of g3, at0, _, rfl, pr, _, _, _, rfl, rfl, SqT.of g3, at1, _, rfl, a, _, _, _, rfl, rfl, SqT.of hax, ad2, _, _, rfl, rfl, _, rfl, pr, _, _, _, rfl, rfl, SqT.of g3, at2, _, rfl, a, _, _, _, rfl, rfl, SqT.of hax, ad2, _, _, rfl, rfl, by show 3 ≤ sizeLine; decide, fun t1 n1 => ?_⟩
                have s4 := same_upd (o := .tup [.int x.1, .int (x.2.1 + k), .int (x.2.2.1 + k)]) n1
                have e4 := upd_same (H := Hx) (a := t1) (o := .tup [.int x.1, .int (x.2.1 + k), .int (x.2.2.1 + k)])
                generalize upd Hx t1 (.tup [.int x.1, .int (x.2.1 + k), .int (x.2.2.1 + k)]) = H4 at s4 e4 ⊢
                refine ⟨_, rfl, 3, rfl, pr, _, rfl, SqT.of (s4 _ _ g3), (by intro z; cases z.1), fun t2 n2 => ?_⟩
                rw [show cutV (boL n x) (some 3) none = [.int x.2.2.2] from rfl]
                have s5 := same_upd (o := .tup [.int x.2.2.2]) n2
                have e5 := upd_same (H := H4) (a := t2) (o := .tup [.int x.2.2.2])
                generalize upd H4 t2 (.tup [.int x.2.2.2]) = H5 at s5 e5 ⊢
                refine ⟨t1, t2, _, _, rfl, rfl, SqT.of (s5 _ _ e4), SqT.of e5, by simp, by show 3 + 1 ≤ sizeLine; decide, (fun z => nomatch z), fun _ t3 n3 => ?_⟩
                have s6 := same_upd (o := .tup ([.int x.1, .int (x.2.1 + k), .int (x.2.2.1 + k)] ++ [.int x.2.2.2])) n3
                have e6 := upd_same (H := H5) (a := t3) (o := .tup ([.int x.1, .int (x.2.1 + k), .int (x.2.2.1 + k)] ++ [.int x.2.2.2]))
                generalize upd H5 t3 (.tup ([.int x.1, .int (x.2.1 + k), .int (x.2.2.1 + k)] ++ [.int x.2.2.2])) = H6 at s6 e6 ⊢
                have s46 := s4.trans (s5.trans s6)
                have o5 := ox.keep s46
                obtain ⟨kn, en, rn⟩ := o5.is.bo
                have ln := rn.len
                refine ⟨_, rfl, _, rfl, A'.m, _, rfl, dget o5.is.ob (vb A'), _, rfl, a, _, _, _, rfl, rfl, SqT.of (s46 _ _ hax), dR1 (.alo n k), A'.b, _, rfl, DPut.k (k := Sum.inr n) en (small1000 (by have : (alY Y n k 1).bo.length ≤ 6 := le.2.1; omega)), ?_⟩
                have hx : hasT Y.bo n = true := get_yes g2
                have rn' : Rows H6 boL kn Y.bo := rn
                have o6 := o5.updB (rn'.put (n := n) (x := (x.1, x.2.1 + k, x.2.2.1 + k, x.2.2.2)) (p := t3) e6) (by rw [putT_len_in hx]; exact le.2.1)
                refine ⟨o6.2 _ _ (s46 _ _ ekx), o6.2 _ _ (s46 _ _ hax), ⟨_, _, rfl⟩, ?_⟩
                have e0 : alY Y n k 2 = { alY Y n k 1 with bo := putT Y.bo n (x.1, x.2.1 + k, x.2.2.1 + k, x.2.2.2) } := by unfold alY; rw [g2]; cases getT Y.tr n <;> rfl
                rw [e0]
                exact o6.1
            | _ + 2, hx, _ => cases hx
          · obtain ⟨_, hax, ⟨y4, y5, rfl⟩, ox⟩ := p
            have ox : Own H Hx A' (alY Y n k 2) := ox
            have hmx := hm.keep ox.sm
            have e3' := ox.sm _ _ e3
            have r3' := r3.keep (.of ox.sm)
            have nms := nm_of hmx e3' r3'
            refine ⟨B.s, .dK k3, e3', trivial, fun od => ?_⟩
            have lk := lk_of (od := od) e3'
            have naa : a ≠ B.s := ne_of hax e3' (fun z => nomatch z)
            have nsn : ∀ p, H p = none → B.s ≠ p := fun p hp => ne_of_none e3 hp
            have frz : Own (fun x => if x = B.s then none else H x) (upd Hx B.s (.frz od (.dK k3))) A' (alY Y n k 2) := by
              obtain ⟨is, sm0, nw, nd⟩ := ox
              obtain ⟨w1, w2, w3, w4, w5⟩ := nw
              obtain ⟨om, ⟨kt, et, rt⟩, ⟨kb, eb, rb⟩, ⟨ks, es, rs⟩, ⟨kc, ec, rc⟩, le'⟩ := is
              have up : ∀ p, H p = none → upd Hx B.s (.frz od (.dK k3)) p = Hx p := fun p hp => upd_ne (nsn p hp).symm
              have nn : ∀ p, H p = none → (if p = B.s then none else H p) = none := fun p hp => by split <;> simp_all
              refine ⟨⟨(up _ w1).trans om, ⟨kt, (up _ w2).trans et, rt.keep lk.ts⟩, ⟨kb, (up _ w3).trans eb, rb.keep lk.ts⟩, ⟨ks, (up _ w4).trans es, rs.keep lk.ts⟩, ⟨kc, (up _ w5).trans ec, rc.keep lk.ts⟩, le'⟩, fun p o e => ?_, ⟨nn _ w1, nn _ w2, nn _ w3, nn _ w4, nn _ w5⟩, nd⟩
              by_cases z : p = B.s
              · simp [z] at e
              · simp only [z, if_false] at e
                rw [upd_ne z]
                exact sm0 _ _ e
            have om : (upd Hx B.s (.frz od (.dK k3))) B.m = some (.dK (kvM B)) := lk.ne _ _ hmx.ob nms
            have haf : (upd Hx B.s (.frz od (.dK k3))) a = some (.tup (.str (dW (.alo n k)) :: dR (.alo n k))) := lk.ne _ _ hax naa
            have rs0 : Rows (upd Hx B.s (.frz od (.dK k3))) saL k3 Y.sa := r3'.keep lk.ts
            have atf := lk.at_
            generalize upd Hx B.s (.frz od (.dK k3)) = Hf at lk frz om haf rs0 atf ⊢
            have kl := r3'.len
            have nbs' : B.s ≠ A'.s := nsn _ ox.nw.2.2.2.1
            have nbm' : B.m ≠ A'.s := ne_of_none hm.ob ox.nw.2.2.2.1
            refine ⟨_, rfl, B.m, _, rfl, dget om (vs B), B.s, od, rfl, .inl ⟨k3, atf, ?_⟩⟩
            refine for_it walk_keys (fun i σ H' => H' B.s = some (.frz od (.dK k3)) ∧ H' B.m = some (.dK (kvM B)) ∧ H' a = some (.tup (.str (dW (.alo n k)) :: dR (.alo n k))) ∧ (∃ y6 y7 y8 y9, σ = [some (.ref B.m), some (.ref a), some (.ref A'.m), some (.str (dW (.alo n k))), y4, y5, y6, y7, y8, y9]) ∧ TS Hf H' ∧ Own (fun x => if x = B.s then none else H x) H' A' { alY Y n k 2 with sa := (Y.sa.take i).foldl (shiftF n k) Y.sa })
              ⟨atf, om, haf, ⟨_, _, _, _, rfl⟩, fun _ _ z => z, frz⟩ (fun i σ H' _ p => p.1) (fun i x σ H1 H' hi p hy' => ?_) (fun σ H' p => ?_)
            · obtain ⟨p1, p2, p3, ⟨y6, y7, y8, y9, rfl⟩, p4, p5⟩ := p
              obtain ⟨rfl, key, v, hkv, rfl⟩ := hy'
              obtain ⟨pr, m, y, rfl, rfl, hy1, epr⟩ := rs0.atK i key v hkv
              have gm : getT Y.sa m = some y := getT_nd st.sn hy1
              have hmem : (m, y) ∈ Y.sa := List.mem_of_getElem? hy1
              have ep' := p4 _ _ epr
              have hv : valV k3 (Sum.inr m) = some (.ref pr) ∨ ∃ pr', valV k3 (Sum.inr m) = some (.ref pr') ∧ Hf pr' = some (.tup (saL m y)) := by
                rcases rs0.get m with ⟨_, zz⟩ | ⟨pr', y', hv, gm', e'⟩
                · rw [gm] at zz; cases zz
                · rw [gm] at gm'
                  cases gm'
                  exact .inr ⟨pr', hv, e'⟩
              obtain ⟨pr', hv', e'⟩ : ∃ pr', valV k3 (Sum.inr m) = some (.ref pr') ∧ Hf pr' = some (.tup (saL m y)) := hv.elim (fun h => ⟨pr, h, epr⟩) id
              have ep'' := p4 _ _ e'
              have dg : DGet H' B.s (kV (Sum.inr m)) (some (.ref pr')) := .inl ⟨k3, Sum.inr m, .inr ⟨_, p1⟩, rfl, hv'.symm⟩
              refine ⟨_, rfl, B.m, _, rfl, dget p2 (vs B), _, rfl, B.s, _, rfl, dg, pr', _, rfl, SqT.of ep'', rfl, _, _, rfl, _, _, rfl, _, _, rfl, rfl, ?_⟩
              have nxt : (Y.sa.take (i + 1)).foldl (shiftF n k) Y.sa = shiftF n k ((Y.sa.take i).foldl (shiftF n k) Y.sa) (m, y) := by
                rw [List.take_add_one, hy1, List.foldl_append]
                rfl
              have nm : ((Y.sa.take i).foldl (shiftF n k) Y.sa).map (·.1) = Y.sa.map (·.1) := fold_names (fun q hq => List.mem_of_mem_take hq) rfl
              refine ⟨_, rfl, _, rfl, a, _, _, _, rfl, rfl, SqT.of p3, dR1 (.alo n k), rfl, _, rfl, ite2 (fun e1 => ?_) (fun e1 => ?_)⟩
              · have e2 : y.1 = n := V.str.inj (of_decide_eq_true e1)
                refine ⟨_, rfl, _, rfl, _, rfl, a, _, _, _, rfl, rfl, SqT.of p3, ad2, _, _, rfl, rfl, _, rfl, by show 3 ≤ sizeLine; decide, fun t1 n1 => ?_⟩
                have s4 := same_upd (o := .tup [.str y.1, .int (y.2.1 + k), .int y.2.2]) n1
                have e4 := upd_same (H := H') (a := t1) (o := .tup [.str y.1, .int (y.2.1 + k), .int y.2.2])
                generalize upd H' t1 (.tup [.str y.1, .int (y.2.1 + k), .int y.2.2]) = H4 at s4 e4 ⊢
                have o4 := p5.keep s4
                obtain ⟨kn, en, rn⟩ := o4.is.sa
                have ln := rn.len
                have hh : hasT ((Y.sa.take i).foldl (shiftF n k) Y.sa) m = true := has_of (by rw [nm]; exact List.mem_map_of_mem hmem)
                have ll : ((Y.sa.take i).foldl (shiftF n k) Y.sa).length ≤ 8 := by
                  have := congrArg List.length nm
                  rw [List.length_map, List.length_map] at this
                  omega
                have ln' : kn.length = ((Y.sa.take i).foldl (shiftF n k) Y.sa).length := ln
                refine ⟨_, rfl, A'.m, _, rfl, dget o4.is.ob (vs A'), _, rfl, A'.s, _, rfl, DPut.k (k := Sum.inr m) en (small1000 (by omega)), ?_⟩
                have rn' : Rows H4 saL kn ((Y.sa.take i).foldl (shiftF n k) Y.sa) := rn
                have o6 := o4.updS (rn'.put (n := m) (x := (n, y.2.1 + k, y.2.2)) (p := t1) (by rw [← e2]; exact e4)) (by rw [putT_len_in hh]; exact ll)
                refine ⟨?_, ?_, ?_, ⟨_, _, _, _, rfl⟩, p4.trans ((TS.of s4).trans o6.2), ?_⟩
                · rw [upd_ne nbs']; exact s4 _ _ p1
                · rw [upd_ne nbm']; exact s4 _ _ p2
                · exact o6.2 _ _ (s4 _ _ p3)
                · rw [nxt]
                  unfold shiftF
                  rw [if_pos e2]
                  exact o6.1
              · refine ⟨p1, p2, p3, ⟨_, _, _, _, rfl⟩, p4, ?_⟩
                rw [nxt]
                unfold shiftF
                rw [if_neg (fun z => e1 (decide_eq_true (by rw [z]; rfl)))]
                exact p5
            · obtain ⟨p1, p2, p3, ⟨y6, y7, y8, y9, rfl⟩, p4, p5⟩ := p
              rw [kl, List.take_length] at p5
              have o7 := p5.unl ox.nw e3 p1
              refine ⟨p1, _, rfl, ?_⟩
              have e0 : { alY Y n k 2 with sa := shiftS Y.sa n k } = step Y (.alo n k) := alY_end st hf'
              have o7' : Own H (upd H' B.s (.dK k3)) A' { alY Y n k 2 with sa := shiftS Y.sa n k } := o7
              rw [e0] at o7'
              exact q A' _ o7'.sm o7'.nw o7'.is
        | mov n b p =>
          have nq : ∀ z : Str, ("move" : Str) ≠ z → decide (V.str (dW (.mov n b p)) = V.str z) = false := fun z h => dF h
          refine ⟨_, rfl, rfl, _, rfl, ?_⟩
          rw [nq "away" (by decide +kernel)]
          refine iteF ⟨_, rfl, rfl, _, rfl, ?_⟩
          rw [nq "along" (by decide +kernel)]
          refine iteF ⟨_, rfl, rfl, _, rfl, ?_⟩
          rw [show decide (V.str (dW (.mov n b p)) = V.str "move") = true from decide_eq_true rfl]
          refine iteT ?_
          have hf' : faultMo Y n b p = none := hf
          have hs : hasT Y.sa n = true := by
            cases h : hasT Y.sa n with
            | true => rfl
            | false => unfold faultMo at hf'; simp [h] at hf'
          obtain ⟨x, gx⟩ := hasT_some hs
          have hm2 := hm.keep sm2
          refine ⟨_, rfl, 2, rfl, a, _, rfl, SqT.of ha2, (by intro z; cases z.1), fun t1 n1 => ?_⟩
          rw [show cutV (.str (dW (.mov n b p)) :: dR (.mov n b p)) (some 2) none = [.str b, .int p] from rfl]
          have s3 := same_upd (o := .tup [.str b, .int p]) n1
          have e3x := upd_same (H := H2) (a := t1) (o := .tup [.str b, .int p])
          generalize upd H2 t1 (.tup [.str b, .int p]) = H3 at s3 e3x ⊢
          have hm3 := hm2.keep s3
          obtain ⟨ks, es, rs⟩ := hm3.sa
          rcases rs.get n with ⟨_, zz⟩ | ⟨pr, x', hv, gx', ep⟩
          · rw [gx] at zz; cases zz
          rw [gx] at gx'
          cases gx'
          refine ⟨_, rfl, B.m, _, rfl, dget hm3.ob (vs B), _, rfl, a, _, _, _, rfl, rfl, SqT.of (s3 _ _ ha2), dR1 (.mov n b p), B.s, _, rfl, dget es hv, 2, rfl, pr, _, rfl, SqT.of ep, (by intro z; cases z.1), fun t2 n2 => ?_⟩
          rw [show cutV (saL n x) (some 2) none = [.int x.2.2] from rfl]
          have s4 := same_upd (o := .tup [.int x.2.2]) n2
          have e4 := upd_same (H := H3) (a := t2) (o := .tup [.int x.2.2])
          generalize upd H3 t2 (.tup [.int x.2.2]) = H4 at s4 e4 ⊢
          refine ⟨t1, t2, _, _, rfl, rfl, SqT.of (s4 _ _ e3x), SqT.of e4, by simp, by show 2 + 1 ≤ sizeLine; decide, (fun z => nomatch z), fun _ t3 n3 => ?_⟩
          have s5 := same_upd (o := .tup ([.str b, .int p] ++ [.int x.2.2])) n3
          have e5 := upd_same (H := H4) (a := t3) (o := .tup ([.str b, .int p] ++ [.int x.2.2]))
          generalize upd H4 t3 (.tup ([.str b, .int p] ++ [.int x.2.2])) = H5 at s5 e5 ⊢
          have s25 := s3.trans (s4.trans s5)
          have o5 := own2.keep s25
          obtain ⟨kn, en, rn⟩ := o5.is.sa
          have ln := rn.len
          refine ⟨_, rfl, A'.m, _, rfl, dget o5.is.ob (vs A'), _, rfl, a, _, _, _, rfl, rfl, SqT.of (s25 _ _ ha2), dR1 (.mov n b p), A'.s, _, rfl, DPut.k (k := Sum.inr n) en (small1000 (by omega)), ?_⟩
          have o6 := o5.updS (rn.put (n := n) (x := (b, p, x.2.2)) (p := t3) e5) (by rw [putT_len_in hs]; exact le.2.2.1)
          refine ⟨_, rfl, ?_⟩
          have e0 : step Y (.mov n b p) = { Y with sa := putT Y.sa n (b, p, x.2.2) } := by show stepMo Y n b p = _; unfold stepMo; rw [gx]
          rw [e0] at q
          exact q A' _ o6.1.sm o6.1.nw o6.1.is
        | lif n =>
          have nq : ∀ z : Str, ("lift" : Str) ≠ z → decide (V.str (dW (.lif n)) = V.str z) = false := fun z h => dF h
          refine ⟨_, rfl, rfl, _, rfl, ?_⟩
          rw [nq "away" (by decide +kernel)]
          refine iteF ⟨_, rfl, rfl, _, rfl, ?_⟩
          rw [nq "along" (by decide +kernel)]
          refine iteF ⟨_, rfl, rfl, _, rfl, ?_⟩
          rw [nq "move" (by decide +kernel)]
          refine iteF ⟨_, rfl, rfl, _, rfl, ?_⟩
          rw [show decide (V.str (dW (.lif n)) = V.str "lift") = true from decide_eq_true rfl]
          refine iteT ?_
          have hf' : faultLi Y n = none := hf
          have hs : hasT Y.sa n = true := by
            cases h : hasT Y.sa n with
            | true => rfl
            | false => unfold faultLi at hf'; simp [h] at hf'
          obtain ⟨kn, en, rn⟩ := own2.is.sa
          obtain ⟨x, gx⟩ := hasT_some hs
          rcases rn.get n with ⟨_, zz⟩ | ⟨pr, x', hv, gx', ep⟩
          · rw [gx] at zz; cases zz
          refine ⟨_, rfl, A'.m, _, rfl, dget own2.is.ob (vs A'), A'.s, rfl, .inl ⟨_, .inl en⟩, _, rfl, a, _, _, _, rfl, rfl, SqT.of ha2, dR1 (.lif n), kn, Sum.inr n, _, en, rfl, hv, ?_⟩
          have o6 := own2.updS (rn.del n) (Nat.le_trans (delT_len _ _) le.2.2.1)
          refine ⟨_, rfl, ?_⟩
          exact q A' _ o6.1.sm o6.1.nw o6.1.is
        | cut n =>
          have nq : ∀ z : Str, ("cut" : Str) ≠ z → decide (V.str (dW (.cut n)) = V.str z) = false := fun z h => dF h
          refine ⟨_, rfl, rfl, _, rfl, ?_⟩
          rw [nq "away" (by decide +kernel)]
          refine iteF ⟨_, rfl, rfl, _, rfl, ?_⟩
          rw [nq "along" (by decide +kernel)]
          refine iteF ⟨_, rfl, rfl, _, rfl, ?_⟩
          rw [nq "move" (by decide +kernel)]
          refine iteF ⟨_, rfl, rfl, _, rfl, ?_⟩
          rw [nq "lift" (by decide +kernel)]
          refine iteF ?_
          have hf' : faultCu Y n = none := hf
          have hs : hasT Y.co n = true := by
            cases h : hasT Y.co n with
            | true => rfl
            | false => unfold faultCu at hf'; simp [h] at hf'
          obtain ⟨kn, en, rn⟩ := own2.is.co
          obtain ⟨x, gx⟩ := hasT_some hs
          rcases rn.get n with ⟨_, zz⟩ | ⟨pr, x', hv, gx', ep⟩
          · rw [gx] at zz; cases zz
          refine ⟨_, rfl, A'.m, _, rfl, dget own2.is.ob (vc A'), A'.c, rfl, .inl ⟨_, .inl en⟩, _, rfl, a, _, _, _, rfl, rfl, SqT.of ha2, dR1 (.cut n), kn, Sum.inr n, _, en, rfl, hv, ?_⟩
          have o6 := own2.updC (rn.del n) (Nat.le_trans (delT_len _ _) le.2.2.2)
          refine ⟨_, rfl, ?_⟩
          exact q A' _ o6.1.sm o6.1.nw o6.1.is
end
end DY
namespace DY
open PySem PySem.Spec PyProof.Rows L2
theorem lo_letters : ∀ c ∈ letters.cps.toList, c < 16 ^ 8 := by decide +kernel
theorem nm_of_name {z : Str} (h : isName z = true) : Nm z := by
  unfold isName at h
  simp only [Bool.and_eq_true, decide_eq_true_eq, List.all_eq_true] at h
  obtain ⟨_, h2, h3⟩ := h
  exact ⟨by omega, fun c hc => lo_letters c (h3 c hc)⟩
theorem ne_of_name {z : Str} (h : isName z = true) : z ≠ "" := by
  intro e
  rw [e] at h
  revert h
  decide +kernel
section
variable {α : Type} {T : List (Str × α)}
theorem hasT_iff {n : Str} : hasT T n = true ↔ n ∈ T.map (·.1) := by
  constructor
  · intro h
    obtain ⟨x, hx⟩ := hasT_some h
    exact List.mem_map_of_mem (f := (·.1)) (get_mem hx)
  · exact has_of
theorem hasT_names {β : Type} {U : List (Str × β)} (h : T.map (·.1) = U.map (·.1)) (n : Str) : hasT T n = hasT U n := by
  rw [Bool.eq_iff_iff, hasT_iff, hasT_iff, h]
theorem nin {n : Str} (h : hasT T n = false) : n ∉ T.map (·.1) := fun z => by rw [hasT_iff.mpr z] at h; cases h
theorem delT_sub {n : Str} : (delT T n).Sublist T := List.filter_sublist
theorem delT_has {n m : Str} (h : m ≠ n) : hasT (delT T n) m = hasT T m := by
  rw [Bool.eq_iff_iff, hasT_iff, hasT_iff]
  unfold delT
  constructor
  · intro z
    obtain ⟨q, hq, e⟩ := List.mem_map.mp z
    exact List.mem_map.mpr ⟨q, (List.mem_filter.mp hq).1, e⟩
  · intro z
    obtain ⟨q, hq, e⟩ := List.mem_map.mp z
    refine List.mem_map.mpr ⟨q, List.mem_filter.mpr ⟨hq, ?_⟩, e⟩
    rw [e]
    exact decide_eq_true h
theorem putT_mem {n : Str} {x : α} {q : Str × α} (h : q ∈ putT T n x) : q ∈ T ∨ q = (n, x) := by
  unfold putT at h
  split at h
  · obtain ⟨p, hp, e⟩ := List.mem_map.mp h
    split at e
    · rename_i e1
      right
      rw [← e, ← e1]
    · left
      rw [← e]
      exact hp
  · rcases List.mem_append.mp h with z | z
    · exact .inl z
    · exact .inr (List.mem_singleton.mp z)
end
theorem fold_on {b : Str} {k : Int} {P : Str → Prop} : ∀ {l acc : List (Str × SaR)}, (∀ q ∈ l, P q.2.1) → (∀ q ∈ acc, P q.2.1) → ∀ q ∈ l.foldl (shiftF b k) acc, P q.2.1
  | [], _, _, h => h
  | p :: l, acc, hl, h => by
    rw [List.foldl_cons]
    refine fold_on (fun q hq => hl q (List.mem_cons_of_mem _ hq)) fun q hq => ?_
    unfold shiftF at hq
    split at hq
    · rename_i e
      rcases putT_mem hq with z | z
      · exact h q z
      · rw [z]
        show P b
        rw [← e]
        exact hl p List.mem_cons_self
    · exact h q hq
theorem mem_all {Y : Yd} {z : Str} : z ∈ allN Y ↔ (z ∈ Y.tr.map (·.1) ∨ z ∈ Y.bo.map (·.1) ∨ z ∈ Y.sa.map (·.1) ∨ z ∈ Y.co.map (·.1)) := by
  unfold allN
  simp only [List.mem_append]
theorem map_app1 {α : Type} {T : List (Str × α)} {n : Str} {x : α} : (T ++ [(n, x)]).map (·.1) = T.map (·.1) ++ [n] := by rw [List.map_append]; rfl
theorem next_tre {Y : Yd} {n : Str} {c l r : Int} (h : Std Y) (hf : faultT Y n c l r = none) : Std { Y with tr := Y.tr ++ [(n, c, l, r)] } := by
  obtain ⟨h1, h2, _⟩ := newF (d := .tre n c l r) rfl hf
  have h1 : isName n = true := h1
  obtain ⟨q1, q2, q3, q4⟩ := tak (show taken Y n = false from h2)
  have pl : (isPlace l && isPlace r) = true ∧ l ≤ r := by
    unfold faultT at hf
    repeat' split at hf
    all_goals first | cases hf | skip
    rename_i a1 a2 a3 a4 a5 a6 a7
    exact ⟨by simpa using a4, by omega⟩
  simp only [Bool.and_eq_true] at pl
  refine ⟨?_, ⟨fun q hq => ?_, h.ft.bo⟩, fun z hz => ?_, h.on, h.sn⟩
  · show ((Y.tr ++ [(n, c, l, r)]).map (·.1) ++ Y.bo.map (·.1)).Nodup
    rw [map_app1, List.append_assoc]
    have g := h.gd
    unfold Gd at g
    rw [List.nodup_append] at g ⊢
    refine ⟨g.1, ?_, fun a ha b hb => ?_⟩
    · rw [List.singleton_append, List.nodup_cons]
      exact ⟨nin q1, g.2.1⟩
    · rw [List.singleton_append, List.mem_cons] at hb
      rcases hb with rfl | hb
      · intro e
        rw [e] at ha
        exact nin q2 ha
      · exact g.2.2 a ha b hb
  · rcases List.mem_append.mp hq with z | z
    · exact h.ft.tr q z
    · rw [List.mem_singleton.mp z]
      exact ⟨pl.1.1, pl.1.2, pl.2⟩
  · rw [mem_all] at hz
    rcases hz with z | z | z | z
    · have z : _ ∈ (Y.tr ++ [(n, c, l, r)]).map (·.1) := z
      rw [map_app1] at z
      rcases List.mem_append.mp z with z | z
      · exact h.nm _ (mem_all.mpr (.inl z))
      · rw [List.mem_singleton.mp z]
        exact nm_of_name h1
    · exact h.nm _ (mem_all.mpr (.inr (.inl z)))
    · exact h.nm _ (mem_all.mpr (.inr (.inr (.inl z))))
    · exact h.nm _ (mem_all.mpr (.inr (.inr (.inr z))))
theorem next_boa {Y : Yd} {n : Str} {c l r g : Int} (h : Std Y) (hf : faultB Y n c l r g = none) : Std { Y with bo := Y.bo ++ [(n, c, l, r, g)] } := by
  obtain ⟨h1, h2, _⟩ := newF (d := .boa n c l r g) rfl hf
  have h1 : isName n = true := h1
  obtain ⟨q1, q2, q3, q4⟩ := tak (show taken Y n = false from h2)
  have pl : isCourse c = true ∧ (isPlace l && isPlace r) = true ∧ l ≤ r := by
    unfold faultB at hf
    repeat' split at hf
    all_goals first | cases hf | skip
    rename_i a1 a2 a3 a4 a5 a6 a7 a8
    exact ⟨by simpa using a3, by simpa using a4, by omega⟩
  simp only [Bool.and_eq_true] at pl
  refine ⟨?_, ⟨h.ft.tr, fun q hq => ?_⟩, fun z hz => ?_, fun q hq => ?_, h.sn⟩
  · show (Y.tr.map (·.1) ++ (Y.bo ++ [(n, c, l, r, g)]).map (·.1)).Nodup
    rw [map_app1, ← List.append_assoc]
    have g := h.gd
    unfold Gd at g
    rw [List.nodup_append]
    refine ⟨g, by simp, fun a ha b hb => ?_⟩
    rw [List.mem_singleton.mp hb]
    intro e
    rw [e] at ha
    rcases List.mem_append.mp ha with z | z
    · exact nin q2 z
    · exact nin q1 z
  · rcases List.mem_append.mp hq with z | z
    · exact h.ft.bo q z
    · rw [List.mem_singleton.mp z]
      exact ⟨ne_of_name h1, pl.1, pl.2.1.1, pl.2.1.2, pl.2.2⟩
  · rw [mem_all] at hz
    rcases hz with z | z | z | z
    · exact h.nm _ (mem_all.mpr (.inl z))
    · have z : _ ∈ (Y.bo ++ [(n, c, l, r, g)]).map (·.1) := z
      rw [map_app1] at z
      rcases List.mem_append.mp z with z | z
      · exact h.nm _ (mem_all.mpr (.inr (.inl z)))
      · rw [List.mem_singleton.mp z]
        exact nm_of_name h1
    · exact h.nm _ (mem_all.mpr (.inr (.inr (.inl z))))
    · exact h.nm _ (mem_all.mpr (.inr (.inr (.inr z))))
  · show hasT (Y.bo ++ [(n, c, l, r, g)]) q.2.1 = true
    rw [hasT_iff, map_app1]
    exact List.mem_append_left _ (hasT_iff.mp (h.on q hq))
theorem next_awa {Y : Yd} {n : Str} (h : Std Y) (hf : faultAw Y n = none) : Std (stepAw Y n) := by
  have ns : sacked Y n = false := by
    unfold faultAw at hf
    repeat' split at hf
    all_goals first | cases hf | skip
    rename_i a1 a2
    simp only [Bool.not_eq_true, Bool.or_eq_false_iff] at a2
    exact a2.1
  have g := h.gd
  unfold Gd at g
  unfold stepAw
  split
  · refine ⟨?_, ⟨fun q hq => h.ft.tr q (delT_sub.subset hq), h.ft.bo⟩, fun z hz => ?_, h.on, h.sn⟩
    · show ((delT Y.tr n).map (·.1) ++ Y.bo.map (·.1)).Nodup
      exact g.sublist ((delT_sub.map _).append (List.Sublist.refl _))
    · rw [mem_all] at hz
      rcases hz with z | z | z | z
      · exact h.nm _ (mem_all.mpr (.inl ((delT_sub.map _).subset z)))
      · exact h.nm _ (mem_all.mpr (.inr (.inl z)))
      · exact h.nm _ (mem_all.mpr (.inr (.inr (.inl z))))
      · exact h.nm _ (mem_all.mpr (.inr (.inr (.inr z))))
  · refine ⟨?_, ⟨h.ft.tr, fun q hq => h.ft.bo q (delT_sub.subset hq)⟩, fun z hz => ?_, fun q hq => ?_, h.sn⟩
    · show (Y.tr.map (·.1) ++ (delT Y.bo n).map (·.1)).Nodup
      exact g.sublist ((List.Sublist.refl _).append (delT_sub.map _))
    · rw [mem_all] at hz
      rcases hz with z | z | z | z
      · exact h.nm _ (mem_all.mpr (.inl z))
      · exact h.nm _ (mem_all.mpr (.inr (.inl ((delT_sub.map _).subset z))))
      · exact h.nm _ (mem_all.mpr (.inr (.inr (.inl z))))
      · exact h.nm _ (mem_all.mpr (.inr (.inr (.inr z))))
    · show hasT (delT Y.bo n) q.2.1 = true
      have hq : q ∈ Y.sa := hq
      rw [delT_has]
      · exact h.on q hq
      · intro e
        unfold sacked at ns
        rw [List.any_eq_false] at ns
        exact ns q hq (decide_eq_true e)
theorem next_alo {Y : Yd} {n : Str} {k : Int} (h : Std Y) (hf : faultAl Y n k = none) : Std (stepAl Y n k) := by
  have g := h.gd
  unfold Gd at g
  unfold faultAl at hf
  unfold stepAl
  unfold thingY at hf
  cases e1 : getT Y.tr n with
  | some x =>
    rw [e1] at hf
    dsimp only at hf ⊢
    have pl : (isPlace (x.2.1 + k) && isPlace (x.2.2 + k)) = true := by
      repeat' split at hf
      all_goals first | cases hf | skip
      rename_i a1 a2 a3
      simpa using a1
    simp only [Bool.and_eq_true] at pl
    obtain ⟨_, _, le⟩ := h.ft.tr _ (get_mem e1)
    have le : x.2.1 ≤ x.2.2 := le
    have nn := putT_names (x := (x.1, x.2.1 + k, x.2.2 + k)) (get_yes e1)
    refine ⟨?_, ⟨fun q hq => ?_, h.ft.bo⟩, fun z hz => ?_, h.on, h.sn⟩
    · show ((putT Y.tr n (x.1, x.2.1 + k, x.2.2 + k)).map (·.1) ++ Y.bo.map (·.1)).Nodup
      rw [nn]
      exact g
    · rcases putT_mem hq with z | z
      · exact h.ft.tr q z
      · rw [z]
        exact ⟨pl.1, pl.2, by show x.2.1 + k ≤ x.2.2 + k; omega⟩
    · refine h.nm z ?_
      rw [mem_all] at hz ⊢
      have hz : z ∈ (putT Y.tr n (x.1, x.2.1 + k, x.2.2 + k)).map (·.1) ∨ z ∈ Y.bo.map (·.1) ∨ z ∈ Y.sa.map (·.1) ∨ z ∈ Y.co.map (·.1) := hz
      rw [nn] at hz
      exact hz
  | none =>
    rw [e1] at hf
    cases e2 : getT Y.bo n with
    | none => rw [e2] at hf; cases hf
    | some x =>
      rw [e2] at hf
      dsimp only [Option.map] at hf ⊢
      have pl : (isPlace (x.2.1 + k) && isPlace (x.2.2.1 + k)) = true := by
        repeat' split at hf
        all_goals first | cases hf | skip
        rename_i a1 a2 a3
        simpa using a1
      simp only [Bool.and_eq_true] at pl
      obtain ⟨f1, f2, _, _, le⟩ := h.ft.bo _ (get_mem e2)
      have le : x.2.1 ≤ x.2.2.1 := le
      have nn := putT_names (x := (x.1, x.2.1 + k, x.2.2.1 + k, x.2.2.2)) (get_yes e2)
      refine ⟨?_, ⟨h.ft.tr, fun q hq => ?_⟩, fun z hz => ?_, fun q hq => ?_, ?_⟩
      · show (Y.tr.map (·.1) ++ (putT Y.bo n (x.1, x.2.1 + k, x.2.2.1 + k, x.2.2.2)).map (·.1)).Nodup
        rw [nn]
        exact g
      · rcases putT_mem hq with z | z
        · exact h.ft.bo q z
        · rw [z]
          exact ⟨f1, f2, pl.1, pl.2, by show x.2.1 + k ≤ x.2.2.1 + k; omega⟩
      · refine h.nm z ?_
        rw [mem_all] at hz ⊢
        have hz : z ∈ Y.tr.map (·.1) ∨ z ∈ (putT Y.bo n (x.1, x.2.1 + k, x.2.2.1 + k, x.2.2.2)).map (·.1) ∨ z ∈ (shiftS Y.sa n k).map (·.1) ∨ z ∈ Y.co.map (·.1) := hz
        rw [nn, shiftS_names] at hz
        exact hz
      · show hasT (putT Y.bo n (x.1, x.2.1 + k, x.2.2.1 + k, x.2.2.2)) q.2.1 = true
        rw [hasT_names nn]
        exact fold_on (P := fun z => hasT Y.bo z = true) h.on h.on q hq
      · show ((shiftS Y.sa n k).map (·.1)).Nodup
        rw [shiftS_names]
        exact h.sn
theorem onBd_has {Y : Yd} {b : Str} {p : Int} {v : Bool} (h : onBd Y b p = some v) : hasT Y.bo b = true := by
  unfold onBd at h
  cases e : getT Y.bo b with
  | none => rw [e] at h; cases h
  | some x => exact get_yes e
theorem next_sac {Y : Yd} {n b : Str} {p g : Int} (h : Std Y) (hf : faultSa Y n b p g = none) : Std (stepSa Y n b p g) := by
  obtain ⟨h1, h2, _⟩ := newF (d := .sac n b p g) rfl hf
  have h1 : isName n = true := h1
  have h2 : taken Y n = false := h2
  obtain ⟨q1, q2, q3, q4⟩ := tak h2
  have hb : hasT Y.bo b = true := by
    unfold faultSa at hf
    simp only [h1, h2] at hf
    cases e : onBd Y b p with
    | none => rw [e] at hf; simp at hf
    | some v => exact onBd_has e
  unfold stepSa
  refine ⟨h.gd, ⟨h.ft.tr, h.ft.bo⟩, fun z hz => ?_, fun q hq => ?_, ?_⟩
  · rw [mem_all] at hz
    rcases hz with z | z | z | z
    · exact h.nm _ (mem_all.mpr (.inl z))
    · exact h.nm _ (mem_all.mpr (.inr (.inl z)))
    · have z : _ ∈ (Y.sa ++ [(n, b, p, g)]).map (·.1) := z
      rw [map_app1] at z
      rcases List.mem_append.mp z with z | z
      · exact h.nm _ (mem_all.mpr (.inr (.inr (.inl z))))
      · rw [List.mem_singleton.mp z]
        exact nm_of_name h1
    · exact h.nm _ (mem_all.mpr (.inr (.inr (.inr z))))
  · rcases List.mem_append.mp hq with z | z
    · exact h.on q z
    · rw [List.mem_singleton.mp z]
      exact hb
  · show ((Y.sa ++ [(n, b, p, g)]).map (·.1)).Nodup
    rw [map_app1, List.nodup_append]
    refine ⟨h.sn, by simp, fun x hx y hy => ?_⟩
    rw [List.mem_singleton.mp hy]
    intro e
    rw [e] at hx
    exact nin q3 hx
theorem next_mov {Y : Yd} {n b : Str} {p : Int} (h : Std Y) (hf : faultMo Y n b p = none) : Std (stepMo Y n b p) := by
  unfold stepMo
  cases e : getT Y.sa n with
  | none => exact h
  | some x =>
    have hs := get_yes e
    have hb : hasT Y.bo b = true := by
      unfold faultMo at hf
      simp only [hs] at hf
      cases e : onBd Y b p with
      | none => rw [e] at hf; simp at hf
      | some v => exact onBd_has e
    have nn := putT_names (x := (b, p, x.2.2)) hs
    refine ⟨h.gd, ⟨h.ft.tr, h.ft.bo⟩, fun z hz => ?_, fun q hq => ?_, ?_⟩
    · refine h.nm z ?_
      rw [mem_all] at hz ⊢
      have hz : z ∈ Y.tr.map (·.1) ∨ z ∈ Y.bo.map (·.1) ∨ z ∈ (putT Y.sa n (b, p, x.2.2)).map (·.1) ∨ z ∈ Y.co.map (·.1) := hz
      rw [nn] at hz
      exact hz
    · rcases putT_mem hq with z | z
      · exact h.on q z
      · rw [z]
        exact hb
    · show ((putT Y.sa n (b, p, x.2.2)).map (·.1)).Nodup
      rw [nn]
      exact h.sn
theorem next_lif {Y : Yd} {n : Str} (h : Std Y) : Std (stepLi Y n) := by
  unfold stepLi
  refine ⟨h.gd, ⟨h.ft.tr, h.ft.bo⟩, fun z hz => ?_, fun q hq => h.on q (delT_sub.subset hq), h.sn.sublist (delT_sub.map _)⟩
  rw [mem_all] at hz
  rcases hz with z | z | z | z
  · exact h.nm _ (mem_all.mpr (.inl z))
  · exact h.nm _ (mem_all.mpr (.inr (.inl z)))
  · exact h.nm _ (mem_all.mpr (.inr (.inr (.inl ((delT_sub.map _).subset z)))))
  · exact h.nm _ (mem_all.mpr (.inr (.inr (.inr z))))
theorem next_cut {Y : Yd} {n : Str} (h : Std Y) : Std (stepCu Y n) := by
  unfold stepCu
  refine ⟨h.gd, ⟨h.ft.tr, h.ft.bo⟩, fun z hz => ?_, h.on, h.sn⟩
  rw [mem_all] at hz
  rcases hz with z | z | z | z
  · exact h.nm _ (mem_all.mpr (.inl z))
  · exact h.nm _ (mem_all.mpr (.inr (.inl z)))
  · exact h.nm _ (mem_all.mpr (.inr (.inr (.inl z))))
  · exact h.nm _ (mem_all.mpr (.inr (.inr (.inr ((delT_sub.map _).subset z)))))
theorem next_cor {Y : Yd} {n u lo : Str} {p : Int} (h : Std Y) (hf : faultTi Y n u lo p = none) : Std (stepTi Y n u lo p) := by
  obtain ⟨h1, h2, _⟩ := newF (d := .cor n u lo p) rfl hf
  have h1 : isName n = true := h1
  unfold stepTi
  refine ⟨h.gd, ⟨h.ft.tr, h.ft.bo⟩, fun z hz => ?_, h.on, h.sn⟩
  rw [mem_all] at hz
  rcases hz with z | z | z | z
  · exact h.nm _ (mem_all.mpr (.inl z))
  · exact h.nm _ (mem_all.mpr (.inr (.inl z)))
  · exact h.nm _ (mem_all.mpr (.inr (.inr (.inl z))))
  · have z : _ ∈ (Y.co ++ [(n, u, lo, p)]).map (·.1) := z
    rw [map_app1] at z
    rcases List.mem_append.mp z with z | z
    · exact h.nm _ (mem_all.mpr (.inr (.inr (.inr z))))
    · rw [List.mem_singleton.mp z]
      exact nm_of_name h1
theorem std_step {Y : Yd} {d : Deed} (h : Std Y) (hf : fault Y d = none) : Std (step Y d) := by
  cases d with
  | tre => exact next_tre h hf
  | boa => exact next_boa h hf
  | awa => exact next_awa h hf
  | alo => exact next_alo h hf
  | sac => exact next_sac h hf
  | mov => exact next_mov h hf
  | lif => exact next_lif h
  | cor => exact next_cor h hf
  | cut => exact next_cut h
theorem std0 : Std y0 := ⟨List.nodup_nil, ⟨(fun q hq => nomatch hq), (fun q hq => nomatch hq)⟩, (fun z hz => nomatch hz), (fun q hq => nomatch hq), List.nodup_nil⟩
end DY
namespace DY
open PySem PySem.Spec PyProof.Rows L2
abbrev s__law_same : Stmt := topS 64
abbrev N__law_same : List Str := ["_law_found", "_law_due", "_law_one", "_law_other"]
theorem sc__law_same : FnScope N__law_same ["_law_found", "_law_due"] (defScope s__law_same) := ⟨rfl, rfl, rfl, by decide +kernel, rfl, by decide +kernel, by decide +kernel⟩
abbrev s__law_feed : Stmt := topS 63
abbrev N__law_feed : List Str := ["_law_script", "_law_many", "_law_feed_here", "_law_salt", "_law_cell", "_law_rest", "_law_k"]
theorem sc__law_feed : FnScope N__law_feed ["_law_script", "_law_many"] (defScope s__law_feed) := ⟨rfl, rfl, rfl, by decide +kernel, rfl, by decide +kernel, by decide +kernel⟩
theorem same_tup {K : PySem.W.Frag} {H H' : Hp} {a : Addr} {xs : List V} (e : Same H H') (h : SqT K H a xs) : SqT K H' a xs := by
  rcases h with (h | ⟨o, h⟩) | h
  · exact .inl (.inl (e _ _ h))
  · exact .inl (.inr ⟨o, e _ _ h⟩)
  · exact .inr h
/-! ### _law_same: two values that tell the same -/
inductive Eqv (H : Hp) : Nat → V → V → Prop
  | non {n : Nat} : Eqv H n .non .non
  | bl {n : Nat} (b : Bool) : Eqv H n (.bl b) (.bl b)
  | int {n : Nat} (i : Int) : Eqv H n (.int i) (.int i)
  | str {n : Nat} (z : Str) : Eqv H n (.str z) (.str z)
  | tup {n : Nat} {a b : Addr} {xs ys : List V} (ha : H a = some (.tup xs)) (hb : H b = some (.tup ys)) (hl : xs.length = ys.length) (hz : xs.length ≤ 1000)
      (he : ∀ (i : Nat) (x y : V), xs[i]? = some x → ys[i]? = some y → Eqv H n x y) : Eqv H (n + 1) (.ref a) (.ref b)
  | lst {n : Nat} {a b : Addr} {xs ys : List V} (ha : H a = some (.lst xs)) (hb : H b = some (.lst ys)) (hl : xs.length = ys.length) (hz : xs.length ≤ 1000)
      (he : ∀ (i : Nat) (x y : V), xs[i]? = some x → ys[i]? = some y → Eqv H n x y) : Eqv H (n + 1) (.ref a) (.ref b)
theorem Eqv.keep {H H' : Hp} (s : Same H H') {n : Nat} {x y : V} (e : Eqv H n x y) : Eqv H' n x y := by
  induction e with
  | non => exact .non
  | bl b => exact .bl b
  | int i => exact .int i
  | str z => exact .str z
  | tup ha hb hl hz _ ih => exact .tup (s _ _ ha) (s _ _ hb) hl hz ih
  | lst ha hb hl hz _ ih => exact .lst (s _ _ ha) (s _ _ hb) hl hz ih
def spSame (n : Nat) : Sp := fun vs H Q _ => ∃ x y : V, vs = [x, y] ∧ Eqv H n x y ∧ ∀ H', Same H H' → Q (.bl true) H'
theorem walk_zipT {K : PySem.W.Frag} {a b : Addr} {xs ys : List V} {n : Nat} (hn : n = min xs.length ys.length) : Walk (RZ.ItzT K a b) n (fun H => SqT K H a xs ∧ SqT K H b ys) (YPair (fun i => xs[i]?) (fun i => ys[i]?)) := by
  subst hn
  refine ⟨fun i _ hi q => ?_, fun _ q => ⟨xs, ys, q.1, q.2, by omega⟩, fun i H v H' _ q y => ?_⟩
  · have h1 : i < xs.length := by omega
    have h2 : i < ys.length := by omega
    exact ⟨xs, ys, xs[i], ys[i], q.1, q.2, by simp [h1], by simp [h2]⟩
  · obtain ⟨T, x, z, h1, h2, h3, h4, h5⟩ := y
    exact ⟨T, x, z, h1, h2, h3, h4 xs q.1, h5 ys q.2⟩
theorem all_true (n : Nat) : (List.replicate n true).all id = true := by
  induction n with
  | zero => rfl
  | succ n ih =>
    rw [List.replicate_succ, List.all_cons, ih]
    rfl
theorem rep_bl (n : Nat) : List.replicate n (V.bl true) = (List.replicate n true).map V.bl := by
  rw [List.map_replicate]
section
variable {P : Program} {w : World} {K : PySem.W.Frag} {mg : Str → Option Value} {base : Heap}
/-- the names that the def reads of the built-in ones -/
structure SameTxt (mg : Str → Option Value) : Prop where
  isi : mg "isinstance" = none
  bo : mg "bool" = none
  li : mg "list" = none
  tu : mg "tuple" = none
  le : mg "len" = none
  al : mg "all" = none
  zi : mg "zip" = none
  st : mg "str" = none
  it : mg "int" = none
theorem ok_same {f : Addr} {fd : FuncData} (F : Fun K "_law_same" "_law_same" s__law_same f fd) (bS : Binds K fd ["_law_found", "_law_due"] []) (gS : mg "_law_same" = some (.ref f)) (T : SameTxt mg) : ∀ n : Nat, FnOk P w K mg base CX0 (n + 1) f fd ["_law_found", "_law_due"] (spSame n)
  | 0 => by
    refine F.ok sc__law_same (fun vs H Q E h => ?_) (fun cdv A outer s H vs Q E hr h => ?_)
    · obtain ⟨x, y, rfl, _⟩ := h
      rfl
    · obtain ⟨x, y, rfl, he, q⟩ := h
      have q0 := q H (Same.refl H)
      refine ⟨_, pss_cons (ps_if (pt_cmpR op_isN (pv 1) pe_non (nomark _)) (pss_one (ps_ret (pe_cmpR op_isN (pv 0) pe_non (nomark _)))) pss_nil)
        (pss_cons (ps_if (pt_val (pe_callB call_isi (by rfl) T.isi (by decide +kernel) (pa_cons (pv 1) (pa_cons (pe_bltn (v := .ty "bool") (by rfl) T.bo (by decide +kernel) rfl) pa_nil))))
          (pss_one (ps_ret (pe_and (pe_callB call_isi (by rfl) T.isi (by decide +kernel) (pa_cons (pv 0) (pa_cons (pe_bltn (v := .ty "bool") (by rfl) T.bo (by decide +kernel) rfl) pa_nil))) (pe_one (pe_cmpR op_eq (pv 0) (pv 1) (nomark _)))))) pss_nil)
        (pss_cons (ps_if (PW.pt (pw_or (pt_val (pe_callB call_isi (by rfl) T.isi (by decide +kernel) (pa_cons (pv 1) (pa_cons (pe_bltn (v := .ty "list") (by rfl) T.li (by decide +kernel) rfl) pa_nil))))
            (pw_or1 (pt_val (pe_callB call_isi (by rfl) T.isi (by decide +kernel) (pa_cons (pv 1) (pa_cons (pe_bltn (v := .ty "tuple") (by rfl) T.tu (by decide +kernel) rfl) pa_nil)))))))
          pss_never pss_nil)
        (pss_cons (ps_if (pt_val (pe_callB call_isi (by rfl) T.isi (by decide +kernel) (pa_cons (pv 1) (pa_cons (pe_bltn (v := .ty "str") (by rfl) T.st (by decide +kernel) rfl) pa_nil))))
          (pss_one (ps_ret (pe_and (pe_callB call_isi (by rfl) T.isi (by decide +kernel) (pa_cons (pv 0) (pa_cons (pe_bltn (v := .ty "str") (by rfl) T.st (by decide +kernel) rfl) pa_nil))) (pe_one (pe_cmpR op_eq (pv 0) (pv 1) (nomark _)))))) pss_nil)
        (pss_one (ps_ret (pe_and (pe_callB call_isi (by rfl) T.isi (by decide +kernel) (pa_cons (pv 0) (pa_cons (pe_bltn (v := .ty "int") (by rfl) T.it (by decide +kernel) rfl) pa_nil)))
          (pe_and (pe_not (pe_callB call_isi (by rfl) T.isi (by decide +kernel) (pa_cons (pv 0) (pa_cons (pe_bltn (v := .ty "bool") (by rfl) T.bo (by decide +kernel) rfl) pa_nil)))) (pe_one (pe_cmpR op_eq (pv 0) (pv 1) (nomark _)))))))))), ?_⟩
      cases he with
      | non => exact ⟨_, rfl, rfl, _, rfl, iteT ⟨_, rfl, rfl, q0⟩⟩
      | bl b =>
        refine ⟨_, rfl, rfl, _, rfl, iteF ?_⟩
        refine ⟨_, rfl, _, _, _, _, true, rfl, .ty _, .base (.bl b), kit_ty (by decide +kernel), _, rfl, iteT ?_⟩
        refine ⟨_, rfl, _, _, _, _, true, rfl, .ty _, .base (.bl b), kit_ty (by decide +kernel), _, rfl, iteT ?_⟩
        refine ⟨_, rfl, _, rfl, ?_, ?_⟩
        · simp [scal]
        · rw [decide_eq_true rfl]
          exact q0
      | int i =>
        refine ⟨_, rfl, rfl, _, rfl, iteF ?_⟩
        refine ⟨_, rfl, _, _, _, _, false, rfl, .ty _, .base (.int i), kit_ty (by decide +kernel), _, rfl, iteF ?_⟩
        refine ⟨_, rfl, _, _, _, _, false, rfl, .ty _, .base (.int i), kit_ty (by decide +kernel), _, rfl, iteF ?_⟩
        refine ⟨_, rfl, _, _, _, _, false, rfl, .ty _, .base (.int i), kit_ty (by decide +kernel), _, rfl, iteF ?_⟩
        refine ⟨_, rfl, _, _, _, _, false, rfl, .ty _, .base (.int i), kit_ty (by decide +kernel), _, rfl, iteF ?_⟩
        refine ⟨_, rfl, _, _, _, _, true, rfl, .ty _, .base (.int i), kit_ty (by decide +kernel), _, rfl, iteT ?_⟩
        refine ⟨_, rfl, _, _, _, _, false, rfl, .ty _, .base (.int i), kit_ty (by decide +kernel), _, rfl, _, rfl, iteT ?_⟩
        refine ⟨_, rfl, _, rfl, ?_, ?_⟩
        · simp [scal]
        · rw [decide_eq_true rfl]
          exact q0
      | str z =>
        refine ⟨_, rfl, rfl, _, rfl, iteF ?_⟩
        refine ⟨_, rfl, _, _, _, _, false, rfl, .ty _, .base (.str z), kit_ty (by decide +kernel), _, rfl, iteF ?_⟩
        refine ⟨_, rfl, _, _, _, _, false, rfl, .ty _, .base (.str z), kit_ty (by decide +kernel), _, rfl, iteF ?_⟩
        refine ⟨_, rfl, _, _, _, _, false, rfl, .ty _, .base (.str z), kit_ty (by decide +kernel), _, rfl, iteF ?_⟩
        refine ⟨_, rfl, _, _, _, _, true, rfl, .ty _, .base (.str z), kit_ty (by decide +kernel), _, rfl, iteT ?_⟩
        refine ⟨_, rfl, _, _, _, _, true, rfl, .ty _, .base (.str z), kit_ty (by decide +kernel), _, rfl, iteT ?_⟩
        refine ⟨_, rfl, _, rfl, ?_, ?_⟩
        · simp [scal]
        · rw [decide_eq_true rfl]
          exact q0
  | n + 1 => by
    have G : FnOk P w K mg base CX0 (n + 1) f fd ["_law_found", "_law_due"] (spSame n) := ok_same F bS gS T n
    refine F.ok sc__law_same (fun vs H Q E h => ?_) (fun cdv A outer s H vs Q E hr h => ?_)
    · obtain ⟨x, y, rfl, _⟩ := h
      rfl
    · obtain ⟨x, y, rfl, he, q⟩ := h
      have q0 := q H (Same.refl H)
      refine ⟨_, pss_cons (ps_if (pt_cmpR op_isN (pv 1) pe_non (nomark _)) (pss_one (ps_ret (pe_cmpR op_isN (pv 0) pe_non (nomark _)))) pss_nil)
        (pss_cons (ps_if (pt_val (pe_callB call_isi (by rfl) T.isi (by decide +kernel) (pa_cons (pv 1) (pa_cons (pe_bltn (v := .ty "bool") (by rfl) T.bo (by decide +kernel) rfl) pa_nil))))
          (pss_one (ps_ret (pe_and (pe_callB call_isi (by rfl) T.isi (by decide +kernel) (pa_cons (pv 0) (pa_cons (pe_bltn (v := .ty "bool") (by rfl) T.bo (by decide +kernel) rfl) pa_nil))) (pe_one (pe_cmpR op_eq (pv 0) (pv 1) (nomark _)))))) pss_nil)
        (pss_cons (ps_if (PW.pt (pw_or (pt_val (pe_callB call_isi (by rfl) T.isi (by decide +kernel) (pa_cons (pv 1) (pa_cons (pe_bltn (v := .ty "list") (by rfl) T.li (by decide +kernel) rfl) pa_nil))))
            (pw_or1 (pt_val (pe_callB call_isi (by rfl) T.isi (by decide +kernel) (pa_cons (pv 1) (pa_cons (pe_bltn (v := .ty "tuple") (by rfl) T.tu (by decide +kernel) rfl) pa_nil)))))))
          (pss_cons (ps_if (PW.pt (pw_or (pt_cmpR op_ne (pe_callB call_isi (by rfl) T.isi (by decide +kernel) (pa_cons (pv 0) (pa_cons (pe_bltn (v := .ty "list") (by rfl) T.li (by decide +kernel) rfl) pa_nil))) (pe_callB call_isi (by rfl) T.isi (by decide +kernel) (pa_cons (pv 1) (pa_cons (pe_bltn (v := .ty "list") (by rfl) T.li (by decide +kernel) rfl) pa_nil))) (nomark _))
              (pw_or1 (pt_cmpR op_ne (pe_callB call_isi (by rfl) T.isi (by decide +kernel) (pa_cons (pv 0) (pa_cons (pe_bltn (v := .ty "tuple") (by rfl) T.tu (by decide +kernel) rfl) pa_nil))) (pe_callB call_isi (by rfl) T.isi (by decide +kernel) (pa_cons (pv 1) (pa_cons (pe_bltn (v := .ty "tuple") (by rfl) T.tu (by decide +kernel) rfl) pa_nil))) (nomark _)))))
              (pss_one (ps_ret pe_bl)) pss_nil)
            (pss_one (ps_ret (pe_and (pe_cmpR op_eq (pe_callB call_len_seq (by rfl) T.le PySem.boot_len (pa_cons (pv 0) pa_nil)) (pe_callB call_len_seq (by rfl) T.le PySem.boot_len (pa_cons (pv 1) pa_nil)) (nomark _))
              (pe_one (pe_callB (cr_all rfl) (by rfl) T.al (by decide +kernel) (pa_cons
                (pe_lc (own := [("_law_one", 2), ("_law_other", 3)]) (g := gTup K 2 (gCons (gName 2) (gCons (gName 3) gNil))) (tt := tYes) (by rfl) sc__law_same.nd (RZ.pi_zipA (by rfl) T.zi (pa_cons (pv 0) (pa_cons (pv 1) pa_nil)))
                  (blkOk_by (N := ["_law_found", "_law_due", "_law_one", "_law_other"]) (sc := defScope s__law_same) (by decide +kernel))
                  (fun _ _ _ _ _ => pg_tup rfl (pgs_cons (pg_name (i := 2) sc__law_same.nd rfl (Or.inl rfl)) (pgs_cons (pg_name (i := 3) sc__law_same.nd rfl (Or.inl rfl)) pgs_nil)))
                  (fun _ _ _ _ _ => pts_nil)
                  (fun _ _ _ _ _ => pe_call G hr (by rfl) gS F.kp bS .nil pass0 (pa_cons (pv 2) (pa_cons (pv 3) pa_nil))))
                pa_nil)))))))
          pss_nil)
        (pss_cons (ps_if (pt_val (pe_callB call_isi (by rfl) T.isi (by decide +kernel) (pa_cons (pv 1) (pa_cons (pe_bltn (v := .ty "str") (by rfl) T.st (by decide +kernel) rfl) pa_nil))))
          (pss_one (ps_ret (pe_and (pe_callB call_isi (by rfl) T.isi (by decide +kernel) (pa_cons (pv 0) (pa_cons (pe_bltn (v := .ty "str") (by rfl) T.st (by decide +kernel) rfl) pa_nil))) (pe_one (pe_cmpR op_eq (pv 0) (pv 1) (nomark _)))))) pss_nil)
        (pss_one (ps_ret (pe_and (pe_callB call_isi (by rfl) T.isi (by decide +kernel) (pa_cons (pv 0) (pa_cons (pe_bltn (v := .ty "int") (by rfl) T.it (by decide +kernel) rfl) pa_nil)))
          (pe_and (pe_not (pe_callB call_isi (by rfl) T.isi (by decide +kernel) (pa_cons (pv 0) (pa_cons (pe_bltn (v := .ty "bool") (by rfl) T.bo (by decide +kernel) rfl) pa_nil)))) (pe_one (pe_cmpR op_eq (pv 0) (pv 1) (nomark _)))))))))), ?_⟩
      cases he with
      | non => exact ⟨_, rfl, rfl, _, rfl, iteT ⟨_, rfl, rfl, q0⟩⟩
      | bl b =>
        refine ⟨_, rfl, rfl, _, rfl, iteF ?_⟩
        refine ⟨_, rfl, _, _, _, _, true, rfl, .ty _, .base (.bl b), kit_ty (by decide +kernel), _, rfl, iteT ?_⟩
        refine ⟨_, rfl, _, _, _, _, true, rfl, .ty _, .base (.bl b), kit_ty (by decide +kernel), _, rfl, iteT ?_⟩
        refine ⟨_, rfl, _, rfl, ?_, ?_⟩
        · simp [scal]
        · rw [decide_eq_true rfl]
          exact q0
      | int i =>
        refine ⟨_, rfl, rfl, _, rfl, iteF ?_⟩
        refine ⟨_, rfl, _, _, _, _, false, rfl, .ty _, .base (.int i), kit_ty (by decide +kernel), _, rfl, iteF ?_⟩
        refine ⟨_, rfl, _, _, _, _, false, rfl, .ty _, .base (.int i), kit_ty (by decide +kernel), _, rfl, iteF ?_⟩
        refine ⟨_, rfl, _, _, _, _, false, rfl, .ty _, .base (.int i), kit_ty (by decide +kernel), _, rfl, iteF ?_⟩
        refine ⟨_, rfl, _, _, _, _, false, rfl, .ty _, .base (.int i), kit_ty (by decide +kernel), _, rfl, iteF ?_⟩
        refine ⟨_, rfl, _, _, _, _, true, rfl, .ty _, .base (.int i), kit_ty (by decide +kernel), _, rfl, iteT ?_⟩
        refine ⟨_, rfl, _, _, _, _, false, rfl, .ty _, .base (.int i), kit_ty (by decide +kernel), _, rfl, _, rfl, iteT ?_⟩
        refine ⟨_, rfl, _, rfl, ?_, ?_⟩
        · simp [scal]
        · rw [decide_eq_true rfl]
          exact q0
      | str z =>
        refine ⟨_, rfl, rfl, _, rfl, iteF ?_⟩
        refine ⟨_, rfl, _, _, _, _, false, rfl, .ty _, .base (.str z), kit_ty (by decide +kernel), _, rfl, iteF ?_⟩
        refine ⟨_, rfl, _, _, _, _, false, rfl, .ty _, .base (.str z), kit_ty (by decide +kernel), _, rfl, iteF ?_⟩
        refine ⟨_, rfl, _, _, _, _, false, rfl, .ty _, .base (.str z), kit_ty (by decide +kernel), _, rfl, iteF ?_⟩
        refine ⟨_, rfl, _, _, _, _, true, rfl, .ty _, .base (.str z), kit_ty (by decide +kernel), _, rfl, iteT ?_⟩
        refine ⟨_, rfl, _, _, _, _, true, rfl, .ty _, .base (.str z), kit_ty (by decide +kernel), _, rfl, iteT ?_⟩
        refine ⟨_, rfl, _, rfl, ?_, ?_⟩
        · simp [scal]
        · rw [decide_eq_true rfl]
          exact q0
      | @tup _ a b xs ys ha hb hl hz he =>
        refine ⟨_, rfl, rfl, _, rfl, iteF ?_⟩
        refine ⟨_, rfl, _, _, _, _, false, rfl, .ty _, .base (.tup hb), kit_ty (by decide +kernel), _, rfl, iteF ?_⟩
        refine ⟨_, rfl, _, _, _, _, false, rfl, .ty _, .base (.tup hb), kit_ty (by decide +kernel), _, rfl, iteF ?_⟩
        refine ⟨_, rfl, _, _, _, _, true, rfl, .ty _, .base (.tup hb), kit_ty (by decide +kernel), _, rfl, iteT ?_⟩
        refine ⟨_, rfl, _, _, _, _, false, rfl, .ty _, .base (.tup ha), kit_ty (by decide +kernel), _, rfl, _, _, _, _, false, rfl, .ty _, .base (.tup hb), kit_ty (by decide +kernel), rfl, _, rfl, iteF ?_⟩
        refine ⟨_, rfl, _, _, _, _, true, rfl, .ty _, .base (.tup ha), kit_ty (by decide +kernel), _, rfl, _, _, _, _, true, rfl, .ty _, .base (.tup hb), kit_ty (by decide +kernel), rfl, _, rfl, iteF ?_⟩
        refine ⟨_, rfl, a, xs, rfl, .inr (SqT.of ha), _, rfl, b, ys, rfl, .inr (SqT.of hb), rfl, _, rfl, ?_⟩
        rw [decide_eq_true (show V.int (xs.length : Int) = V.int (ys.length : Int) by rw [hl])]
        refine iteT ?_
        refine ⟨_, rfl, _, rfl, a, b, xs, ys, rfl, .inr ⟨SqT.of ha, SqT.of hb, fun D nD => ?_⟩⟩
        refine lc_it (walk_zipT (xs := xs) (ys := ys) (n := xs.length) (by omega)) (fun i H' => Same H H' ∧ H' D = some (.lst (List.replicate i (.bl true)))) ⟨same_upd nD, upd_same⟩ (fun i H' _ p => ⟨same_tup p.1 (SqT.of ha), same_tup p.1 (SqT.of hb)⟩) (fun i v H2 H3 hi p hy => ?_) (fun H2 p => ?_)
        · obtain ⟨p1, p2⟩ := p
          obtain ⟨T', x, y, rfl, nT, rfl, ex, ey⟩ := hy
          have sT : Same H2 (upd H2 T' (.tup [x, y])) := same_upd nT
          refine ⟨T', [x, y], rfl, .inl (.inl upd_same), rfl, x, [y], rfl, y, [], rfl, rfl, rfl, ?_⟩
          refine yes (iteT ?_)
          refine ⟨x, rfl, y, rfl, x, y, rfl, (he i x y ex ey).keep (p1.trans sT), fun H4 s4 => ?_⟩
          refine ⟨_, s4 _ _ (sT _ _ p2), ?_, ?_, ?_⟩
          · rw [List.length_replicate]
            exact small1000 (by omega)
          · intro c o e
            rw [upd_ne (ne_of_none e nD)]
            exact s4 _ _ (sT _ _ (p1 _ _ e))
          · rw [upd_same, List.replicate_succ']
        · refine ⟨D, List.replicate xs.length true, rfl, ?_, ?_⟩
          · rw [← rep_bl]
            exact SqL.of p.2
          · rw [all_true]
            exact q _ p.1
      | @lst _ a b xs ys ha hb hl hz he =>
        refine ⟨_, rfl, rfl, _, rfl, iteF ?_⟩
        refine ⟨_, rfl, _, _, _, _, false, rfl, .ty _, .base (.lst hb), kit_ty (by decide +kernel), _, rfl, iteF ?_⟩
        refine ⟨_, rfl, _, _, _, _, true, rfl, .ty _, .base (.lst hb), kit_ty (by decide +kernel), _, rfl, iteT ?_⟩
        refine ⟨_, rfl, _, _, _, _, true, rfl, .ty _, .base (.lst ha), kit_ty (by decide +kernel), _, rfl, _, _, _, _, true, rfl, .ty _, .base (.lst hb), kit_ty (by decide +kernel), rfl, _, rfl, iteF ?_⟩
        refine ⟨_, rfl, _, _, _, _, false, rfl, .ty _, .base (.lst ha), kit_ty (by decide +kernel), _, rfl, _, _, _, _, false, rfl, .ty _, .base (.lst hb), kit_ty (by decide +kernel), rfl, _, rfl, iteF ?_⟩
        refine ⟨_, rfl, a, xs, rfl, .inl (SqL.of ha), _, rfl, b, ys, rfl, .inl (SqL.of hb), rfl, _, rfl, ?_⟩
        rw [decide_eq_true (show V.int (xs.length : Int) = V.int (ys.length : Int) by rw [hl])]
        refine iteT ?_
        refine ⟨_, rfl, _, rfl, a, b, xs, ys, rfl, .inl ⟨SqL.of ha, SqL.of hb, fun D nD => ?_⟩⟩
        refine lc_it (walk_zip (xs := xs) (ys := ys) (n := xs.length) (by omega)) (fun i H' => Same H H' ∧ H' D = some (.lst (List.replicate i (.bl true)))) ⟨same_upd nD, upd_same⟩ (fun i H' _ p => ⟨p.1.seq (SqL.of ha), p.1.seq (SqL.of hb)⟩) (fun i v H2 H3 hi p hy => ?_) (fun H2 p => ?_)
        · obtain ⟨p1, p2⟩ := p
          obtain ⟨T', x, y, rfl, nT, rfl, ex, ey⟩ := hy
          have sT : Same H2 (upd H2 T' (.tup [x, y])) := same_upd nT
          refine ⟨T', [x, y], rfl, .inl (.inl upd_same), rfl, x, [y], rfl, y, [], rfl, rfl, rfl, ?_⟩
          refine yes (iteT ?_)
          refine ⟨x, rfl, y, rfl, x, y, rfl, (he i x y ex ey).keep (p1.trans sT), fun H4 s4 => ?_⟩
          refine ⟨_, s4 _ _ (sT _ _ p2), ?_, ?_, ?_⟩
          · rw [List.length_replicate]
            exact small1000 (by omega)
          · intro c o e
            rw [upd_ne (ne_of_none e nD)]
            exact s4 _ _ (sT _ _ (p1 _ _ e))
          · rw [upd_same, List.replicate_succ']
        · refine ⟨D, List.replicate xs.length true, rfl, ?_, ?_⟩
          · rw [← rep_bl]
            exact SqL.of p.2
          · rw [all_true]
            exact q _ p.1
end
end DY
namespace DY
open PySem PySem.Spec PyProof.Rows L2
/-! ### _law_feed -/
def Fd (fs : List Int) : Prop := ∀ x ∈ fs, 0 ≤ x ∧ x < 1000003
theorem Fd.nil : Fd [] := fun x hx => nomatch hx
theorem Fd.app {fs : List Int} {x : Int} (h : Fd fs) (h0 : 0 ≤ x) (h1 : x < 1000003) : Fd (fs ++ [x]) := fun y hy => by
  rcases List.mem_append.mp hy with z | z
  · exact h y z
  · rw [List.mem_singleton.mp z]
    exact ⟨h0, h1⟩
theorem cut_to (xs : List V) (n : Nat) : cutV xs none (some (n : Int)) = xs.take n := by
  unfold cutV
  rw [HT.sIx_none, show HT.sIx xs.length xs.length (some (n : Int)) = min n xs.length from HT.sIx_nat xs.length xs.length n]
  rw [List.drop_zero, Nat.sub_zero]
  rcases Nat.le_total n xs.length with h | h
  · rw [Nat.min_eq_left h]
  · rw [Nat.min_eq_right h, List.take_length, List.take_of_length_le h]
theorem cut_from (xs : List V) (n : Nat) : cutV xs (some (n : Int)) none = xs.drop n := by
  unfold cutV
  rw [HT.sIx_none, show HT.sIx xs.length 0 (some (n : Int)) = min n xs.length from HT.sIx_nat xs.length 0 n]
  rcases Nat.le_total n xs.length with h | h
  · rw [Nat.min_eq_left h, List.take_of_length_le (by rw [List.length_drop]; omega)]
  · rw [Nat.min_eq_right h, List.drop_length, List.drop_of_length_le h, List.take_nil]
theorem app_map (fs : List Int) (x : Int) : fs.map V.int ++ [V.int x] = (fs ++ [x]).map V.int := by
  rw [List.map_append]
  rfl
theorem modB (x : Int) {n : Int} (h : 0 < n) : 0 ≤ x % n ∧ x % n < n := ⟨Int.emod_nonneg x (by omega), Int.emod_lt_of_pos x h⟩
def spFeed (K : PySem.W.Frag) : Sp := fun vs H Q _ => ∃ (a : Addr) (ns : List Int) (n : Nat), vs = [.ref a, .int (n : Int)] ∧ SqL K H a (ns.map V.int) ∧ n ≤ 5000 ∧
  ∀ H' p fs, Same H H' → H p = none → H' p = some (.lst (fs.map V.int)) → fs.length = n → Fd fs → Q (.ref p) H'
section
variable {P : Program} {w : World} {K : PySem.W.Frag} {mg : Str → Option Value} {base : Heap}
theorem nxt {D : Ends} {σ : L2.St} {H : Hp} (h : D.nx σ H) : tNext D σ H := h
theorem szl {n : Nat} (h : n ≤ 20000) : n < sizeLine := Nat.lt_of_le_of_lt h (by decide)
theorem ok_feed {f : Addr} {fd : FuncData} (F : Fun K "_law_feed" "_law_feed" s__law_feed f fd) (mr : mg "range" = none) (ml : mg "len" = none) : FnOk P w K mg base CX0 1 f fd ["_law_script", "_law_many"] (spFeed K) := by
  refine F.ok sc__law_feed (fun vs H Q E h => ?_) (fun cdv A outer s H vs Q E hr h => ?_)
  · obtain ⟨_, _, _, rfl, _⟩ := h
    rfl
  · obtain ⟨a, ns, n, rfl, hA, hn, q⟩ := h
    refine ⟨_, pss_cons (ps_set (i := 2) sc__law_feed.nd rfl (.inl rfl) (pe_lst pa_nil))
      (pss_cons (ps_set (i := 3) sc__law_feed.nd rfl (.inl rfl) pe_int)
      (pss_cons (ps_for PassesOwn.never rfl (pi_list (pe_slice sl_list (pv 0) po_none (po_some pe_int))) (pg_name (i := 4) sc__law_feed.nd rfl (.inl rfl))
        (pss_cons (ps_set (i := 3) sc__law_feed.nd rfl (.inl rfl) (pe_op op_mod (pe_op op_add (pe_op op_add (pe_op op_mul (pv 3) pe_int) (pe_op op_mod (pv 4) pe_int)) pe_int) pe_int))
        (pss_cons (ps_set (i := 5) sc__law_feed.nd rfl (.inl rfl) (pe_op op_sub (pv 4) (pe_op op_pow pe_int pe_int)))
        (pss_cons (ps_if (pt_cmpR op_lt (pv 5) pe_int (nomark _))
          (pss_one (ps_expr (pe_bm PySem.F.plainAttrs_list PySem.F.slot_list_append PySem.F.type_list_append mt_append (pv 2) (pa_cons (pe_op op_mod (pv 4) pe_int) pa_nil)))) pss_nil)
        (pss_one (ps_for PassesOwn.never rfl (pi_range1 rfl mr (pa_cons pe_int pa_nil)) (pg_name (i := 6) sc__law_feed.nd rfl (.inl rfl))
          (pss_one (ps_if (pt_cmpR op_gt (pv 5) pe_int (nomark _))
            (pss_cons (ps_expr (pe_bm PySem.F.plainAttrs_list PySem.F.slot_list_append PySem.F.type_list_append mt_append (pv 2) (pa_cons (pe_op op_mod (pv 5) pe_int) pa_nil)))
            (pss_one (ps_set (i := 5) sc__law_feed.nd rfl (.inl rfl) (pe_op op_fdiv (pv 5) pe_int)))) pss_nil))))))))
      (pss_cons (ps_for PassesOwn.never rfl (pi_range1 rfl mr (pa_cons (pe_op op_sub (pv 1) (pe_callB call_len_seq (by rfl) ml PySem.boot_len (pa_cons (pv 2) pa_nil))) pa_nil)) (pg_name (i := 6) sc__law_feed.nd rfl (.inl rfl))
        (pss_cons (ps_set (i := 3) sc__law_feed.nd rfl (.inl rfl) (pe_op op_mod (pe_op op_add (pe_op op_add (pe_op op_add (pe_op op_mul (pe_op op_mul (pv 3) (pv 3)) (pv 3)) (pe_op op_mul pe_int (pv 3))) (pe_op op_mul pe_int (pv 6))) pe_int) pe_int))
        (pss_one (ps_expr (pe_bm PySem.F.plainAttrs_list PySem.F.slot_list_append PySem.F.type_list_append mt_append (pv 2) (pa_cons (pe_op op_mod (pe_op op_fdiv (pv 3) pe_int) pe_int) pa_nil))))))
      (pss_one (ps_ret (pe_slice sl_list (pv 2) po_none (po_some (pv 1)))))))), ?_⟩
    refine ⟨Nat.zero_le _, fun o no => ?_⟩
    have s1 : Same H (upd H o (.lst [])) := same_upd no
    refine ⟨.ref a, rfl, 63, rfl, a, ns.map V.int, rfl, s1.seq hA, fun c nc => ?_⟩
    have nco : c ≠ o := fun e => by
      rw [e, upd_same] at nc
      cases nc
    have s2 := s1.trans (same_upd (o := .lst (cutV (ns.map V.int) none (some 63))) nc)
    have ecut : cutV (ns.map V.int) none (some 63) = (ns.take 63).map V.int := by
      rw [show ((63 : Int)) = ((63 : Nat) : Int) from rfl, cut_to, List.map_take]
    rw [ecut]
    rw [ecut] at s2
    refine ⟨c, rfl, ⟨_, SqL.of upd_same⟩, ?_⟩
    have hlen : ((ns.take 63).map V.int).length ≤ 63 := by
      rw [List.length_map, List.length_take]
      omega
    refine for_list (K := K) (a := c) (xs := (ns.take 63).map V.int) (fun i σ H3 => ∃ (fs : List Int) (salt : Int) (y4 y5 y6 : Option V), σ = [some (.ref a), some (.int n), some (.ref o), some (.int salt), y4, y5, y6] ∧ Same H H3 ∧ H3 c = some (.lst ((ns.take 63).map V.int)) ∧ H3 o = some (.lst (fs.map V.int)) ∧ fs.length ≤ 61 * i ∧ Fd fs ∧ 0 ≤ salt ∧ salt < 2147483647)
      ⟨[], 71, none, none, none, rfl, s2, upd_same, ?_, Nat.zero_le _, Fd.nil, by decide, by decide⟩ (fun i σ H3 _ p => ?_) (fun i x σ H3 hx p => ?_) (fun σ H3 p => ?_)
    · rw [upd_ne nco.symm, upd_same]
      rfl
    · obtain ⟨_, _, _, _, _, _, _, e, _⟩ := p
      exact SqL.of e
    · obtain ⟨fs, salt, y4, y5, y6, rfl, sm, ec, eo, hfl, hfd, t0, t1⟩ := p
      have hi : i < ((ns.take 63).map V.int).length := (List.getElem?_eq_some_iff.mp hx).1
      obtain ⟨cell, rfl⟩ : ∃ cell : Int, x = .int cell := by
        rw [List.getElem?_map] at hx
        cases e : (ns.take 63)[i]? with
        | none => rw [e] at hx; cases hx
        | some z => rw [e] at hx; exact ⟨z, (Option.some.inj hx).symm⟩
      have m1 := modB (salt * 48271 + cell % 2147483629 + 7) (n := 2147483647) (by decide)
      refine ⟨_, rfl, _, _, rfl, rfl, .inl ⟨by omega, by omega⟩, _, rfl, _, _, rfl, rfl, by show (0 : Int) < 2147483629; decide, _, _, rfl, rfl, _, _, rfl, rfl, _, _, rfl, rfl, by show (0 : Int) < 2147483647; decide, ?_⟩
      refine ⟨_, rfl, _, _, rfl, rfl, ⟨by decide, by decide, by decide⟩, _, _, rfl, rfl, ?_⟩
      -- the inner loop, from any list so far
      have inner : ∀ (salt2 : Int), 0 ≤ salt2 ∧ salt2 < 2147483647 → ∀ (gs : List Int) (H4 : Hp), Same H H4 → H4 c = some (.lst ((ns.take 63).map V.int)) → H4 o = some (.lst (gs.map V.int)) → gs.length ≤ 61 * i + 1 → Fd gs → ∀ (r0 : Int) (D : Ends),
          (∀ σ' H', (∃ (fs : List Int) (salt : Int) (y4 y5 y6 : Option V), σ' = [some (.ref a), some (.int n), some (.ref o), some (.int salt), y4, y5, y6] ∧ Same H H' ∧ H' c = some (.lst ((ns.take 63).map V.int)) ∧ H' o = some (.lst (fs.map V.int)) ∧ fs.length ≤ 61 * (i + 1) ∧ Fd fs ∧ 0 ≤ salt ∧ salt < 2147483647) → D.nx σ' H') →
          tFor (iRng1 (tCons (tC (.int 60)) tNil)) (gName 6) (tIfS (tTest (tOp (rI0 fun i j => .bl (decide (j < i))) (tVar 5) (tC (.int 0)))) (tSeq (tDrop (tBM K "list" rAppend (tVar 2) (tCons (tOp (rI (fun _ j => 0 < j) fun i j => .int (i % j)) (tVar 5) (tC (.int 1009))) tNil))) (tAsg (tOp (rI CDiv fun i j => .int (i / j)) (tVar 5) (tC (.int 1009))) (gName 5))) tNext) D
            [some (.ref a), some (.int n), some (.ref o), some (.int salt2), some (.int cell), some (.int r0), y6] H4 := by
        intro salt2 m1 gs H4 sm4 ec4 eo4 gl gd r0 D hD
        refine ⟨60, rfl, by decide, by decide, ?_⟩
        refine for_range (lo := 0) (n := 60) (fun j σ H5 => ∃ (gs : List Int) (r : Int) (y6 : Option V), σ = [some (.ref a), some (.int n), some (.ref o), some (.int salt2), some (.int cell), some (.int r), y6] ∧ Same H H5 ∧ H5 c = some (.lst ((ns.take 63).map V.int)) ∧ H5 o = some (.lst (gs.map V.int)) ∧ gs.length ≤ 61 * i + 1 + j ∧ Fd gs)
          ⟨gs, r0, y6, rfl, sm4, ec4, eo4, gl, gd⟩ (fun j σ H5 hj p => ?_) (fun σ H5 p => ?_)
        · obtain ⟨gs, r, z6, rfl, sm5, ec5, eo5, gl5, gd5⟩ := p
          refine ⟨_, rfl, _, _, rfl, rfl, _, rfl, ite2 (fun e => ?_) (fun e => ?_)⟩
          · have m2 := modB r (n := 1009) (by decide)
            refine ⟨.ref o, rfl, .inl ⟨rfl, _, SqL.of eo5⟩, _, rfl, _, _, rfl, rfl, by show (0 : Int) < 1009; decide, o, _, _, rfl, rfl, eo5, ?_, ?_⟩
            · rw [List.length_map]
              exact szl (by omega)
            · refine ⟨_, rfl, _, _, rfl, rfl, ⟨by decide, by decide⟩, gs ++ [r % 1009], _, _, rfl, ?_, ?_, ?_, ?_, ?_⟩
              · intro b z e
                rw [upd_ne (ne_of_none e no)]
                exact sm5 _ _ e
              · rw [upd_ne nco]
                exact ec5
              · rw [upd_same, app_map]
              · rw [List.length_append]
                show gs.length + 1 ≤ _
                omega
              · exact gd5.app m2.1 (by omega)
          · exact ⟨gs, r, _, rfl, sm5, ec5, eo5, by omega, gd5⟩
        · obtain ⟨gs, r, z6, rfl, sm5, ec5, eo5, gl5, gd5⟩ := p
          exact hD _ _ ⟨gs, salt2, _, _, _, rfl, sm5, ec5, eo5, by omega, gd5, m1.1, m1.2⟩
      refine ⟨_, rfl, _, _, rfl, rfl, _, rfl, ite2 (fun e => ?_) (fun e => ?_)⟩
      · have m3 := modB cell (n := 1000003) (by decide)
        refine ⟨.ref o, rfl, .inl ⟨rfl, _, SqL.of eo⟩, _, rfl, _, _, rfl, rfl, by show (0 : Int) < 1000003; decide, o, _, _, rfl, rfl, eo, ?_, ?_⟩
        · rw [List.length_map]
          exact szl (by omega)
        · refine inner _ m1 (fs ++ [cell % 1000003]) _ ?_ ?_ ?_ ?_ (hfd.app m3.1 m3.2) _ _ ?_
          · intro b z e
            rw [upd_ne (ne_of_none e no)]
            exact sm _ _ e
          · rw [upd_ne nco]
            exact ec
          · rw [upd_same, app_map]
          · rw [List.length_append]
            show fs.length + 1 ≤ _
            omega
          · exact fun σ' H' p => p
      · dsimp only [tNext]
        refine inner _ m1 fs _ sm ec eo (by omega) hfd _ _ ?_
        exact fun σ' H' p => p
    · obtain ⟨fs, salt, y4, y5, y6, rfl, sm, ec, eo, hfl, hfd, t0, t1⟩ := p
      have hl0 : fs.length ≤ 3843 := by omega
      refine ⟨_, rfl, _, rfl, o, _, rfl, .inl (SqL.of eo), _, _, rfl, rfl, _, rfl, ?_, ?_, ?_⟩
      · rw [List.length_map]
        omega
      · rw [List.length_map]
        omega
      · refine for_range (lo := 0) (n := ((n : Int) - ((fs.map V.int).length : Int)).toNat) (fun j σ H5 => ∃ (gs : List Int) (salt : Int) (y6 : Option V), σ = [some (.ref a), some (.int n), some (.ref o), some (.int salt), y4, y5, y6] ∧ Same H H5 ∧ H5 o = some (.lst (gs.map V.int)) ∧ gs.length = fs.length + j ∧ Fd gs ∧ 0 ≤ salt ∧ salt < 2147483647)
          ⟨fs, salt, y6, rfl, sm, eo, rfl, hfd, t0, t1⟩ (fun j σ H5 hj p => ?_) (fun σ H5 p => ?_)
        · obtain ⟨gs, salt, z6, rfl, sm5, eo5, gl5, gd5, t0, t1⟩ := p
          rw [List.length_map] at hj
          have b1 : 0 ≤ salt * salt := Int.mul_nonneg t0 t0
          have b2 : salt * salt ≤ 2147483647 * 2147483647 := Int.mul_le_mul (by omega) (by omega) t0 (by decide)
          refine ⟨_, rfl, _, rfl, _, _, rfl, rfl, .inl ⟨by omega, by omega⟩, _, rfl, _, _, rfl, rfl, .inl ⟨by omega, by omega⟩, ?_⟩
          refine ⟨_, rfl, _, _, rfl, rfl, .inl ⟨by decide, by decide⟩, _, _, rfl, rfl, _, rfl, _, _, rfl, rfl, .inl ⟨by decide, by decide⟩, _, _, rfl, rfl, _, _, rfl, rfl, _, _, rfl, rfl, by show (0 : Int) < 2147483629; decide, ?_⟩
          generalize hsalt : (salt * salt * salt + 69621 * salt + 17 * (0 + (j : Int)) + 3) = big
          have m1 := modB big (n := 2147483629) (by decide)
          have m2 := modB (big % 2147483629 / 1013) (n := 1009) (by decide)
          refine ⟨.ref o, rfl, .inl ⟨rfl, _, SqL.of eo5⟩, _, rfl, _, _, rfl, rfl, ⟨by decide, by decide⟩, _, _, rfl, rfl, by show (0 : Int) < 1009; decide, o, _, _, rfl, rfl, eo5, ?_, ?_⟩
          · rw [List.length_map]
            exact szl (by omega)
          · refine ⟨gs ++ [big % 2147483629 / 1013 % 1009], _, _, rfl, ?_, ?_, ?_, gd5.app m2.1 (by omega), m1.1, by omega⟩
            · intro b z e
              rw [upd_ne (ne_of_none e no)]
              exact sm5 _ _ e
            · rw [upd_same, app_map]
            · rw [List.length_append, gl5]
              show fs.length + j + 1 = _
              omega
        · obtain ⟨gs, salt, z6, rfl, sm5, eo5, gl5, gd5, t0, t1⟩ := p
          rw [List.length_map] at gl5
          refine ⟨.ref o, rfl, _, rfl, _, rfl, o, _, rfl, SqL.of eo5, fun p np => ?_⟩
          refine q _ p (gs.take n) (sm5.trans (same_upd np)) (sm5.free np) ?_ ?_ ?_
          · rw [upd_same, cut_to, List.map_take]
          · rw [List.length_take]
            omega
          · exact fun x hx => gd5 x (List.mem_of_mem_take hx)
end
end DY
namespace DY
open PySem PySem.Spec PyProof.Rows L2
abbrev s__law_yard_is : Stmt := topS 81
abbrev N__law_yard_is : List Str := ["_law_yard", "_law_m", "_law_lists", "_law_word"]
theorem sc__law_yard_is : FnScope N__law_yard_is ["_law_yard", "_law_m"] (defScope s__law_yard_is) := ⟨rfl, rfl, rfl, by decide +kernel, rfl, by decide +kernel, by decide +kernel⟩
structure L2T (w : World) (K : PySem.W.Frag) (mg : Str → Option Value) extends L1 K mg where
  tx : T4 w K mg
  cl : Cls K tx.CY
  d_Yard_trestles : MthF K tx.CY "trestles" "Yard.trestles" s_Yard_trestles ["self"]
  d_Yard_boards : MthF K tx.CY "boards" "Yard.boards" s_Yard_boards ["self"]
  d_Yard_sacks : MthF K tx.CY "sacks" "Yard.sacks" s_Yard_sacks ["self"]
  d_Yard_cords : MthF K tx.CY "cords" "Yard.cords" s_Yard_cords ["self"]
  eqT : d_Yard_trestles = tx.d_Yard_trestles
  eqB : d_Yard_boards = tx.d_Yard_boards
  eqS : d_Yard_sacks = tx.d_Yard_sacks
  eqC : d_Yard_cords = tx.d_Yard_cords
  sT : SameTxt mg
  d__law_same : DefF K mg "_law_same" s__law_same ["_law_found", "_law_due"]
  d__law_yard_is : DefF K mg "_law_yard_is" s__law_yard_is ["_law_yard", "_law_m"]
def isSc : V → Bool
  | .non => true
  | .bl _ => true
  | .int _ => true
  | .str _ => true
  | _ => false
theorem Eqv.sc {H : Hp} {x : V} (h : isSc x = true) {n : Nat} : Eqv H n x x := by
  cases x with
  | non => exact .non
  | bl b => exact .bl b
  | int i => exact .int i
  | str z => exact .str z
  | _ => cases h
theorem Eqv.tups {H : Hp} {a b : Addr} {xs : List V} (ha : H a = some (.tup xs)) (hb : H b = some (.tup xs)) (hl : xs.length ≤ 1000) (hs : xs.all isSc = true) {n : Nat} : Eqv H (n + 1) (.ref a) (.ref b) :=
  .tup ha hb rfl hl fun i x y hx hy => by
    have e : x = y := Option.some.inj (hx.symm.trans hy)
    subst e
    exact .sc (List.all_eq_true.mp hs x (List.mem_of_getElem? hx))
theorem told_eqv {α : Type} {H : Hp} {f : Str → α → List V} {T : List (Str × α)} {us vs : List V} {p q : Addr} (h1 : Told H f T us) (h2 : Told H f T vs) (hf : ∀ n x, (f n x).length ≤ 1000 ∧ (f n x).all isSc = true) (hT : T.length ≤ 1000) (hp : H p = some (.lst us)) (hq : H q = some (.lst vs)) : Eqv H 2 (.ref p) (.ref q) := by
  obtain ⟨ys, ⟨y1, y2⟩, p1⟩ := h1
  obtain ⟨zs, ⟨z1, z2⟩, p2⟩ := h2
  have e := sorted_one y1 z1 y2 z2
  subst e
  have l1 : ys.length = us.length := Paired.length p1
  have l2 : ys.length = vs.length := Paired.length p2
  have l3 : ys.length = T.length := by rw [y1.length_eq, List.length_map]
  refine .lst hp hq (by omega) (by omega) fun i x y hx hy => ?_
  obtain ⟨n, hn, a, v, rfl, hv, ha⟩ := pget p1 hx
  obtain ⟨n', hn', b, v', rfl, hv', hb⟩ := pget p2 hy
  have en : n = n' := Option.some.inj (hn.symm.trans hn')
  subst en
  have ev : v = v' := Option.some.inj (hv.symm.trans hv')
  subst ev
  exact .tups ha hb (hf n v).1 (hf n v).2
section
variable {P : Program} {w : World} {K : PySem.W.Frag} {mg : Str → Option Value} {base : Heap}
def wD (D : Addr) (H : Hp) : Hp := fun a => if a = D then none else H a
theorem wD_get {D a : Addr} {H : Hp} (h : a ≠ D) : wD D H a = H a := if_neg h
theorem wD_le {D : Addr} {H : Hp} : Same (wD D H) H := fun a o h => by
  by_cases e : a = D
  · rw [wD, if_pos e] at h; cases h
  · rwa [wD_get e] at h
theorem wD_mono {D : Addr} {H H' : Hp} (s : Same H H') : Same (wD D H) (wD D H') := fun a o h => by
  by_cases e : a = D
  · rw [wD, if_pos e] at h; cases h
  · rw [wD_get e] at h ⊢; exact s _ _ h
theorem wD_new {D : Addr} {H H' : Hp} (n : H D = none) (s : Same H H') : Same H (wD D H') := fun a o h => by
  by_cases e : a = D
  · rw [e, n] at h; cases h
  · rw [wD_get e]; exact s _ _ h
theorem wD_ts {D : Addr} {H : Hp} {us : List V} (h : H D = some (.lst us)) : TS H (wD D H) := fun a xs ha => by
  by_cases e : a = D
  · rw [e, h] at ha; cases ha
  · rw [wD_get e]; exact ha
theorem wD_upd {D : Addr} {H : Hp} {o : HO} : wD D (upd H D o) = wD D H := by
  funext a
  by_cases e : a = D
  · rw [wD, wD, if_pos e, if_pos e]
  · rw [wD_get e, wD_get e, upd_ne e]
def YInv (H6 : Hp) (D : Addr) (ps : List V) (i : Nat) (H' : Hp) : Prop := Same H6 H' ∧ ∃ us : List V, H' D = some (.lst us) ∧ us.length = i ∧ ∀ (j : Nat) (u v : V), ps[j]? = some u → us[j]? = some v → Eqv (wD D H') 2 u v
theorem yi_next {H6 H' H2 : Hp} {D pn : Addr} {ps us : List V} {u : V} {i : Nat} (nD : H6 D = none) (sm : Same H6 H') (eD : H' D = some (.lst us)) (hus : us.length = i) (hi : i < 4)
    (he : ∀ (j : Nat) (u v : V), ps[j]? = some u → us[j]? = some v → Eqv (wD D H') 2 u v) (s : Same H' H2) (hu : ps[i]? = some u) (e : Eqv (wD D H2) 2 u (.ref pn)) :
    ∃ acc, H2 D = some (.lst acc) ∧ acc.length < sizeLine ∧ YInv H6 D ps (i + 1) (upd H2 D (.lst (acc ++ [.ref pn]))) := by
  refine ⟨us, s _ _ eD, Nat.lt_trans (by omega : us.length < 4) (by decide), fun a o h => ?_, us ++ [.ref pn], upd_same, by rw [List.length_append, hus]; rfl, fun j x y hx hy => ?_⟩
  · have e : a ≠ D := fun e => by rw [e, nD] at h; cases h
    rw [upd_ne e]
    exact s _ _ (sm _ _ h)
  · rw [wD_upd]
    by_cases hj : j < us.length
    · rw [List.getElem?_append_left hj] at hy
      exact (he j x y hx hy).keep (wD_mono s)
    · rw [List.getElem?_append_right (by omega)] at hy
      have e0 : j - us.length = 0 := by
        rcases Nat.eq_zero_or_pos (j - us.length) with z | z
        · exact z
        · rw [List.getElem?_eq_none (by simpa using Nat.succ_le_of_lt z)] at hy; cases hy
      rw [e0] at hy
      cases hy
      have ej : j = i := by omega
      rw [ej] at hx
      rw [Option.some.inj (hx.symm.trans hu)]
      exact e
theorem ne_new {H : Hp} {a D : Addr} {o : HO} (e : H D = some o) (n : H a = none) : a ≠ D := fun h => by rw [h, e] at n; cases n
def orSp (a b : Sp) : Sp := fun vs H Q E => a vs H Q E ∨ b vs H Q E
theorem fnOr {CX : CXT} {k : Nat} {f : Addr} {fd : FuncData} {ps : List Str} {a b : Sp} (h1 : FnOk P w K mg base CX k f fd ps a) (h2 : FnOk P w K mg base CX k f fd ps b) : FnOk P w K mg base CX k f fd ps (orSp a b) :=
  ⟨fun vs H Q E h => h.elim (h1.len vs H Q E) (h2.len vs H Q E), fun A outer s H args us vs Q E hr e0 hb r h => h.elim (h1.run A outer s H args us vs Q E hr e0 hb r) (h2.run A outer s H args us vs Q E hr e0 hb r)⟩
def spYI (C : Addr) : Sp := fun vs H Q _ => ∃ (A : YA) (M : MA) (Y : Yd), vs = [.ref A.y, .ref M.m] ∧ IsY C A H Y ∧ IsM M H Y ∧ ∀ H', Same H H' → Q (.bl true) H'
theorem ok_yard_is (T : L2T w K mg) : FnOk P w K mg base CX0 5 T.d__law_yard_is.a T.d__law_yard_is.d ["_law_yard", "_law_m"] (spYI T.tx.CY) := by
  have G_Yard_trestles : FnOk P w K mg base CX0 2 T.d_Yard_trestles.a T.d_Yard_trestles.d ["self"] (spTell T.tx.CY trP (·.tr)) := by rw [T.eqT]; exact ok_trestles T.tx
  have G_Yard_boards : FnOk P w K mg base CX0 2 T.d_Yard_boards.a T.d_Yard_boards.d ["self"] (spTell T.tx.CY boP (·.bo)) := by rw [T.eqB]; exact ok_boards T.tx
  have G_Yard_sacks : FnOk P w K mg base CX0 2 T.d_Yard_sacks.a T.d_Yard_sacks.d ["self"] (spTell T.tx.CY saP (·.sa)) := by rw [T.eqS]; exact ok_sacks T.tx
  have G_Yard_cords : FnOk P w K mg base CX0 2 T.d_Yard_cords.a T.d_Yard_cords.d ["self"] (spTell T.tx.CY coP (·.co)) := by rw [T.eqC]; exact ok_cords T.tx
  have G__law_same : FnOk P w K mg base CX0 4 T.d__law_same.a T.d__law_same.d ["_law_found", "_law_due"] (spSame 3) := ok_same T.d__law_same.F T.d__law_same.b T.d__law_same.g T.sT 3
  have G__law_rows : FnOk P w K mg base CX0 1 T.d__law_rows.a T.d__law_rows.d ["_law_kept"] (orSp (spLR trL) (orSp (spLR boL) (orSp (spLR saL) (spLR coL)))) := fnOr (ok_lrows trL T.toL1) (fnOr (ok_lrows boL T.toL1) (fnOr (ok_lrows saL T.toL1) (ok_lrows coL T.toL1)))
  refine T.d__law_yard_is.F.ok sc__law_yard_is (fun vs H Q E h => ?_) (fun cdv A outer s H vs Q E hr h => ?_)
  · obtain ⟨_, _, _, rfl, _⟩ := h
    rfl
  · obtain ⟨B, M, Y, rfl, hy, hm, q⟩ := h
    have hu := hu_of hr
    have le := hy.le
    refine ⟨_, pss_cons (ps_set (i := 2) sc__law_yard_is.nd rfl (Or.inl rfl) (pe_lst (pa_cons (pe_meth0 (pv 0) T.cl T.d_Yard_trestles.m G_Yard_trestles (hr.mono (by decide)) T.d_Yard_trestles.b .nil pass0) (pa_cons (pe_meth0 (pv 0) T.cl T.d_Yard_boards.m G_Yard_boards (hr.mono (by decide)) T.d_Yard_boards.b .nil pass0) (pa_cons (pe_meth0 (pv 0) T.cl T.d_Yard_sacks.m G_Yard_sacks (hr.mono (by decide)) T.d_Yard_sacks.b .nil pass0) (pa_cons (pe_meth0 (pv 0) T.cl T.d_Yard_cords.m G_Yard_cords (hr.mono (by decide)) T.d_Yard_cords.b .nil pass0) pa_nil))))))
      (pss_one (ps_ret (pe_call G__law_same (hr.mono (by decide)) (by rfl) T.d__law_same.g T.d__law_same.F.kp T.d__law_same.b .nil pass0 (pa_cons (pv 2) (pa_cons (pe_lc (own := [("_law_word", 3)]) (g := (gName 3)) (tt := tYes) (by rfl) sc__law_yard_is.nd (pi_tup (pe_tup (pa_cons pe_str (pa_cons pe_str (pa_cons pe_str (pa_cons pe_str pa_nil)))))) (blkOk_by (N := N__law_yard_is) (sc := defScope s__law_yard_is) (by decide +kernel)) (fun _ _ _ _ _ => (pg_name (i := 3) sc__law_yard_is.nd rfl (Or.inl rfl))) (fun _ _ _ _ _ => pts_nil) (fun _ _ _ _ _ => (pe_call G__law_rows (hr.mono (by decide)) (by rfl) T.d__law_rows.g T.d__law_rows.F.kp T.d__law_rows.b .nil pass0 (pa_cons (pe_dget hu (pv 1) (pv 3) (fun _ _ => rfl)) pa_nil)))) pa_nil))))), ?_⟩
    obtain ⟨dx, eo⟩ := hy.ob
    refine ⟨_, rfl, B.y, dx, _, rfl, eo, rfl, B, Y, rfl, hy, fun H1 p1 u1 s1 n1 ep1 t1 => ?_⟩
    refine ⟨_, rfl, B.y, dx, _, rfl, s1 _ _ eo, rfl, B, Y, rfl, hy.keep s1, fun H2 p2 u2 s2 n2 ep2 t2 => ?_⟩
    refine ⟨_, rfl, B.y, dx, _, rfl, s2 _ _ (s1 _ _ eo), rfl, B, Y, rfl, (hy.keep s1).keep s2, fun H3 p3 u3 s3 n3 ep3 t3 => ?_⟩
    refine ⟨_, rfl, B.y, dx, _, rfl, s3 _ _ (s2 _ _ (s1 _ _ eo)), rfl, B, Y, rfl, ((hy.keep s1).keep s2).keep s3, fun H4 p4 u4 s4 n4 ep4 t4 => ?_⟩
    refine ⟨by show 4 ≤ sizeLine; decide, fun ls nls => ?_⟩
    have s5 : Same H4 (upd H4 ls (.lst [.ref p1, .ref p2, .ref p3, .ref p4])) := same_upd nls
    have els : (upd H4 ls (.lst [.ref p1, .ref p2, .ref p3, .ref p4])) ls = some (.lst [.ref p1, .ref p2, .ref p3, .ref p4]) := upd_same
    generalize upd H4 ls (.lst [.ref p1, .ref p2, .ref p3, .ref p4]) = H5 at s5 els ⊢
    have a45 : Same H4 H5 := s5
    have a35 : Same H3 H5 := s4.trans s5
    have a25 : Same H2 H5 := s3.trans a35
    have a15 : Same H1 H5 := s2.trans a25
    have a05 : Same H H5 := s1.trans a15
    refine ⟨_, rfl, by show 4 ≤ sizeLine; decide, fun tp ntp => ?_⟩
    have s6 : Same H5 (upd H5 tp (.tup [.str "trestles", .str "boards", .str "sacks", .str "cords"])) := same_upd ntp
    have etp : (upd H5 tp (.tup [.str "trestles", .str "boards", .str "sacks", .str "cords"])) tp = some (.tup [.str "trestles", .str "boards", .str "sacks", .str "cords"]) := upd_same
    generalize upd H5 tp (.tup [.str "trestles", .str "boards", .str "sacks", .str "cords"]) = H6 at s6 etp ⊢
    refine ⟨tp, rfl, ⟨_, SqT.of etp⟩, fun D nD => ?_⟩
    have fT : ∀ n x, (trP n x).length ≤ 1000 ∧ (trP n x).all isSc = true := fun n x => ⟨by show 4 ≤ 1000; decide, rfl⟩
    have fB : ∀ n x, (boP n x).length ≤ 1000 ∧ (boP n x).all isSc = true := fun n x => ⟨by show 5 ≤ 1000; decide, rfl⟩
    have fS : ∀ n x, (saP n x).length ≤ 1000 ∧ (saP n x).all isSc = true := fun n x => ⟨by show 4 ≤ 1000; decide, rfl⟩
    have fC : ∀ n x, (coP n x).length ≤ 1000 ∧ (coP n x).all isSc = true := fun n x => ⟨by show 4 ≤ 1000; decide, rfl⟩
    have a06 := a05.trans s6
    refine lc_tup (K := K) (a := tp) (xs := [.str "trestles", .str "boards", .str "sacks", .str "cords"]) (YInv H6 D [V.ref p1, V.ref p2, V.ref p3, V.ref p4])
      ⟨same_upd nD, [], upd_same, rfl, fun j u v _ h => by cases h⟩ (fun i H' _ p => SqT.of (p.1 _ _ etp)) (fun i x H' hx p => ?_) (fun H' p => ?_)
    · obtain ⟨sm', us, eD, hus, he⟩ := p
      have a0 := a06.trans sm'
      have hm' := hm.keep a0
      obtain ⟨k1, e1, r1⟩ := hm'.tr
      obtain ⟨k2, e2, r2⟩ := hm'.bo
      obtain ⟨k3, e3, r3⟩ := hm'.sa
      obtain ⟨k4, e4, r4⟩ := hm'.co
      refine ⟨rfl, yes (iteT ?_)⟩
      match i, hx with
      | 0, hx =>
        cases hx
        refine ⟨_, rfl, _, rfl, M.m, _, rfl, dget hm'.ob (vt M), .inl ⟨M.t, k1, Y.tr, rfl, e1, r1, by omega, fun n x _ => ⟨by show 3 ≤ 10; decide, by simp [trL, trV]⟩, fun H7 pn un s7 nn en tn => ?_⟩⟩
        exact yi_next nD sm' eD hus (by decide) he s7 rfl (told_eqv ((t1.keep (.of a15)).keep (.of (s6.trans (wD_new nD (sm'.trans s7))))) (tn.keep (wD_ts (s7 _ _ eD))) fT (by show Y.tr.length ≤ 1000; omega) (wD_new nD (sm'.trans s7) _ _ (s6 _ _ (a15 _ _ ep1))) ((wD_get (ne_new eD nn)).trans en))
      | 1, hx =>
        cases hx
        refine ⟨_, rfl, _, rfl, M.m, _, rfl, dget hm'.ob (vb M), .inr (.inl ⟨M.b, k2, Y.bo, rfl, e2, r2, by omega, fun n x _ => ⟨by show 4 ≤ 10; decide, by simp [boL, boV]⟩, fun H7 pn un s7 nn en tn => ?_⟩)⟩
        exact yi_next nD sm' eD hus (by decide) he s7 rfl (told_eqv ((t2.keep (.of a25)).keep (.of (s6.trans (wD_new nD (sm'.trans s7))))) (tn.keep (wD_ts (s7 _ _ eD))) fB (by show Y.bo.length ≤ 1000; omega) (wD_new nD (sm'.trans s7) _ _ (s6 _ _ (a25 _ _ ep2))) ((wD_get (ne_new eD nn)).trans en))
      | 2, hx =>
        cases hx
        refine ⟨_, rfl, _, rfl, M.m, _, rfl, dget hm'.ob (vs M), .inr (.inr (.inl ⟨M.s, k3, Y.sa, rfl, e3, r3, by omega, fun n x _ => ⟨by show 3 ≤ 10; decide, by simp [saL, saV]⟩, fun H7 pn un s7 nn en tn => ?_⟩))⟩
        exact yi_next nD sm' eD hus (by decide) he s7 rfl (told_eqv ((t3.keep (.of a35)).keep (.of (s6.trans (wD_new nD (sm'.trans s7))))) (tn.keep (wD_ts (s7 _ _ eD))) fS (by show Y.sa.length ≤ 1000; omega) (wD_new nD (sm'.trans s7) _ _ (s6 _ _ (a35 _ _ ep3))) ((wD_get (ne_new eD nn)).trans en))
      | 3, hx =>
        cases hx
        refine ⟨_, rfl, _, rfl, M.m, _, rfl, dget hm'.ob (vc M), .inr (.inr (.inr ⟨M.c, k4, Y.co, rfl, e4, r4, by omega, fun n x _ => ⟨by show 3 ≤ 10; decide, by simp [coL, coV]⟩, fun H7 pn un s7 nn en tn => ?_⟩))⟩
        exact yi_next nD sm' eD hus (by decide) he s7 rfl (told_eqv ((t4.keep (.of a45)).keep (.of (s6.trans (wD_new nD (sm'.trans s7))))) (tn.keep (wD_ts (s7 _ _ eD))) fC (by show Y.co.length ≤ 1000; omega) (wD_new nD (sm'.trans s7) _ _ (s6 _ _ (a45 _ _ ep4))) ((wD_get (ne_new eD nn)).trans en))
      | _ + 4, hx => cases hx
    · obtain ⟨sm', us, eD, hus, he⟩ := p
      refine ⟨_, _, rfl, .lst (sm' _ _ (s6 _ _ els)) eD (by rw [hus]; rfl) (by show 4 ≤ 1000; decide) (fun j x y hx hy => (he j x y hx hy).keep wD_le), fun H7 s7 => q _ (a06.trans (sm'.trans s7))⟩
end
end DY
namespace DY
open PySem PySem.Spec PyProof.Rows L2
abbrev s__law_kin : Stmt := topS 83
abbrev N__law_kin : List Str := ["_law_e", "_law_marks", "_law_words", "_law_word", "_law_mark"]
theorem sc__law_kin : FnScope N__law_kin ["_law_e"] (defScope s__law_kin) := ⟨rfl, rfl, rfl, by decide +kernel, rfl, by decide +kernel, by decide +kernel⟩
structure LKin {w : World} {K : PySem.W.Frag} {mg : Str → Option Value} (T : T4 w K mg) where
  n_zip : mg "zip" = none
  n_ValueError : mg "ValueError" = none
  exc : ∀ e, ExcC K (ec T.toT1 e)
  kit : ∀ e c, PySem.W.kitOne K (.ref (ec T.toT1 e)) (.ref (ec T.toT1 c)) = some (decide (e = c))
  kitV : ∀ e, PySem.W.kitOne K (.ref (ec T.toT1 e)) (.type "ValueError") = some true
  d__law_kin : DefF K mg "_law_kin" s__law_kin ["_law_e"]
def spKin (ec : Er → Addr) : Addr → Addr → Sp := fun a D vs H Q _ => ∃ e, D = ec e ∧ vs = [.ref a] ∧ ∀ H', Same H H' → Q (.str (erS e)) H'
def kW : List Str := ["BadName", "Taken", "BadCourse", "BadPlace", "BadWeight", "Full", "Crowded", "NoThing", "InUse", "NoSack", "NoCord", "BadCord", "BadDeed", "odd"]
def kM (e : Er) : List Bool := [decide (e = .BadName), decide (e = .Taken), decide (e = .BadCourse), decide (e = .BadPlace), decide (e = .BadWeight), decide (e = .Full), decide (e = .Crowded), decide (e = .NoThing), decide (e = .InUse), decide (e = .NoSack), decide (e = .NoCord), decide (e = .BadCord), decide (e = .BadDeed), false]
def kP (e : Er) (i : Nat) : List V := (((kW.zip (kM e)).take i).filter (·.2)).map fun q => V.str q.1
theorem kP_succ {e : Er} {i : Nat} {z : Str} {b : Bool} (h1 : kW[i]? = some z) (h2 : (kM e)[i]? = some b) : kP e (i + 1) = kP e i ++ (if b = true then [V.str z] else []) := by
  have h : (kW.zip (kM e))[i]? = some (z, b) := List.getElem?_zip_eq_some.mpr ⟨h1, h2⟩
  unfold kP
  rw [List.take_succ, h, List.filter_append, List.map_append]
  cases b <;> rfl
theorem kP_len (e : Er) (i : Nat) : (kP e i).length < sizeLine := by
  have h : (kP e i).length ≤ 14 := by
    unfold kP
    rw [List.length_map]
    refine Nat.le_trans (List.length_filter_le _ _) ?_
    rw [List.length_take]
    refine Nat.le_trans (Nat.min_le_right _ _) ?_
    rw [List.length_zip]
    exact Nat.min_le_left _ _
  exact small1000 (by omega)
theorem kP_end (e : Er) : kP e 14 = [erS e].map V.str := by cases e <;> rfl
theorem erS_len (e : Er) : (erS e).length ≤ 100 := by cases e <;> decide
theorem join_one (a z : Str) : Txt.join a [z] = z := by
  first | rfl | simp [Txt.join]
section
variable {P : Program} {w : World} {K : PySem.W.Frag} {mg : Str → Option Value} {base : Heap}
theorem ok_kin (T : T4 w K mg) (LK : LKin T) : DH.FnE P w K mg base 1 LK.d__law_kin.a LK.d__law_kin.d ["_law_e"] (spKin (ec T.toT1)) := by
  refine DH.fnE_of LK.d__law_kin.F sc__law_kin (fun a D vs H Q E h => ?_) (fun cdv A outer s H vs Q p D hot hz hr h => ?_)
  · obtain ⟨_, _, rfl, _⟩ := h
    rfl
  · obtain ⟨e, rfl, rfl, q⟩ := h
    have xc : ExcC K (ec T.toT1 e) := LK.exc e
    have hf : ∃ vs, p.2.data = .fields vs := by
      obtain ⟨_, vs, hv, _⟩ := hot
      exact ⟨vs, hv⟩
    have hc : L2H.HotC (L2H.cxH CX0 P w K mg base N__law_kin "_law_kin" (defScope s__law_kin) LK.d__law_kin.a cdv A outer s H E0 p) := ⟨p, hot, List.mem_cons_self⟩
    refine ⟨_, pss_cons (ps_set (i := 1) sc__law_kin.nd rfl (Or.inl rfl) (pe_lst (pa_cons (pe_callB (DH.call_isP (p := p) List.mem_cons_self xc hz hf) (by rfl) T.n_isinstance (by decide +kernel) (pa_cons (pv 0) (pa_cons (pe_glob (v := .ref T.x_BadName.a) rfl T.x_BadName.g rfl) pa_nil))) (pa_cons (pe_callB (DH.call_isP (p := p) List.mem_cons_self xc hz hf) (by rfl) T.n_isinstance (by decide +kernel) (pa_cons (pv 0) (pa_cons (pe_glob (v := .ref T.x_Taken.a) rfl T.x_Taken.g rfl) pa_nil))) (pa_cons (pe_callB (DH.call_isP (p := p) List.mem_cons_self xc hz hf) (by rfl) T.n_isinstance (by decide +kernel) (pa_cons (pv 0) (pa_cons (pe_glob (v := .ref T.x_BadCourse.a) rfl T.x_BadCourse.g rfl) pa_nil))) (pa_cons (pe_callB (DH.call_isP (p := p) List.mem_cons_self xc hz hf) (by rfl) T.n_isinstance (by decide +kernel) (pa_cons (pv 0) (pa_cons (pe_glob (v := .ref T.x_BadPlace.a) rfl T.x_BadPlace.g rfl) pa_nil))) pa_nil))))))
      (pss_cons (ps_set (i := 1) sc__law_kin.nd rfl (Or.inl rfl) (pe_op op_cat (pv 1) (pe_lst (pa_cons (pe_callB (DH.call_isP (p := p) List.mem_cons_self xc hz hf) (by rfl) T.n_isinstance (by decide +kernel) (pa_cons (pv 0) (pa_cons (pe_glob (v := .ref T.x_BadWeight.a) rfl T.x_BadWeight.g rfl) pa_nil))) (pa_cons (pe_callB (DH.call_isP (p := p) List.mem_cons_self xc hz hf) (by rfl) T.n_isinstance (by decide +kernel) (pa_cons (pv 0) (pa_cons (pe_glob (v := .ref T.x_Full.a) rfl T.x_Full.g rfl) pa_nil))) (pa_cons (pe_callB (DH.call_isP (p := p) List.mem_cons_self xc hz hf) (by rfl) T.n_isinstance (by decide +kernel) (pa_cons (pv 0) (pa_cons (pe_glob (v := .ref T.x_Crowded.a) rfl T.x_Crowded.g rfl) pa_nil))) (pa_cons (pe_callB (DH.call_isP (p := p) List.mem_cons_self xc hz hf) (by rfl) T.n_isinstance (by decide +kernel) (pa_cons (pv 0) (pa_cons (pe_glob (v := .ref T.x_NoThing.a) rfl T.x_NoThing.g rfl) pa_nil))) pa_nil)))))))
      (pss_cons (ps_set (i := 1) sc__law_kin.nd rfl (Or.inl rfl) (pe_op op_cat (pv 1) (pe_lst (pa_cons (pe_callB (DH.call_isP (p := p) List.mem_cons_self xc hz hf) (by rfl) T.n_isinstance (by decide +kernel) (pa_cons (pv 0) (pa_cons (pe_glob (v := .ref T.x_InUse.a) rfl T.x_InUse.g rfl) pa_nil))) (pa_cons (pe_callB (DH.call_isP (p := p) List.mem_cons_self xc hz hf) (by rfl) T.n_isinstance (by decide +kernel) (pa_cons (pv 0) (pa_cons (pe_glob (v := .ref T.x_NoSack.a) rfl T.x_NoSack.g rfl) pa_nil))) (pa_cons (pe_callB (DH.call_isP (p := p) List.mem_cons_self xc hz hf) (by rfl) T.n_isinstance (by decide +kernel) (pa_cons (pv 0) (pa_cons (pe_glob (v := .ref T.x_NoCord.a) rfl T.x_NoCord.g rfl) pa_nil))) (pa_cons (pe_callB (DH.call_isP (p := p) List.mem_cons_self xc hz hf) (by rfl) T.n_isinstance (by decide +kernel) (pa_cons (pv 0) (pa_cons (pe_glob (v := .ref T.x_BadCord.a) rfl T.x_BadCord.g rfl) pa_nil))) pa_nil)))))))
      (pss_cons (ps_set (i := 1) sc__law_kin.nd rfl (Or.inl rfl) (pe_op op_cat (pv 1) (pe_lst (pa_cons (pe_callB (DH.call_isP (p := p) List.mem_cons_self xc hz hf) (by rfl) T.n_isinstance (by decide +kernel) (pa_cons (pv 0) (pa_cons (pe_glob (v := .ref T.x_BadDeed.a) rfl T.x_BadDeed.g rfl) pa_nil))) (pa_cons (pe_not (pe_callB (DH.call_isP (p := p) List.mem_cons_self xc hz hf) (by rfl) T.n_isinstance (by decide +kernel) (pa_cons (pv 0) (pa_cons (pe_bltn (v := .ty "ValueError") (by rfl) LK.n_ValueError (by decide +kernel) rfl) pa_nil)))) pa_nil)))))
      (pss_cons (ps_set (i := 2) sc__law_kin.nd rfl (Or.inl rfl) (pe_lst (pa_cons pe_str (pa_cons pe_str (pa_cons pe_str (pa_cons pe_str (pa_cons pe_str (pa_cons pe_str (pa_cons pe_str (pa_cons pe_str (pa_cons pe_str (pa_cons pe_str pa_nil))))))))))))
      (pss_cons (ps_set (i := 2) sc__law_kin.nd rfl (Or.inl rfl) (pe_op op_cat (pv 2) (pe_lst (pa_cons pe_str (pa_cons pe_str (pa_cons pe_str (pa_cons pe_str pa_nil)))))))
      (pss_one (ps_ret (pe_join pe_str (DH.pe_lcH (own := [("_law_word", 3), ("_law_mark", 4)]) (g := gTup K 2 (gCons (gName 3) (gCons (gName 4) gNil))) hc sc__law_kin.nd (DH.pi_zipH (by rfl) LK.n_zip (pa_cons (pv 2) (pa_cons (pv 1) pa_nil))) (blkOk_by (N := N__law_kin) (sc := defScope s__law_kin) (by decide +kernel)) (fun _ _ _ _ _ => DH.pg_tupH hc (pgs_cons (pg_name (i := 3) sc__law_kin.nd rfl (Or.inl rfl)) (pgs_cons (pg_name (i := 4) sc__law_kin.nd rfl (Or.inl rfl)) pgs_nil))) (fun _ _ _ _ _ => pts_one (pt_val (pv 4))) (fun _ _ _ _ _ => pv 3)))))))))), ?_⟩
    refine ⟨_, rfl, _, _, _, rfl, fun _ h => h, LK.kit e .BadName, ?_⟩
    refine ⟨_, rfl, _, _, _, rfl, fun _ h => h, LK.kit e .Taken, ?_⟩
    refine ⟨_, rfl, _, _, _, rfl, fun _ h => h, LK.kit e .BadCourse, ?_⟩
    refine ⟨_, rfl, _, _, _, rfl, fun _ h => h, LK.kit e .BadPlace, ?_⟩
    refine ⟨by show 4 ≤ sizeLine; decide, fun l1 n_l1 => ?_⟩
    obtain ⟨H1, eH1⟩ : ∃ h, h = upd H l1 (.lst [.bl (decide (e = .BadName)), .bl (decide (e = .Taken)), .bl (decide (e = .BadCourse)), .bl (decide (e = .BadPlace))]) := ⟨_, rfl⟩
    have s1 : Same H H1 := by rw [eH1]; exact same_upd n_l1
    have g1 : H1 l1 = some (.lst [.bl (decide (e = .BadName)), .bl (decide (e = .Taken)), .bl (decide (e = .BadCourse)), .bl (decide (e = .BadPlace))]) := by rw [eH1]; exact upd_same
    rw [← eH1]
    refine ⟨_, rfl, ?_⟩
    refine ⟨_, rfl, _, _, _, rfl, fun _ h => h, LK.kit e .BadWeight, ?_⟩
    refine ⟨_, rfl, _, _, _, rfl, fun _ h => h, LK.kit e .Full, ?_⟩
    refine ⟨_, rfl, _, _, _, rfl, fun _ h => h, LK.kit e .Crowded, ?_⟩
    refine ⟨_, rfl, _, _, _, rfl, fun _ h => h, LK.kit e .NoThing, ?_⟩
    refine ⟨by show 4 ≤ sizeLine; decide, fun l2 n_l2 => ?_⟩
    obtain ⟨H2, eH2⟩ : ∃ h, h = upd H1 l2 (.lst [.bl (decide (e = .BadWeight)), .bl (decide (e = .Full)), .bl (decide (e = .Crowded)), .bl (decide (e = .NoThing))]) := ⟨_, rfl⟩
    have s2 : Same H1 H2 := by rw [eH2]; exact same_upd n_l2
    have g2 : H2 l2 = some (.lst [.bl (decide (e = .BadWeight)), .bl (decide (e = .Full)), .bl (decide (e = .Crowded)), .bl (decide (e = .NoThing))]) := by rw [eH2]; exact upd_same
    rw [← eH2]
    refine ⟨l1, l2, _, _, rfl, rfl, s2 _ _ g1, g2, by show 4 + 4 ≤ sizeLine; decide, fun l3 n_l3 => ?_⟩
    obtain ⟨H3, eH3⟩ : ∃ h, h = upd H2 l3 (.lst ([.bl (decide (e = .BadName)), .bl (decide (e = .Taken)), .bl (decide (e = .BadCourse)), .bl (decide (e = .BadPlace))] ++ [.bl (decide (e = .BadWeight)), .bl (decide (e = .Full)), .bl (decide (e = .Crowded)), .bl (decide (e = .NoThing))])) := ⟨_, rfl⟩
    have s3 : Same H2 H3 := by rw [eH3]; exact same_upd n_l3
    have g3 : H3 l3 = some (.lst ([.bl (decide (e = .BadName)), .bl (decide (e = .Taken)), .bl (decide (e = .BadCourse)), .bl (decide (e = .BadPlace))] ++ [.bl (decide (e = .BadWeight)), .bl (decide (e = .Full)), .bl (decide (e = .Crowded)), .bl (decide (e = .NoThing))])) := by rw [eH3]; exact upd_same
    rw [← eH3]
    refine ⟨_, rfl, ?_⟩
    refine ⟨_, rfl, _, _, _, rfl, fun _ h => h, LK.kit e .InUse, ?_⟩
    refine ⟨_, rfl, _, _, _, rfl, fun _ h => h, LK.kit e .NoSack, ?_⟩
    refine ⟨_, rfl, _, _, _, rfl, fun _ h => h, LK.kit e .NoCord, ?_⟩
    refine ⟨_, rfl, _, _, _, rfl, fun _ h => h, LK.kit e .BadCord, ?_⟩
    refine ⟨by show 4 ≤ sizeLine; decide, fun l4 n_l4 => ?_⟩
    obtain ⟨H4, eH4⟩ : ∃ h, h = upd H3 l4 (.lst [.bl (decide (e = .InUse)), .bl (decide (e = .NoSack)), .bl (decide (e = .NoCord)), .bl (decide (e = .BadCord))]) := ⟨_, rfl⟩
    have s4 : Same H3 H4 := by rw [eH4]; exact same_upd n_l4
    have g4 : H4 l4 = some (.lst [.bl (decide (e = .InUse)), .bl (decide (e = .NoSack)), .bl (decide (e = .NoCord)), .bl (decide (e = .BadCord))]) := by rw [eH4]; exact upd_same
    rw [← eH4]
    refine ⟨l3, l4, _, _, rfl, rfl, s4 _ _ g3, g4, by show 8 + 4 ≤ sizeLine; decide, fun l5 n_l5 => ?_⟩
    obtain ⟨H5, eH5⟩ : ∃ h, h = upd H4 l5 (.lst (([.bl (decide (e = .BadName)), .bl (decide (e = .Taken)), .bl (decide (e = .BadCourse)), .bl (decide (e = .BadPlace))] ++ [.bl (decide (e = .BadWeight)), .bl (decide (e = .Full)), .bl (decide (e = .Crowded)), .bl (decide (e = .NoThing))]) ++ [.bl (decide (e = .InUse)), .bl (decide (e = .NoSack)), .bl (decide (e = .NoCord)), .bl (decide (e = .BadCord))])) := ⟨_, rfl⟩
    have s5 : Same H4 H5 := by rw [eH5]; exact same_upd n_l5
    have g5 : H5 l5 = some (.lst (([.bl (decide (e = .BadName)), .bl (decide (e = .Taken)), .bl (decide (e = .BadCourse)), .bl (decide (e = .BadPlace))] ++ [.bl (decide (e = .BadWeight)), .bl (decide (e = .Full)), .bl (decide (e = .Crowded)), .bl (decide (e = .NoThing))]) ++ [.bl (decide (e = .InUse)), .bl (decide (e = .NoSack)), .bl (decide (e = .NoCord)), .bl (decide (e = .BadCord))])) := by rw [eH5]; exact upd_same
    rw [← eH5]
    refine ⟨_, rfl, ?_⟩
    refine ⟨_, rfl, _, _, _, rfl, fun _ h => h, LK.kit e .BadDeed, ?_⟩
    refine ⟨_, rfl, _, _, _, rfl, fun _ h => h, LK.kitV e, _, rfl, ?_⟩
    refine ⟨by show 2 ≤ sizeLine; decide, fun l6 n_l6 => ?_⟩
    obtain ⟨H6, eH6⟩ : ∃ h, h = upd H5 l6 (.lst [.bl (decide (e = .BadDeed)), .bl (!true)]) := ⟨_, rfl⟩
    have s6 : Same H5 H6 := by rw [eH6]; exact same_upd n_l6
    have g6 : H6 l6 = some (.lst [.bl (decide (e = .BadDeed)), .bl (!true)]) := by rw [eH6]; exact upd_same
    rw [← eH6]
    refine ⟨l5, l6, _, _, rfl, rfl, s6 _ _ g5, g6, by show 12 + 2 ≤ sizeLine; decide, fun l7 n_l7 => ?_⟩
    obtain ⟨H7, eH7⟩ : ∃ h, h = upd H6 l7 (.lst ((([.bl (decide (e = .BadName)), .bl (decide (e = .Taken)), .bl (decide (e = .BadCourse)), .bl (decide (e = .BadPlace))] ++ [.bl (decide (e = .BadWeight)), .bl (decide (e = .Full)), .bl (decide (e = .Crowded)), .bl (decide (e = .NoThing))]) ++ [.bl (decide (e = .InUse)), .bl (decide (e = .NoSack)), .bl (decide (e = .NoCord)), .bl (decide (e = .BadCord))]) ++ [.bl (decide (e = .BadDeed)), .bl (!true)])) := ⟨_, rfl⟩
    have s7 : Same H6 H7 := by rw [eH7]; exact same_upd n_l7
    have g7 : H7 l7 = some (.lst ((([.bl (decide (e = .BadName)), .bl (decide (e = .Taken)), .bl (decide (e = .BadCourse)), .bl (decide (e = .BadPlace))] ++ [.bl (decide (e = .BadWeight)), .bl (decide (e = .Full)), .bl (decide (e = .Crowded)), .bl (decide (e = .NoThing))]) ++ [.bl (decide (e = .InUse)), .bl (decide (e = .NoSack)), .bl (decide (e = .NoCord)), .bl (decide (e = .BadCord))]) ++ [.bl (decide (e = .BadDeed)), .bl (!true)])) := by rw [eH7]; exact upd_same
    rw [← eH7]
    refine ⟨by show 10 ≤ sizeLine; decide, fun l8 n_l8 => ?_⟩
    obtain ⟨H8, eH8⟩ : ∃ h, h = upd H7 l8 (.lst [.str "BadName", .str "Taken", .str "BadCourse", .str "BadPlace", .str "BadWeight", .str "Full", .str "Crowded", .str "NoThing", .str "InUse", .str "NoSack"]) := ⟨_, rfl⟩
    have s8 : Same H7 H8 := by rw [eH8]; exact same_upd n_l8
    have g8 : H8 l8 = some (.lst [.str "BadName", .str "Taken", .str "BadCourse", .str "BadPlace", .str "BadWeight", .str "Full", .str "Crowded", .str "NoThing", .str "InUse", .str "NoSack"]) := by rw [eH8]; exact upd_same
    rw [← eH8]
    refine ⟨_, rfl, ?_⟩
    refine ⟨by show 4 ≤ sizeLine; decide, fun l9 n_l9 => ?_⟩
    obtain ⟨H9, eH9⟩ : ∃ h, h = upd H8 l9 (.lst [.str "NoCord", .str "BadCord", .str "BadDeed", .str "odd"]) := ⟨_, rfl⟩
    have s9 : Same H8 H9 := by rw [eH9]; exact same_upd n_l9
    have g9 : H9 l9 = some (.lst [.str "NoCord", .str "BadCord", .str "BadDeed", .str "odd"]) := by rw [eH9]; exact upd_same
    rw [← eH9]
    refine ⟨l8, l9, _, _, rfl, rfl, s9 _ _ g8, g9, by show 10 + 4 ≤ sizeLine; decide, fun l10 n_l10 => ?_⟩
    obtain ⟨H10, eH10⟩ : ∃ h, h = upd H9 l10 (.lst ([.str "BadName", .str "Taken", .str "BadCourse", .str "BadPlace", .str "BadWeight", .str "Full", .str "Crowded", .str "NoThing", .str "InUse", .str "NoSack"] ++ [.str "NoCord", .str "BadCord", .str "BadDeed", .str "odd"])) := ⟨_, rfl⟩
    have s10 : Same H9 H10 := by rw [eH10]; exact same_upd n_l10
    have g10 : H10 l10 = some (.lst ([.str "BadName", .str "Taken", .str "BadCourse", .str "BadPlace", .str "BadWeight", .str "Full", .str "Crowded", .str "NoThing", .str "InUse", .str "NoSack"] ++ [.str "NoCord", .str "BadCord", .str "BadDeed", .str "odd"])) := by rw [eH10]; exact upd_same
    rw [← eH10]
    have s0k : Same H H10 := (((((((((((Same.refl H).trans s1).trans s2).trans s3).trans s4).trans s5).trans s6).trans s7).trans s8).trans s9).trans s10)
    have gm : H10 l7 = some (.lst ((kM e).map V.bl)) := (s10 _ _ (s9 _ _ (s8 _ _ g7)))
    have gw : H10 l10 = some (.lst (kW.map V.str)) := g10
    clear eH1 s1 g1 eH2 s2 g2 eH3 s3 g3 eH4 s4 g4 eH5 s5 g5 eH6 s6 g6 eH7 s7 g7 eH8 s8 g8 eH9 s9 g9 eH10 s10 g10
    generalize H10 = Hk at s0k gm gw ⊢
    refine ⟨⟨_, rfl⟩, _, rfl, _, rfl, l10, l7, _, _, rfl, SqL.of gw, SqL.of gm, fun D nD => ?_⟩
    refine lc_it (walk_zip (xs := kW.map V.str) (ys := (kM e).map V.bl) (n := 14) (by rfl)) (fun i H' => Same Hk H' ∧ H' D = some (.lst (kP e i))) ⟨same_upd nD, upd_same⟩ (fun i H' _ p => ⟨p.1.seq (SqL.of gw), p.1.seq (SqL.of gm)⟩) (fun i v H2 H3 hi p hy => ?_) (fun H2 p => ?_)
    · obtain ⟨p1, p2⟩ := p
      obtain ⟨T', x, y, rfl, nT, rfl, ex, ey⟩ := hy
      have sT : Same H2 (upd H2 T' (.tup [x, y])) := same_upd nT
      dsimp only at ex ey
      obtain ⟨z, hz, rfl⟩ : ∃ z, kW[i]? = some z ∧ x = V.str z := by
        rw [List.getElem?_map] at ex
        cases h : kW[i]? with
        | none => rw [h] at ex; cases ex
        | some z => rw [h] at ex; cases ex; exact ⟨z, rfl, rfl⟩
      obtain ⟨b, hb, rfl⟩ : ∃ b, (kM e)[i]? = some b ∧ y = V.bl b := by
        rw [List.getElem?_map] at ey
        cases h : (kM e)[i]? with
        | none => rw [h] at ey; cases ey
        | some z => rw [h] at ey; cases ey; exact ⟨z, rfl, rfl⟩
      refine ⟨T', [.str z, .bl b], rfl, .inl (.inl upd_same), rfl, .str z, [.bl b], rfl, .bl b, [], rfl, rfl, rfl, ?_⟩
      refine ⟨_, rfl, b, rfl, ?_⟩
      have ks := kP_succ hz hb
      cases b with
      | true =>
        refine iteT ?_
        refine ⟨_, rfl, _, sT _ _ p2, kP_len e i, ?_, ?_⟩
        · intro c o e
          rw [upd_ne (ne_of_none e nD)]
          exact sT _ _ (p1 _ _ e)
        · rw [upd_same, ks]
          rfl
      | false =>
        refine iteF ⟨p1.trans sT, ?_⟩
        rw [ks, if_neg Bool.false_ne_true, List.append_nil]
        exact sT _ _ p2
    · refine ⟨_, D, [erS e], rfl, rfl, .inl (SqL.of (by rw [← kP_end]; exact p.2)), ?_, ?_⟩
      · have := erS_len e
        simp only [List.map_cons, List.map_nil, List.sum_cons, List.sum_nil, List.length_cons, List.length_nil]
        have : (" " : Str).length = 1 := by decide
        omega
      · rw [join_one]
        exact q _ (s0k.trans p.1)
end
end DY
namespace DY
open PySem PySem.Spec PyProof.Rows L2
abbrev s__law_do : Stmt := topS 82
abbrev N__law_do : List Str := ["_law_yard", "_law_deed", "_law_word", "_law_said", "_law_e"]
theorem sc__law_do : FnScope N__law_do ["_law_yard", "_law_deed"] (defScope s__law_do) := ⟨rfl, rfl, rfl, by decide +kernel, rfl, by decide +kernel, by decide +kernel⟩
def tMethS (C : Addr) (m : Str) (sp : Sp) (E : L2.St → XK) (ta : TE) (t : TA) : TE := fun σ H Q => ta σ H fun x H1 => ∃ a dx fs, x = .ref a ∧ H1 a = some (.ins C dx fs) ∧ fs.lookup m = none ∧ t σ H1 fun vs H2 => sp (x :: vs) H2 Q (E σ)
theorem pe_methS {X : Cx} {CX : CXT} {k : Nat} {f C : Addr} {fd : FuncData} {ps : List Str} {sp : Sp} {E : L2.St → XK} {m : Str} {pos apos : Pos} {e o : Expr} {es : List Expr} {ta : TE} {t : TA} {pl : Sem Bool} (he : PE X o ta) (c : Cls X.K C) (hm : Meth X.K C m f)
    (F : FnOk X.prog X.w X.K X.mg X.base CX k f fd ps sp) (hr : Room k X.A) (hb : Binds X.K fd ps []) (hx : ∀ σ, PassesAt CX X σ (E σ)) (ha : PA X (e :: es) t)
    (hst : starEach (e :: es) X.env = (false, eval e X.env) :: starEach es X.env := by rfl) (hpl : (backTo pos (starEach es X.env)).any (·.1) = false := by rfl)
    (ht : eval (.Call (.Attribute o m apos) (e :: es) [] pos) X.env = (do
      let ov ← eval o X.env
      standAt apos.atName
      let (f, first) ← holding [ov] (getMethod ov m pl)
      callWith pos f first (backTo pos (starEach (e :: es) X.env)) (backToKw pos (keywordEach [] X.env))) := by rfl) :
    PE X (.Call (.Attribute o m apos) (e :: es) [] pos) (tMethS C m sp E ta t) := by
  refine ⟨fun pins s σ H Q I h => ?_⟩
  refine PySem.W.methodCall_KW (pl := pl) (thn (he.run pins s σ H _ I h) fun u s1 ⟨x, H1, I1, rx, a, dx, fs, ex, ea, l, q⟩ => ?_) ht
  subst ex
  obtain rfl : u = Value.ref a := rx
  refine getmeth_ok I1 ea c hm l ?_
  refine PySem.W.callWith_K (first := [.ref a]) (h₀ := X.base) I.ok.mod.kin hm.kp (thn (ha.run pos pins s1 σ H1 _ I1 q) fun us s2 ⟨vs, H2, I2, r, q2⟩ => ⟨I2.kIn, ?_⟩) hst hpl
  exact run_fnS (us := .ref a :: us) (vs := .ref a :: vs) F hr hb (hx σ) I2 (.cons rfl r) q2
theorem takesN {X : Cx} : L2N.Takes X (fun _ _ _ _ => False) := fun _ _ x => by
  obtain ⟨_, _, _, _, _, _, _, _, _, _, _, _, _, _, _, _, z⟩ := x
  exact z.elim
structure LDo {w : World} {K : PySem.W.Frag} {mg : Str → Option Value} (T : T4 w K mg) extends LKin T where
  n_int : mg "int" = none
  cE : Addr
  g_YardError : mg "YardError" = some (.ref cE)
  exm : ∀ e, PySem.W.exmOne K (.ref (ec T.toT1 e)) (.ref cE) = some true
  d__law_do : DefF K mg "_law_do" s__law_do ["_law_yard", "_law_deed"]
/-- what a deed does, by the law's word of it -/
def Word (C : Addr) (A : YA) (H : Hp) (Q : VK) (f : Option Er) (Y' : Yd) : Prop :=
  (∀ e, f = some e → ∀ H', Same H H' → Q (.str (erS e)) H') ∧ (f = none → ∀ H', TS H H' → (∀ p o, H p = some o → p ≠ A.b → p ≠ A.t → p ≠ A.s → p ≠ A.c → H' p = some o) → IsY C A H' Y' → Q (.str "") H')
def spLD (C : Addr) : Sp := fun vs H Q _ => ∃ (A : YA) (Y : Yd) (a : Addr) (d : Deed), vs = [.ref A.y, .ref a] ∧ IsY C A H Y ∧ H a = some (.tup (.str (dW d) :: dR d)) ∧ dOk d ∧ Sml Y ∧ Word C A H Q (fault Y d) (step Y d)
section
variable {P : Program} {w : World} {K : PySem.W.Frag} {mg : Str → Option Value} {base : Heap}
theorem ok_ldo (T : T4 w K mg) (L : LDo T) : FnOk P w K mg base CX0 6 L.d__law_do.a L.d__law_do.d ["_law_yard", "_law_deed"] (spLD T.CY) := by
  have GK : DH.FnE P w K mg base 1 L.d__law_kin.a L.d__law_kin.d ["_law_e"] (spKin (ec T.toT1)) := ok_kin T L.toLKin
  have GD : FnOk P w K mg base (L2N.CX P w) 5 T.d_Yard_do.a T.d_Yard_do.d ["self", "deed"] (spDo T.CY (ec T.toT1)) := ok_do T
  refine L.d__law_do.F.ok sc__law_do (fun vs H Q E h => ?_) (fun cdv A outer s H vs Q E hr h => ?_)
  · obtain ⟨_, _, _, _, rfl, _⟩ := h
    rfl
  · obtain ⟨B, Y, a, d, rfl, hy, ha, hn, hk, q⟩ := h
    refine ⟨_, pss_cons (ps_set (i := 2) sc__law_do.nd rfl (Or.inl rfl) pe_str)
      (pss_cons (ps_set (i := 3) sc__law_do.nd rfl (Or.inl rfl) pe_non)
      (pss_cons (L2N.ps_try_as (i := 4) (tb := fun W => tAsg (tMethS T.CY "do" (spDo T.CY (ec T.toT1)) (WE W) (tVar 0) (tCons (tVar 1) tNil)) (gName 3))
          (ts := fun a cls d => tAsg (fun σ H Q => tVar 4 σ H fun v H1 => ∃ D, cls = .ref D ∧ d = none ∧ spKin (ec T.toT1) a D [v] H1 Q E0) (gName 2)) (Wout := fun _ _ _ _ => False) rfl rfl sc__law_do.nd rfl rfl ⟨rfl, by decide, .inl L.g_YardError⟩ takesN
        (fun W pn xe tk _ => pss_one (ps_set (i := 3) sc__law_do.nd rfl (Or.inl rfl) (pe_methS (pv 0) T.cl T.d_Yard_do.m GD hr T.d_Yard_do.b (fun σ => L2N.passAt tk σ) (by exact (pa_cons (pv 1) pa_nil)))))
        (fun a oe cls d pn hz hf => pss_one (ps_set (i := 2) sc__law_do.nd rfl (Or.inl rfl) (DH.pe_callE GK (L2H.roomH_of (hr.mono (by decide))) hz hf (by rfl) L.d__law_kin.g L.d__law_kin.F.kp L.d__law_kin.b (pv 4)))))
      (pss_one (ps_ret (pe_ix ix_list (pe_lst (pa_cons (pv 2) (pa_cons pe_str pa_nil))) (pe_callTy call_int1 (by rfl) L.n_int (by decide +kernel) (pa_cons (pe_cmpR op_notN (pv 3) pe_non (nomark _)) pa_nil)) (fun _ _ => rfl)))))), ?_⟩
    obtain ⟨dx, eo⟩ := hy.ob
    refine ⟨_, rfl, B.y, dx, _, rfl, eo, rfl, _, rfl, B, Y, a, d, rfl, hy, ha, hn, hk, ⟨fun e he H' s' => ?_, fun hf H' ts fr hy' => ?_⟩⟩
    · refine ⟨true, L.exm e, fun _ b nb => ?_, fun z => nomatch z⟩
      refine ⟨_, rfl, _, rfl, rfl, e, rfl, rfl, fun H2 s2 => ?_⟩
      refine ⟨_, rfl, by show 2 ≤ sizeLine; decide, fun l nl => ⟨_, rfl, rfl, .inr ⟨_, rfl, l, _, _, _, rfl, rfl, SqL.of upd_same, rfl, ?_⟩⟩⟩
      exact q.1 e he _ (s'.trans (s2.trans (same_upd nl)))
    · refine ⟨_, rfl, by show 2 ≤ sizeLine; decide, fun l nl => ⟨_, rfl, rfl, .inr ⟨_, rfl, l, _, _, _, rfl, rfl, SqL.of upd_same, rfl, ?_⟩⟩⟩
      have sl := same_upd (o := .lst [.str "", .str "told"]) nl
      exact q.2 hf _ (ts.trans (.of sl)) (fun p o e n1 n2 n3 n4 => sl _ _ (fr p o e n1 n2 n3 n4)) (hy'.keep sl)
end
end DY
namespace DY
open PySem PySem.Spec PyProof.Rows L2
abbrev s__law_turn : Stmt := topS 84
abbrev N__law_turn : List Str := ["_law_yard", "_law_m", "_law_deed", "_law_word"]
theorem sc__law_turn : FnScope N__law_turn ["_law_yard", "_law_m", "_law_deed"] (defScope s__law_turn) := ⟨rfl, rfl, rfl, by decide +kernel, rfl, by decide +kernel, by decide +kernel⟩
/-- a model's things are none of the yard's -/
def Sep (A : YA) (M : MA) : Prop := ∀ p, p = M.m ∨ p = M.t ∨ p = M.b ∨ p = M.s ∨ p = M.c → p ≠ A.b ∧ p ≠ A.t ∧ p ≠ A.s ∧ p ≠ A.c
/-- only the yard's own dicts have changed -/
structure Fr (A : YA) (H H' : Hp) : Prop where
  ts : TS H H'
  fr : ∀ p o, H p = some o → p ≠ A.b → p ≠ A.t → p ≠ A.s → p ≠ A.c → H' p = some o
theorem Fr.of {A : YA} {H H' : Hp} (s : Same H H') : Fr A H H' := ⟨.of s, fun p o e _ _ _ _ => s p o e⟩
theorem Fr.trans {A : YA} {H H1 H2 : Hp} (a : Fr A H H1) (b : Fr A H1 H2) : Fr A H H2 := ⟨a.ts.trans b.ts, fun p o e n1 n2 n3 n4 => b.fr p o (a.fr p o e n1 n2 n3 n4) n1 n2 n3 n4⟩
theorem sep_new {C : Addr} {A : YA} {M : MA} {H : Hp} {Y : Yd} (hy : IsY C A H Y) (n : Nw H M) : Sep A M := by
  obtain ⟨k1, e1, _⟩ := hy.bo
  obtain ⟨k2, e2, _⟩ := hy.tr
  obtain ⟨k3, e3, _⟩ := hy.sa
  obtain ⟨k4, e4, _⟩ := hy.co
  have all : ∀ p, H p = none → p ≠ A.b ∧ p ≠ A.t ∧ p ≠ A.s ∧ p ≠ A.c := fun p hp => ⟨(ne_of_none e1 hp).symm, (ne_of_none e2 hp).symm, (ne_of_none e3 hp).symm, (ne_of_none e4 hp).symm⟩
  rintro p (rfl | rfl | rfl | rfl | rfl)
  · exact all _ n.1
  · exact all _ n.2.1
  · exact all _ n.2.2.1
  · exact all _ n.2.2.2.1
  · exact all _ n.2.2.2.2
theorem IsM.fr {A : YA} {M : MA} {H H' : Hp} {Y : Yd} (h : IsM M H Y) (s : Sep A M) (f : Fr A H H') : IsM M H' Y := by
  obtain ⟨e, ⟨k1, e1, r1⟩, ⟨k2, e2, r2⟩, ⟨k3, e3, r3⟩, ⟨k4, e4, r4⟩, le⟩ := h
  have go : ∀ p o, H p = some o → p = M.m ∨ p = M.t ∨ p = M.b ∨ p = M.s ∨ p = M.c → H' p = some o := fun p o e hp => by
    obtain ⟨n1, n2, n3, n4⟩ := s p hp
    exact f.fr p o e n1 n2 n3 n4
  exact ⟨go _ _ e (.inl rfl), ⟨k1, go _ _ e1 (.inr (.inl rfl)), r1.keep f.ts⟩, ⟨k2, go _ _ e2 (.inr (.inr (.inl rfl))), r2.keep f.ts⟩, ⟨k3, go _ _ e3 (.inr (.inr (.inr (.inl rfl)))), r3.keep f.ts⟩, ⟨k4, go _ _ e4 (.inr (.inr (.inr (.inr rfl)))), r4.keep f.ts⟩, le⟩
def nextY (Y : Yd) (d : Deed) : Yd := match fault Y d with
  | none => step Y d
  | some _ => Y
def spTurn (C : Addr) : Sp := fun vs H Q _ => ∃ (A : YA) (M : MA) (Y : Yd) (a : Addr) (d : Deed), vs = [.ref A.y, .ref M.m, .ref a] ∧ IsY C A H Y ∧ IsM M H Y ∧ Sep A M ∧ Std Y ∧ H a = some (.tup (.str (dW d) :: dR d)) ∧ dOk d ∧
  ∀ M' H', Fr A H H' → IsY C A H' (nextY Y d) → IsM M' H' (nextY Y d) → Sep A M' → Q (.ref M'.m) H'
theorem erS_ne (e : Er) : erS e ≠ "" := by cases e <;> decide
structure LTurn {w : World} {K : PySem.W.Frag} {mg : Str → Option Value} (T : T4 w K mg) extends LDo T where
  l1 : L1 K mg
  d__law_fault : DefF K mg "_law_fault" s__law_fault ["_law_m", "_law_deed"]
  d__law_step : DefF K mg "_law_step" s__law_step ["_law_m", "_law_deed"]
  eF : d__law_fault = l1.d__law_fault
  eS : d__law_step = l1.d__law_step
  d__law_turn : DefF K mg "_law_turn" s__law_turn ["_law_yard", "_law_m", "_law_deed"]
theorem next_std {Y : Yd} {d : Deed} (h : Std Y) : Std (nextY Y d) := by
  unfold nextY
  cases e : fault Y d with
  | some x => exact h
  | none => exact std_step h e
section
variable {P : Program} {w : World} {K : PySem.W.Frag} {mg : Str → Option Value} {base : Heap}
theorem ok_turn {T4' : T4 w K mg} (T : LTurn T4') : FnOk P w K mg base CX0 7 T.d__law_turn.a T.d__law_turn.d ["_law_yard", "_law_m", "_law_deed"] (spTurn T4'.CY) := by
  have G__law_fault : FnOk P w K mg base CX0 4 T.d__law_fault.a T.d__law_fault.d ["_law_m", "_law_deed"] spFault := by rw [T.eF]; exact ok_fault T.l1
  have G__law_step : FnOk P w K mg base CX0 1 T.d__law_step.a T.d__law_step.d ["_law_m", "_law_deed"] spStep := by rw [T.eS]; exact ok_lstep T.l1
  have G__law_do : FnOk P w K mg base CX0 6 T.d__law_do.a T.d__law_do.d ["_law_yard", "_law_deed"] (spLD T4'.CY) := ok_ldo T4' T.toLDo
  refine T.d__law_turn.F.ok sc__law_turn (fun vs H Q E h => ?_) (fun cdv A outer s H vs Q E hr h => ?_)
  · obtain ⟨_, _, _, _, _, rfl, _⟩ := h
    rfl
  · obtain ⟨B, M, Y, a, d, rfl, hy, hm, sp, st, ha, hn, q⟩ := h
    refine ⟨_, pss_cons (ps_set (i := 3) sc__law_turn.nd rfl (Or.inl rfl) (pe_call G__law_fault (hr.mono (by decide)) (by rfl) T.d__law_fault.g T.d__law_fault.F.kp T.d__law_fault.b .nil pass0 (pa_cons (pv 1) (pa_cons (pv 2) pa_nil))))
      (pss_cons (ps_if (pt_cmpR op_ne (pe_call G__law_do (hr.mono (by decide)) (by rfl) T.d__law_do.g T.d__law_do.F.kp T.d__law_do.b .nil pass0 (pa_cons (pv 0) (pa_cons (pv 2) pa_nil))) (pv 3) (nomark _)) (pss_one (ps_ret pe_non)) pss_nil)
      (pss_cons (ps_if (pt_cmpR op_eq (pv 3) pe_str (nomark _)) (pss_one (ps_ret (pe_call G__law_step (hr.mono (by decide)) (by rfl) T.d__law_step.g T.d__law_step.F.kp T.d__law_step.b .nil pass0 (pa_cons (pv 1) (pa_cons (pv 2) pa_nil))))) pss_nil)
      (pss_one (ps_ret (pv 1))))), ?_⟩
    refine ⟨_, rfl, _, rfl, M, Y, a, d, rfl, hm, st.gd, st.ft, ha, hn, fun H1 s1 => ?_⟩
    refine ⟨_, rfl, _, rfl, B, Y, a, d, rfl, hy.keep s1, s1 _ _ ha, hn, st.sm, ⟨fun e he H2 s2 => ?_, fun hf H2 ts fr hy' => ?_⟩⟩
    · have s02 := s1.trans s2
      have ey : nextY Y d = Y := by unfold nextY; rw [he]
      rw [ey] at q
      rw [he]
      refine ⟨_, rfl, rfl, _, rfl, ?_⟩
      rw [show (!decide (V.str (erS e) = V.str (erW (some e)))) = false by rw [decide_eq_true (show V.str (erS e) = V.str (erW (some e)) from rfl)]; rfl]
      refine iteF ?_
      refine ⟨_, rfl, rfl, _, rfl, ?_⟩
      rw [decide_eq_false (show ¬ V.str (erW (some e)) = V.str "" from fun z => erS_ne e (V.str.inj z))]
      refine iteF ?_
      exact ⟨_, rfl, q M H2 (.of s02) (hy.keep s02) (hm.keep s02) sp⟩
    · have ey : nextY Y d = step Y d := by unfold nextY; rw [hf]
      rw [ey] at q
      rw [hf]
      have f1 : Fr B H H2 := (Fr.of s1).trans ⟨ts, fr⟩
      refine ⟨_, rfl, rfl, _, rfl, iteF ?_⟩
      refine ⟨_, rfl, rfl, _, rfl, iteT ?_⟩
      refine ⟨_, rfl, _, rfl, M, Y, a, d, rfl, hm.fr sp f1, st, f1.ts _ _ ha, hf, fun M' H3 s3 nw hm3 => ?_⟩
      exact q M' H3 (f1.trans (.of s3)) (hy'.keep s3) hm3 (sep_new hy' nw)
end
end DY
namespace DY
open PySem PySem.Spec PyProof.Rows L2
abbrev s__law_names : Stmt := topS 65
abbrev N__law_names : List Str := ["_law_d", "_law_many", "_law_letters", "_law_base", "_law_at", "_law_names_here", "_law_k", "_law_sign"]
theorem sc__law_names : FnScope N__law_names ["_law_d", "_law_many"] (defScope s__law_names) := ⟨rfl, rfl, rfl, by decide +kernel, rfl, by decide +kernel, by decide +kernel⟩
structure LN (K : PySem.W.Frag) (mg : Str → Option Value) where
  n_len : mg "len" = none
  n_range : mg "range" = none
  n_isinstance : mg "isinstance" = none
  n_str : mg "str" = none
  d__law_names : DefF K mg "_law_names" s__law_names ["_law_d", "_law_many"]
/-- short texts -/
def Sh (zs : List Str) : Prop := ∀ z ∈ zs, Nm z
def spNames : Sp := fun vs H Q _ => ∃ (q : Addr) (fs : List Int) (n : Nat), vs = [.ref q, .int n] ∧ H q = some (.lst (fs.map V.int)) ∧ 4 ≤ fs.length ∧ n ≤ 100 ∧
  ∀ (zs : List Str) p H', Same H H' → H p = none → H' p = some (.lst (zs.map V.str)) → zs.length = n → (∀ z ∈ zs, isName z = true) → (n ≤ 26 → zs.Nodup) → Q (.ref p) H'
section
variable {P : Program} {w : World} {K : PySem.W.Frag} {mg : Str → Option Value} {base : Heap}
theorem atF {fs : List Int} {j : Nat} (h : j < fs.length) : ∃ i, atI (fs.map V.int) (j : Int) = some (.int i) := ⟨_, atI_cell h⟩
theorem atS {zs : List Str} {i : Int} (h0 : 0 ≤ i) (h1 : i < (zs.length : Int)) : ∃ z ∈ zs, atI (zs.map V.str) i = some (.str z) := by
  obtain ⟨j, rfl⟩ := Int.eq_ofNat_of_zero_le h0
  have hj : j < zs.length := by omega
  exact ⟨zs[j], List.getElem_mem hj, atI_nat (by rw [List.getElem?_map, List.getElem?_eq_getElem hj]; rfl)⟩
theorem atN {fs : List Int} {i : Int} (h0 : 0 ≤ i) (h1 : i < (fs.length : Int)) : ∃ z, atI (fs.map V.int) i = some (.int z) := by
  obtain ⟨j, rfl⟩ := Int.eq_ofNat_of_zero_le h0
  exact atF (by omega)
theorem small1000' {n : Nat} (h : n ≤ 1000) : n ≤ sizeLine := Nat.le_of_lt (small1000 h)
section
variable {P : Nat → Prop}
theorem pr_app {x y : Str} (hx : ∀ c ∈ x.cps.toList, P c) (hy : ∀ c ∈ y.cps.toList, P c) : ∀ c ∈ (x ++ y).cps.toList, P c := by
  intro c hc
  rw [PySem.Str.cps_append, Array.toList_append, List.mem_append] at hc
  exact hc.elim (hx c) (hy c)
theorem pr_nil : ∀ c ∈ (Str.ofString "").cps.toList, P c := by
  have e : (Str.ofString "").cps.toList = [] := by decide +kernel
  intro c hc
  rw [e] at hc
  cases hc
theorem pr_sjoin : ∀ {ys : List Str}, (∀ y ∈ ys, ∀ c ∈ y.cps.toList, P c) → ∀ c ∈ (Str.join (Str.ofString "") ys).cps.toList, P c
  | [], _ => fun c hc => nomatch hc
  | [y], h => h y List.mem_cons_self
  | y :: z :: r, h => by
    show ∀ c ∈ (y ++ Str.ofString "" ++ Str.join (Str.ofString "") (z :: r)).cps.toList, P c
    exact pr_app (pr_app (h y List.mem_cons_self) pr_nil) (pr_sjoin fun y hy => h y (List.mem_cons_of_mem _ hy))
theorem pr_join {ys : List Str} (h : ∀ y ∈ ys, ∀ c ∈ y.cps.toList, P c) : ∀ c ∈ (Txt.join (Str.ofString "") ys).cps.toList, P c := by
  show ∀ c ∈ (Builtin.Str.glued (Str.ofString "") ys).cps.toList, P c
  rw [StrLaws.glued_eq_join]
  exact pr_sjoin h
end
/-- the letter of a number -/
def cAt (x : Int) : Nat := (letters.cps.toList)[(x % 26).toNat]?.getD 0
theorem atL (x : Int) : cAt x ∈ letters.cps.toList ∧ atI letters.cps.toList (x % 26) = some (cAt x) := by
  have m := modB x (n := 26) (by decide)
  obtain ⟨j, ej⟩ := Int.eq_ofNat_of_zero_le m.1
  have hj : j < letters.cps.toList.length := by
    have : letters.cps.toList.length = 26 := by decide
    omega
  unfold cAt
  rw [ej, Int.toNat_natCast, List.getElem?_eq_getElem hj, Option.getD_some]
  exact ⟨List.getElem_mem hj, atI_nat (List.getElem?_eq_getElem hj)⟩
theorem let_inj : ∀ i, i < 26 → ∀ j, j < 26 → (letters.cps.toList)[i]?.getD 0 = (letters.cps.toList)[j]?.getD 0 → i = j := by decide +kernel
theorem cAt_inj {x y : Int} (h : cAt x = cAt y) : x % 26 = y % 26 := by
  have m := modB x (n := 26) (by decide)
  have m' := modB y (n := 26) (by decide)
  have z := let_inj (x % 26).toNat (by omega) (y % 26).toNat (by omega) h
  omega
/-- a name: a letter put into a text -/
def nmA (bs : Str) (a : Int) (c : Nat) : Str := cutS bs none (some a) ++ (⟨#[c]⟩ : Str) ++ cutS bs (some a) none
theorem nmA_cps {bs : Str} {a : Nat} (h : a ≤ bs.length) (c : Nat) : (nmA bs (a : Int) c).cps.toList = bs.cps.toList.take a ++ (c :: bs.cps.toList.drop a) := by
  have l : bs.cps.toList.length = bs.length := Array.length_toList
  have e1 : (cutS bs none (some (a : Int))).cps.toList = bs.cps.toList.take a := by
    show ((bs.cps.toList.drop (HT.sIx bs.length 0 none)).take (HT.sIx bs.length bs.length (some (a : Int)) - HT.sIx bs.length 0 none)).toArray.toList = _
    rw [HT.sIx_nat, show HT.sIx bs.length 0 none = 0 from rfl, List.drop_zero, Nat.sub_zero, Nat.min_eq_left h]
  have e2 : (cutS bs (some (a : Int)) none).cps.toList = bs.cps.toList.drop a := by
    show ((bs.cps.toList.drop (HT.sIx bs.length 0 (some (a : Int)))).take (HT.sIx bs.length bs.length none - HT.sIx bs.length 0 (some (a : Int)))).toArray.toList = _
    rw [HT.sIx_nat, show HT.sIx bs.length bs.length none = bs.length from rfl, Nat.min_eq_left h, List.toList_toArray, List.take_of_length_le (by rw [List.length_drop, l]; omega)]
  unfold nmA
  rw [PySem.Str.cps_append, PySem.Str.cps_append, Array.toList_append, Array.toList_append, e1, e2, List.append_assoc]
  rfl
theorem nmA_inj {bs : Str} {a : Nat} (h : a ≤ bs.length) {c d : Nat} (e : nmA bs (a : Int) c = nmA bs (a : Int) d) : c = d := by
  have z : (nmA bs (a : Int) c).cps.toList = (nmA bs (a : Int) d).cps.toList := by rw [e]
  rw [nmA_cps h, nmA_cps h] at z
  have y := List.append_cancel_left z
  exact (List.cons.inj y).1
theorem nmA_ok {bs : Str} {a : Nat} (h : a ≤ bs.length) (hl : bs.length ≤ 7) (hb : ∀ c ∈ bs.cps.toList, c ∈ letters.cps.toList) {c : Nat} (hc : c ∈ letters.cps.toList) : isName (nmA bs (a : Int) c) = true := by
  have e := nmA_cps h c
  have l : bs.cps.toList.length = bs.length := Array.length_toList
  have ln : (nmA bs (a : Int) c).length = bs.length + 1 := by
    show (nmA bs (a : Int) c).cps.size = _
    rw [← Array.length_toList, e, List.length_append, List.length_cons, List.length_take, List.length_drop, l]
    omega
  unfold isName
  rw [ln, e]
  simp only [Bool.and_eq_true, decide_eq_true_eq, List.all_eq_true]
  refine ⟨by omega, by omega, fun x hx => ?_⟩
  rcases List.mem_append.mp hx with z | z
  · exact hb x (List.mem_of_mem_take z)
  · rcases List.mem_cons.mp z with z | z
    · rw [z]; exact hc
    · exact hb x (List.mem_of_mem_drop z)
theorem sum_ones : ∀ {ys : List Str}, (∀ y ∈ ys, y.length = 1) → (ys.map (·.length)).sum = ys.length
  | [], _ => rfl
  | y :: ys, h => by
    rw [List.map_cons, List.sum_cons, sum_ones (fun z hz => h z (List.mem_cons_of_mem _ hz)), h y List.mem_cons_self, List.length_cons]
    omega
theorem ok_names (T : LN K mg) : FnOk P w K mg base CX0 1 T.d__law_names.a T.d__law_names.d ["_law_d", "_law_many"] spNames := by
  refine T.d__law_names.F.ok sc__law_names (fun vs H Q E h => ?_) (fun cdv A outer s H vs Q E hr h => ?_)
  · obtain ⟨_, _, _, rfl, _⟩ := h
    rfl
  · obtain ⟨q, fs, n, rfl, eq, fl, hn, k⟩ := h
    refine ⟨_, pss_cons (ps_set (i := 2) sc__law_names.nd rfl (Or.inr rfl) pe_str)
      (pss_cons (ps_set (i := 3) sc__law_names.nd rfl (Or.inl rfl) (pe_join pe_str (pe_lc (own := [("_law_k", 6)]) (g := (gName 6)) (tt := tYes) (by rfl) sc__law_names.nd (pi_range1 rfl T.n_range (pa_cons (pe_op op_mod (pe_ix ix_list (pv 0) pe_int (fun _ _ => rfl)) pe_int) pa_nil)) (blkOk_by (N := N__law_names) (sc := defScope s__law_names) (by decide +kernel)) (fun _ _ _ _ _ => (pg_name (i := 6) sc__law_names.nd rfl (Or.inl rfl))) (fun _ _ _ _ _ => pts_nil) (fun _ _ _ _ _ => (pe_ix ix_str (pv 2) (pe_op op_mod (pe_op op_add (pe_ix (r := rIxL K) ix_list (pv 0) pe_int (fun _ _ => rfl)) (pe_op op_mul (pe_op op_add (pv 6) pe_int) (pe_op op_fdiv (pe_ix (r := rIxL K) ix_list (pv 0) pe_int (fun _ _ => rfl)) pe_int))) pe_int) (fun _ _ => rfl))))))
      (pss_cons (ps_set (i := 4) sc__law_names.nd rfl (Or.inl rfl) (pe_op op_mod (pe_ix ix_list (pv 0) pe_int (fun _ _ => rfl)) (pe_op op_add (pe_callB call_len_str (by rfl) T.n_len (by decide +kernel) (pa_cons (pv 3) pa_nil)) pe_int)))
      (pss_cons (ps_set (i := 5) sc__law_names.nd rfl (Or.inl rfl) (pe_lst pa_nil))
      (pss_cons (ps_for PassesOwn.never rfl (pi_range1 rfl T.n_range (pa_cons (pv 1) pa_nil)) (pg_name (i := 6) sc__law_names.nd rfl (Or.inl rfl))
        (pss_cons (ps_set (i := 7) sc__law_names.nd rfl (Or.inl rfl) (pe_ix ix_str (pv 2) (pe_op op_mod (pe_op op_add (pe_ix ix_list (pv 0) pe_int (fun _ _ => rfl)) (pe_op op_mul pe_int (pv 6))) pe_int) (fun _ _ => rfl)))
      (pss_one (ps_expr (pe_bm PySem.F.plainAttrs_list PySem.F.slot_list_append PySem.F.type_list_append mt_append (pv 5) (pa_cons (pe_op op_add_str (pe_op op_add_str (pe_slice sl_str (pv 3) po_none (po_some (pv 4))) (pv 7)) (pe_slice sl_str (pv 3) (po_some (pv 4)) po_none)) pa_nil))))))
      (pss_one (ps_ret (pv 5))))))), ?_⟩
    obtain ⟨i0, h0⟩ := atF (fs := fs) (j := 0) (by omega)
    obtain ⟨i1, h1⟩ := atF (fs := fs) (j := 1) (by omega)
    obtain ⟨i2, h2⟩ := atF (fs := fs) (j := 2) (by omega)
    obtain ⟨i3, h3⟩ := atF (fs := fs) (j := 3) (by omega)
    have m8 := modB i1 (n := 8) (by decide)
    refine ⟨⟨_, rfl⟩, _, rfl, q, _, _, _, rfl, rfl, SqL.of eq, h1, _, _, rfl, rfl, by show (0 : Int) < 8; decide, _, rfl, ?_, ?_, fun D nD => ?_⟩
    · omega
    · omega
    · refine lc_range (lo := 0) (n := (i1 % 8).toNat) (fun i H' => Same H H' ∧ ∃ ys : List Str, H' D = some (.lst (ys.map V.str)) ∧ ys.length = i ∧ (∀ y ∈ ys, y.length = 1) ∧ ∀ y ∈ ys, ∀ c ∈ y.cps.toList, c ∈ letters.cps.toList) ⟨same_upd nD, [], upd_same, rfl, (fun y hy => nomatch hy), (fun y hy => nomatch hy)⟩ (fun i H' hi p => ?_) (fun H' p => ?_)
      · obtain ⟨sm, ys, eD, yl, y1, y2⟩ := p
        refine ⟨rfl, yes (iteT ?_)⟩
        obtain ⟨lc, hc⟩ := atL (i0 + (0 + (i : Int) + 1) * (i1 / 8))
        generalize cAt (i0 + (0 + (i : Int) + 1) * (i1 / 8)) = c at lc hc
        refine ⟨_, rfl, _, rfl, q, _, _, _, rfl, rfl, SqL.of (sm _ _ eq), h0, _, rfl, _, _, rfl, rfl, _, rfl, q, _, _, _, rfl, rfl, SqL.of (sm _ _ eq), h1, _, _, rfl, rfl, ⟨by decide, by decide⟩, _, _, rfl, rfl, .inl ⟨by omega, by omega⟩, _, _, rfl, rfl, _, _, rfl, rfl, by show (0 : Int) < 26; decide, _, _, _, rfl, rfl, by show 26 ≤ sizeLine; decide, hc, ?_⟩
        refine ⟨_, eD, small1000 (by rw [List.length_map]; omega), fun b o e => ?_, ys ++ [⟨#[c]⟩], ?_, by rw [List.length_append, yl]; rfl, fun y hy => ?_, fun y hy => ?_⟩
        · rw [upd_ne (ne_of_none e nD)]
          exact sm _ _ e
        · rw [upd_same, List.map_append]
          rfl
        · rcases List.mem_append.mp hy with z | z
          · exact y1 y z
          · rw [List.mem_singleton.mp z]
            rfl
        · rcases List.mem_append.mp hy with z | z
          · exact y2 y z
          · rw [List.mem_singleton.mp z]
            intro c' hc'
            rw [List.mem_singleton.mp (show c' ∈ [c] from hc')]
            exact lc
      · obtain ⟨sm, ys, eD, yl, y1, y2⟩ := p
        have yl8 : ys.length ≤ 7 := by omega
        have sum1 : (ys.map (·.length)).sum = ys.length := sum_ones y1
        have bl : (Txt.join (Str.ofString "") ys).length ≤ 7 := by
          rw [PySem.W.KT.join_ones ys y1]
          omega
        have z0 : (Str.ofString "").length = 0 := by decide
        refine ⟨_, D, ys, rfl, rfl, .inl (SqL.of eD), by rw [sum1, z0]; omega, ?_⟩
        have bc := pr_join y2
        generalize Txt.join (Str.ofString "") ys = bs at bl bc ⊢
        have bp : (0 : Int) < (bs.length : Int) + 1 := by omega
        have bz : bs.length ≤ sizeLine := small1000' (by omega)
        refine ⟨_, rfl, q, _, _, _, rfl, rfl, SqL.of (sm _ _ eq), h2, _, rfl, bs, rfl, bz, _, _, rfl, rfl, _, _, rfl, rfl, bp, ?_⟩
        refine ⟨Nat.zero_le _, fun o no => ?_⟩
        have s2 : Same H' (upd H' o (.lst [])) := same_upd no
        have eo : (upd H' o (.lst [])) o = some (.lst []) := upd_same
        generalize upd H' o (.lst []) = H2 at s2 eo ⊢
        refine ⟨_, rfl, _, rfl, by omega, by omega, ?_⟩
        obtain ⟨at_, eat⟩ := Int.eq_ofNat_of_zero_le (modB i2 bp).1
        have lat : at_ ≤ bs.length := by have := (modB i2 bp).2; omega
        refine for_range (lo := 0) (n := (n : Int).toNat) (fun j σ H5 => ∃ (y6 y7 : Option V), σ = [some (.ref q), some (.int n), some (.str letters), some (.str bs), some (.int (i2 % ((bs.length : Int) + 1))), some (.ref o), y6, y7] ∧ Same H' H5 ∧ H5 o = some (.lst (((List.range j).map fun (i : Nat) => nmA bs (i2 % ((bs.length : Int) + 1)) (cAt (i3 + 7 * (0 + (i : Int))))).map V.str)))
          ⟨none, none, rfl, s2, eo⟩ (fun j σ H5 hj p => ?_) (fun σ H5 p => ?_)
        · obtain ⟨y6, y7, rfl, s5, eo5⟩ := p
          have s05 := sm.trans s5
          obtain ⟨lc, hc⟩ := atL (i3 + 7 * (0 + (j : Int)))
          refine ⟨_, rfl, _, rfl, q, _, _, _, rfl, rfl, SqL.of (s05 _ _ eq), h3, _, rfl, _, _, rfl, rfl, .inl ⟨by decide, by decide⟩, _, _, rfl, rfl, _, _, rfl, rfl, by show (0 : Int) < 26; decide, _, _, _, rfl, rfl, by show 26 ≤ sizeLine; decide, hc, ?_⟩
          have c1 := cutS_length bs none (some (i2 % ((bs.length : Int) + 1)))
          have c2 := cutS_length bs (some (i2 % ((bs.length : Int) + 1))) none
          have c0 : (⟨#[cAt (i3 + 7 * (0 + (j : Int)))]⟩ : Str).length = 1 := rfl
          have c3 : (cutS bs none (some (i2 % ((bs.length : Int) + 1))) ++ (⟨#[cAt (i3 + 7 * (0 + (j : Int)))]⟩ : Str)).length ≤ 9 := by
            rw [len_app, c0]
            omega
          refine ⟨.ref o, rfl, .inl ⟨rfl, _, SqL.of eo5⟩, _, rfl, _, rfl, _, rfl, bs, rfl, bz, _, rfl, _, _, rfl, rfl, small1000' (by rw [c0]; omega), _, rfl, _, rfl, _, rfl, bs, rfl, bz, _, _, rfl, rfl, small1000' (by omega), o, _, _, rfl, rfl, eo5, ?_, ?_⟩
          · rw [List.length_map, List.length_map, List.length_range]
            exact small1000 (by omega)
          · refine ⟨_, _, rfl, fun b o' e => ?_, ?_⟩
            · rw [upd_ne (ne_of_none e no)]
              exact s5 _ _ e
            · rw [upd_same, List.range_succ, List.map_append, List.map_append]
              rfl
        · obtain ⟨y6, y7, rfl, s5, eo5⟩ := p
          refine ⟨_, rfl, k _ o H5 (sm.trans s5) (sm.free no) eo5 (by rw [List.length_map, List.length_range]; omega) (fun z hz => ?_) (fun h26 => ?_)⟩
          · obtain ⟨i, _, rfl⟩ := List.mem_map.mp hz
            rw [eat]
            exact nmA_ok lat bl bc (atL _).1
          · rw [eat]
            refine List.pairwise_map.mpr (List.Pairwise.imp_of_mem (fun {i j} hi hj hlt => ?_) List.pairwise_lt_range)
            have hi := List.mem_range.mp hi
            have hj := List.mem_range.mp hj
            intro e
            have z := cAt_inj (nmA_inj lat e)
            omega
end
end DY
namespace DY
open PySem PySem.Spec PyProof.Rows L2
/-! ### yards that are filled -/
structure Zs (z : Nat → Str) (e : Int) (p : Nat → Int) (g : Int) : Prop where
  ok : ∀ i, i < 24 → isName (z i) = true
  inj : ∀ i j, i < 24 → j < 24 → z i = z j → i = j
  e0 : 0 ≤ e ∧ e ≤ 9
  pl : ∀ k, 0 ≤ p k ∧ p k ≤ 90
  gw : 1 ≤ g ∧ g ≤ 1000000000
section
variable (z : Nat → Str) (e : Int) (p : Nat → Int) (g : Int)
def upZ (k : Nat) : Str := if k % 2 = 0 then "" else z 22
def fillD (kind k : Nat) : Deed := match kind with
  | 0 => .tre (z k) 2 (10 * k) (10 * k + e)
  | 1 => .boa (z k) 2 (10 * k) (10 * k + 1 + e) g
  | 2 => .sac (z k) (z (22 + k % 2)) (p k) g
  | _ => .cor (z k) (upZ z k) (z 23) (p k)
def most (kind : Nat) : Nat := match kind with
  | 0 => 6
  | 1 => 6
  | 2 => 8
  | _ => 4
def bd : List (Str × BoR) := [(z 22, 5, 0, 90, 3), (z 23, 4, 0, 90, 3)]
def fil (kind : Nat) (I : List Nat) : Yd := match kind with
  | 0 => ⟨I.map fun i => (z i, 2, 10 * (i : Int), 10 * (i : Int) + e), [], [], []⟩
  | 1 => ⟨[], I.map fun i => (z i, 2, 10 * (i : Int), 10 * (i : Int) + 1 + e, g), [], []⟩
  | 2 => ⟨[], bd z, I.map fun i => (z i, z (22 + i % 2), p i, g), []⟩
  | _ => ⟨[], bd z, [], I.map fun i => (z i, upZ z i, z 23, p i)⟩
def goneD (kind k : Nat) : Deed := match kind with
  | 0 => .awa (z k)
  | 1 => .awa (z k)
  | 2 => .lif (z k)
  | _ => .cut (z k)
end
section
variable {z : Nat → Str} {e : Int} {p : Nat → Int} {g : Int}
theorem has_map {α : Type} (h : Zs z e p g) {I : List Nat} (hI : ∀ i ∈ I, i ≤ 9) {k : Nat} (hk : k < 24) (f : Nat → α) : hasT (I.map fun i => (z i, f i)) (z k) = decide (k ∈ I) := by
  rw [Bool.eq_iff_iff, hasT_iff, decide_eq_true_eq, List.map_map]
  constructor
  · intro x
    obtain ⟨i, hi, ei⟩ := List.mem_map.mp x
    have := hI i hi
    have e2 := h.inj i k (by omega) hk ei
    rw [← e2]
    exact hi
  · exact fun x => List.mem_map.mpr ⟨k, x, rfl⟩
theorem has_bd (h : Zs z e p g) {k : Nat} (hk : k ≤ 9) : hasT (bd z) (z k) = false := by
  cases x : hasT (bd z) (z k) with
  | false => rfl
  | true =>
    rw [hasT_iff] at x
    have x : z k ∈ [z 22, z 23] := x
    simp only [List.mem_cons, List.not_mem_nil, or_false] at x
    rcases x with y | y
    · have := h.inj _ _ (by omega) (by omega) y
      omega
    · have := h.inj _ _ (by omega) (by omega) y
      omega
theorem tk_fil (h : Zs z e p g) {kind : Nat} {I : List Nat} (hI : ∀ i ∈ I, i ≤ 9) {k : Nat} (hk : k ≤ 9) : taken (fil z e p g kind I) (z k) = decide (k ∈ I) := by
  unfold taken fil
  split
  · rw [has_map h hI (by omega)]; show (false || (decide (k ∈ I) || (false || false))) = _; simp
  · rw [has_map h hI (by omega)]; show (decide (k ∈ I) || (false || (false || false))) = _; simp
  · rw [has_map h hI (by omega), has_bd h hk]; show (false || (false || (decide (k ∈ I) || false))) = _; simp
  · rw [has_map h hI (by omega), has_bd h hk]; show (false || (false || (false || decide (k ∈ I)))) = _; simp
theorem get22 (h : Zs z e p g) : getT (bd z) (z 22) = some (5, 0, 90, 3) := by
  unfold getT bd
  rw [List.find?_cons_of_pos (by simp)]
  rfl
theorem get23 (h : Zs z e p g) : getT (bd z) (z 23) = some (4, 0, 90, 3) := by
  have n : ¬ z 22 = z 23 := fun x => by have := h.inj _ _ (by omega) (by omega) x; omega
  unfold getT bd
  rw [List.find?_cons_of_neg (by simpa using n), List.find?_cons_of_pos (by simp)]
  rfl
theorem getB (h : Zs z e p g) (k : Nat) : ∃ c, getT (bd z) (z (22 + k % 2)) = some (c, 0, 90, 3) := by
  rcases (by omega : k % 2 = 0 ∨ k % 2 = 1) with x | x <;> rw [x]
  · exact ⟨5, get22 h⟩
  · exact ⟨4, get23 h⟩
theorem pl_ok {i : Int} (h : 0 ≤ i ∧ i ≤ 90) : onB 0 90 i = true := by
  unfold onB isPlace
  simp only [Bool.and_eq_true, decide_eq_true_eq]
  omega
theorem crowd0 (h : Zs z e p g) {I : List Nat} {k : Nat} (hn : k ∉ I) : crowd (fil z e p g 0 I) (z k) 2 (10 * k) (10 * k + e) = false := by
  have := h.e0
  unfold crowd lies fil
  rw [List.any_eq_false]
  intro q hq
  simp only [List.map_nil, List.nil_append, List.map_map] at hq
  obtain ⟨i, hi, rfl⟩ := List.mem_map.mp hq
  have ne : i ≠ k := fun x => hn (x ▸ hi)
  have : ¬ ((if (10 * (i : Int)) > 10 * (k : Int) then 10 * (i : Int) else 10 * (k : Int)) < (if 10 * (i : Int) + e < 10 * (k : Int) + e then 10 * (i : Int) + e else 10 * (k : Int) + e)) := by
    split <;> split <;> omega
  show ¬ (meets _ _ _ _ (z i, 2, 10 * (i : Int), 10 * (i : Int) + e) = true)
  unfold meets
  simp only [decide_eq_false this, Bool.and_false, Bool.false_eq_true, not_false_eq_true]
theorem crowd1 (h : Zs z e p g) {I : List Nat} {k : Nat} (hn : k ∉ I) : crowd (fil z e p g 1 I) (z k) 2 (10 * k) (10 * k + 1 + e) = false := by
  have := h.e0
  unfold crowd lies fil
  rw [List.any_eq_false]
  intro q hq
  simp only [List.map_nil, List.append_nil, List.map_map] at hq
  obtain ⟨i, hi, rfl⟩ := List.mem_map.mp hq
  have ne : i ≠ k := fun x => hn (x ▸ hi)
  have : ¬ ((if (10 * (i : Int)) > 10 * (k : Int) then 10 * (i : Int) else 10 * (k : Int)) < (if 10 * (i : Int) + 1 + e < 10 * (k : Int) + 1 + e then 10 * (i : Int) + 1 + e else 10 * (k : Int) + 1 + e)) := by
    split <;> split <;> omega
  show ¬ (meets _ _ _ _ (z i, 2, 10 * (i : Int), 10 * (i : Int) + 1 + e) = true)
  unfold meets
  simp only [decide_eq_false this, Bool.and_false, Bool.false_eq_true, not_false_eq_true]
theorem fill_none (h : Zs z e p g) {kind : Nat} {I : List Nat} (hI : ∀ i ∈ I, i ≤ 9) {k : Nat} (hk : k ≤ 9) (hn : k ∉ I) (hl : I.length < most kind) : fault (fil z e p g kind I) (fillD z e p g kind k) = none ∧ step (fil z e p g kind I) (fillD z e p g kind k) = fil z e p g kind (I ++ [k]) := by
  have nm := h.ok k (by omega)
  have tk := tk_fil h (kind := kind) hI hk
  rw [decide_eq_false hn] at tk
  have e0 := h.e0
  match kind, hl, tk with
  | 0, hl, tk =>
    have c := crowd0 h hn
    have p1 : isPlace (10 * (k : Int)) = true := by unfold isPlace; simp only [Bool.and_eq_true, decide_eq_true_eq]; omega
    have p2 : isPlace (10 * (k : Int) + e) = true := by unfold isPlace; simp only [Bool.and_eq_true, decide_eq_true_eq]; omega
    have l0 : ¬ (10 * (k : Int) + e < 10 * (k : Int)) := by omega
    have l1 : ¬ (6 ≤ (fil z e p g 0 I).tr.length) := by show ¬ (6 ≤ (I.map _).length); rw [List.length_map]; have : I.length < 6 := hl; omega
    refine ⟨?_, ?_⟩
    · show faultT (fil z e p g 0 I) (z k) 2 (10 * k) (10 * k + e) = none
      unfold faultT
      simp only [nm, tk, c, p1, p2, l0, l1, show isCourse 2 = true from rfl]
      rfl
    · show ({ fil z e p g 0 I with tr := (fil z e p g 0 I).tr ++ [(z k, 2, 10 * (k : Int), 10 * (k : Int) + e)] } : Yd) = _
      unfold fil
      simp only [List.map_append]
      rfl
  | 1, hl, tk =>
    have c := crowd1 h hn
    have p1 : isPlace (10 * (k : Int)) = true := by unfold isPlace; simp only [Bool.and_eq_true, decide_eq_true_eq]; omega
    have p2 : isPlace (10 * (k : Int) + 1 + e) = true := by unfold isPlace; simp only [Bool.and_eq_true, decide_eq_true_eq]; omega
    have l0 : ¬ (10 * (k : Int) + 1 + e ≤ 10 * (k : Int)) := by omega
    have w : isWeight g = true := by unfold isWeight; have := h.gw; simp only [Bool.and_eq_true, decide_eq_true_eq]; omega
    have l1 : ¬ (6 ≤ (fil z e p g 1 I).bo.length) := by show ¬ (6 ≤ (I.map _).length); rw [List.length_map]; have : I.length < 6 := hl; omega
    refine ⟨?_, ?_⟩
    · show faultB (fil z e p g 1 I) (z k) 2 (10 * k) (10 * k + 1 + e) g = none
      unfold faultB
      simp only [nm, tk, c, p1, p2, l0, l1, w, show isCourse 2 = true from rfl]
      rfl
    · show ({ fil z e p g 1 I with bo := (fil z e p g 1 I).bo ++ [(z k, 2, 10 * (k : Int), 10 * (k : Int) + 1 + e, g)] } : Yd) = _
      unfold fil
      simp only [List.map_append]
      rfl
  | 2, hl, tk =>
    obtain ⟨c, gb⟩ := getB h k
    have ob : onBd (fil z e p g 2 I) (z (22 + k % 2)) (p k) = some true := by
      unfold onBd
      show (getT (bd z) _).map _ = _
      rw [gb, Option.map_some, pl_ok (h.pl k)]
    have w : isWeight g = true := by unfold isWeight; have := h.gw; simp only [Bool.and_eq_true, decide_eq_true_eq]; omega
    have l1 : ¬ (8 ≤ (fil z e p g 2 I).sa.length) := by show ¬ (8 ≤ (I.map _).length); rw [List.length_map]; have : I.length < 8 := hl; omega
    refine ⟨?_, ?_⟩
    · show faultSa (fil z e p g 2 I) (z k) (z (22 + k % 2)) (p k) g = none
      unfold faultSa
      rw [ob]
      simp only [nm, tk, l1, w]
      rfl
    · show stepSa (fil z e p g 2 I) (z k) (z (22 + k % 2)) (p k) g = _
      unfold stepSa fil
      simp only [List.map_append]
      rfl
  | n + 3, hl, tk =>
    have l1 : ¬ (4 ≤ (fil z e p g (n + 3) I).co.length) := by show ¬ (4 ≤ (I.map _).length); rw [List.length_map]; have : I.length < 4 := hl; omega
    have gl : getT (fil z e p g (n + 3) I).bo (z 23) = some (4, 0, 90, 3) := get23 h
    obtain ⟨y, uy, y1, y2⟩ : ∃ y, upRow (fil z e p g (n + 3) I) (upZ z k) = some y ∧ ¬ (y.1 ≤ 4) ∧ onB y.2.1 y.2.2 (p k) = true := by
      unfold upZ
      split
      · refine ⟨(10, -1000000, 1000000), by unfold upRow; rw [if_pos rfl], by show ¬ ((10 : Int) ≤ 4); decide, ?_⟩
        have := h.pl k
        unfold onB isPlace
        simp only [Bool.and_eq_true, decide_eq_true_eq]
        omega
      · have ne := ne_of_name (h.ok 22 (by omega))
        refine ⟨(5, 0, 90), ?_, by show ¬ ((5 : Int) ≤ 4); decide, pl_ok (h.pl k)⟩
        unfold upRow
        rw [if_neg ne]
        show (getT (bd z) (z 22)).map _ = _
        rw [get22 h]
        rfl
    refine ⟨?_, ?_⟩
    · show faultTi (fil z e p g (n + 3) I) (z k) (upZ z k) (z 23) (p k) = none
      unfold faultTi
      rw [uy, gl]
      simp only [nm, tk, l1, y1, y2, pl_ok (h.pl k)]
      rfl
    · show stepTi (fil z e p g (n + 3) I) (z k) (upZ z k) (z 23) (p k) = _
      unfold stepTi fil
      simp only [List.map_append]
      rfl
end
end DY
namespace DY
open PySem PySem.Spec PyProof.Rows L2
theorem next_some {Y : Yd} {d : Deed} (h : fault Y d ≠ none) : nextY Y d = Y := by
  unfold nextY
  cases e : fault Y d with
  | none => exact absurd e h
  | some x => rfl
theorem next_none {Y : Yd} {d : Deed} (h : fault Y d = none) : nextY Y d = step Y d := by
  unfold nextY
  rw [h]
theorem next_bad {Y : Yd} {d : Deed} (hk : newK d = true) (hn : isName (dN d) = false) : nextY Y d = Y := next_some fun h => by
  have := (newF hk h).1
  rw [hn] at this
  cases this
theorem next_full {Y : Yd} {d : Deed} (hk : newK d = true) (hn : cap d ≤ tabN Y d) : nextY Y d = Y := next_some fun h => by
  have := (newF hk h).2.2
  omega
section
variable {z : Nat → Str} {e : Int} {p : Nat → Int} {g : Int}
theorem fill_new (kind k : Nat) : newK (fillD z e p g kind k) = true := by
  unfold fillD
  split <;> rfl
theorem fill_name (kind k : Nat) : dN (fillD z e p g kind k) = z k := by
  unfold fillD
  split <;> rfl
theorem fill_tab (kind k : Nat) (I : List Nat) : tabN (fil z e p g kind I) (fillD z e p g kind k) = I.length ∧ cap (fillD z e p g kind k) = most kind := by
  match kind with
  | 0 => exact ⟨List.length_map _, rfl⟩
  | 1 => exact ⟨List.length_map _, rfl⟩
  | 2 => exact ⟨List.length_map _, rfl⟩
  | _ + 3 => exact ⟨List.length_map _, rfl⟩
theorem fill_some (h : Zs z e p g) {kind : Nat} {I : List Nat} (hI : ∀ i ∈ I, i ≤ 9) {k : Nat} (hk : k ≤ 9) (hc : k ∈ I ∨ most kind ≤ I.length) : nextY (fil z e p g kind I) (fillD z e p g kind k) = fil z e p g kind I := next_some fun hf => by
  obtain ⟨_, t, l⟩ := newF (fill_new kind k) hf
  obtain ⟨t1, t2⟩ := fill_tab (z := z) (e := e) (p := p) (g := g) kind k I
  rw [fill_name, tk_fil h hI hk] at t
  rw [t1, t2] at l
  rcases hc with c | c
  · rw [decide_eq_true c] at t
    cases t
  · omega
theorem del_map {α : Type} (h : Zs z e p g) {I : List Nat} (hI : ∀ i ∈ I, i ≤ 9) {k : Nat} (hk : k ≤ 9) (f : Nat → α) : delT (I.map fun i => (z i, f i)) (z k) = (I.filter fun i => decide (i ≠ k)).map fun i => (z i, f i) := by
  unfold delT
  rw [List.filter_map]
  congr 1
  refine List.filter_congr fun i hi => ?_
  have := hI i hi
  show decide (z i ≠ z k) = decide (i ≠ k)
  by_cases x : i = k
  · rw [x, decide_eq_false (fun y => y rfl), decide_eq_false (fun y => y rfl)]
  · rw [decide_eq_true x]
    exact decide_eq_true (fun y => x (h.inj _ _ (by omega) (by omega) y))
theorem gone_next (h : Zs z e p g) {kind : Nat} {I : List Nat} (hI : ∀ i ∈ I, i ≤ 9) {k : Nat} (hk : k ∈ I) : nextY (fil z e p g kind I) (goneD z kind k) = fil z e p g kind (I.filter fun i => decide (i ≠ k)) := by
  have k9 := hI k hk
  match kind with
  | 0 =>
    have t : hasT (fil z e p g 0 I).tr (z k) = true := by show hasT (I.map _) _ = _; rw [has_map h hI (by omega), decide_eq_true hk]
    have f : fault (fil z e p g 0 I) (.awa (z k)) = none := by
      show faultAw (fil z e p g 0 I) (z k) = none
      unfold faultAw
      rw [t]
      rfl
    show nextY (fil z e p g 0 I) (.awa (z k)) = _
    rw [next_none f]
    show stepAw (fil z e p g 0 I) (z k) = _
    unfold stepAw
    rw [if_pos t]
    unfold fil
    simp only [del_map h hI k9]
  | 1 =>
    have t : hasT (fil z e p g 1 I).bo (z k) = true := by show hasT (I.map _) _ = _; rw [has_map h hI (by omega), decide_eq_true hk]
    have f : fault (fil z e p g 1 I) (.awa (z k)) = none := by
      show faultAw (fil z e p g 1 I) (z k) = none
      unfold faultAw
      rw [t]
      rfl
    show nextY (fil z e p g 1 I) (.awa (z k)) = _
    rw [next_none f]
    show stepAw (fil z e p g 1 I) (z k) = _
    unfold stepAw
    rw [if_neg (by show ¬ (false = true); decide)]
    unfold fil
    simp only [del_map h hI k9]
  | 2 =>
    have t : hasT (fil z e p g 2 I).sa (z k) = true := by show hasT (I.map _) _ = _; rw [has_map h hI (by omega), decide_eq_true hk]
    have f : fault (fil z e p g 2 I) (.lif (z k)) = none := by
      show faultLi (fil z e p g 2 I) (z k) = none
      unfold faultLi
      rw [t]
      rfl
    show nextY (fil z e p g 2 I) (.lif (z k)) = _
    rw [next_none f]
    show stepLi (fil z e p g 2 I) (z k) = _
    unfold stepLi fil
    simp only [del_map h hI k9]
  | n + 3 =>
    have t : hasT (fil z e p g (n + 3) I).co (z k) = true := by show hasT (I.map _) _ = _; rw [has_map h hI (by omega), decide_eq_true hk]
    have f : fault (fil z e p g (n + 3) I) (.cut (z k)) = none := by
      show faultCu (fil z e p g (n + 3) I) (z k) = none
      unfold faultCu
      rw [t]
      rfl
    show nextY (fil z e p g (n + 3) I) (.cut (z k)) = _
    rw [next_none f]
    show stepCu (fil z e p g (n + 3) I) (z k) = _
    unfold stepCu fil
    simp only [del_map h hI k9]
theorem run_fill (h : Zs z e p g) {kind : Nat} : ∀ j, j ≤ most kind → most kind ≤ 8 → ((List.range j).map (fillD z e p g kind)).foldl nextY (fil z e p g kind []) = fil z e p g kind (List.range j)
  | 0, _, _ => rfl
  | j + 1, hj, hm => by
    rw [List.range_succ, List.map_append, List.foldl_append, run_fill h j (by omega) hm]
    obtain ⟨f1, f2⟩ := fill_none h (kind := kind) (I := List.range j) (fun i hi => by have := List.mem_range.mp hi; omega) (k := j) (by omega) (by simp) (by rw [List.length_range]; omega)
    show nextY (fil z e p g kind (List.range j)) (fillD z e p g kind j) = _
    rw [next_none f1, f2]
def preD (z : Nat → Str) (kind : Nat) : List Deed := if kind ≤ 1 then [] else [.boa (z 22) 5 0 90 3, .boa (z 23) 4 0 90 3]
theorem run_pre (h : Zs z e p g) (kind : Nat) : (preD z kind).foldl nextY y0 = fil z e p g kind [] := by
  match kind with
  | 0 => rfl
  | 1 => rfl
  | n + 2 =>
    have n22 := h.ok 22 (by omega)
    have n23 := h.ok 23 (by omega)
    have ne : ¬ z 22 = z 23 := fun x => by have := h.inj _ _ (by omega) (by omega) x; omega
    have f1 : fault y0 (.boa (z 22) 5 0 90 3) = none := by
      show faultB y0 (z 22) 5 0 90 3 = none
      unfold faultB
      rw [n22]
      rfl
    have s1 : nextY y0 (.boa (z 22) 5 0 90 3) = ⟨[], [(z 22, 5, 0, 90, 3)], [], []⟩ := by rw [next_none f1]; rfl
    have tk : taken ⟨[], [(z 22, 5, 0, 90, 3)], [], []⟩ (z 23) = false := by
      unfold taken hasT getT
      rw [List.find?_cons_of_neg (by simpa using ne)]
      rfl
    have cr : crowd ⟨[], [(z 22, 5, 0, 90, 3)], [], []⟩ (z 23) 4 0 90 = false := by
      unfold crowd lies
      show (meets (z 23) 4 0 90 (z 22, 5, 0, 90) || false) = false
      unfold meets
      simp
    have f2 : fault ⟨[], [(z 22, 5, 0, 90, 3)], [], []⟩ (.boa (z 23) 4 0 90 3) = none := by
      show faultB ⟨[], [(z 22, 5, 0, 90, 3)], [], []⟩ (z 23) 4 0 90 3 = none
      unfold faultB
      rw [n23, tk, cr]
      rfl
    show nextY (nextY y0 (.boa (z 22) 5 0 90 3)) (.boa (z 23) 4 0 90 3) = _
    rw [s1, next_none f2]
    match n with
    | 0 => rfl
    | _ + 1 => rfl
def badD (z : Nat → Str) (e : Int) (p : Nat → Int) (g : Int) (kind k : Nat) : Deed := match kind with
  | 0 => .tre "A" 2 (10 * k) (10 * k + e)
  | 1 => .boa "A" 2 (10 * k) (10 * k + 1 + e) g
  | 2 => .sac "A" (z (22 + k % 2)) (p k) g
  | _ => .cor "A" (upZ z k) (z 23) (p k)
def lastD (z : Nat → Str) (kind k : Nat) : List Deed := match kind with
  | 0 => [.tre (z k) 2 1 3]
  | 1 => [.boa (z k) 2 1 3 5]
  | _ => []
def allD (z : Nat → Str) (e : Int) (p : Nat → Int) (g : Int) (kind d q : Nat) : List Deed :=
  preD z kind ++ ((List.range (most kind + 1)).map (fillD z e p g kind) ++ ([badD z e p g kind (most kind)] ++ ([fillD z e p g kind d] ++ ([goneD z kind q] ++ ([fillD z e p g kind (most kind), fillD z e p g kind (most kind + 1)] ++ lastD z kind (most kind + 1))))))
theorem most8 (kind : Nat) : 4 ≤ most kind ∧ most kind ≤ 8 := by
  match kind with
  | 0 => decide
  | 1 => decide
  | 2 => decide
  | _ + 3 => exact ⟨Nat.le_refl 4, by show 4 ≤ 8; decide⟩
theorem filt_len : ∀ m, m ≤ 8 → ∀ q, q < m → ((List.range m).filter fun i => decide (i ≠ q)).length + 1 = m := by decide +kernel
/-- what the law asks at its end -/
theorem run_all (h : Zs z e p g) {kind d q : Nat} (hd : d < most kind) (hq : q < most kind) : ∃ I, I.length = most kind ∧ (allD z e p g kind d q).foldl nextY y0 = fil z e p g kind I := by
  obtain ⟨m4, m8⟩ := most8 kind
  have r9 : ∀ i ∈ List.range (most kind), i ≤ 9 := fun i hi => by have := List.mem_range.mp hi; omega
  have hnA : isName "A" = false := by decide +kernel
  unfold allD
  rw [List.range_succ, List.map_append]
  simp only [List.foldl_append]
  rw [run_pre h, run_fill h _ (Nat.le_refl _) m8]
  have a1 : ([most kind].map (fillD z e p g kind)).foldl nextY (fil z e p g kind (List.range (most kind))) = fil z e p g kind (List.range (most kind)) := fill_some h r9 (by omega) (.inr (by rw [List.length_range]; exact Nat.le_refl _))
  have a2 : [badD z e p g kind (most kind)].foldl nextY (fil z e p g kind (List.range (most kind))) = fil z e p g kind (List.range (most kind)) := by
    show nextY _ (badD z e p g kind (most kind)) = _
    unfold badD
    split <;> exact next_bad rfl hnA
  have a3 : [fillD z e p g kind d].foldl nextY (fil z e p g kind (List.range (most kind))) = fil z e p g kind (List.range (most kind)) := fill_some h r9 (by omega) (.inl (List.mem_range.mpr hd))
  have a4 : [goneD z kind q].foldl nextY (fil z e p g kind (List.range (most kind))) = fil z e p g kind ((List.range (most kind)).filter fun i => decide (i ≠ q)) := gone_next h r9 (List.mem_range.mpr hq)
  rw [a1, a2, a3, a4]
  have lf := filt_len _ m8 _ hq
  have f9 : ∀ i ∈ (List.range (most kind)).filter fun i => decide (i ≠ q), i ≤ 9 := fun i hi => r9 i (List.mem_filter.mp hi).1
  have nf : most kind ∉ (List.range (most kind)).filter fun i => decide (i ≠ q) := fun x => by have := List.mem_range.mp (List.mem_filter.mp x).1; omega
  obtain ⟨b1, b2⟩ := fill_none h (kind := kind) f9 (k := most kind) (by omega) nf (by omega)
  have J9 : ∀ i ∈ ((List.range (most kind)).filter fun i => decide (i ≠ q)) ++ [most kind], i ≤ 9 := fun i hi => by
    rcases List.mem_append.mp hi with x | x
    · exact f9 i x
    · rw [List.mem_singleton.mp x]; omega
  have lJ : (((List.range (most kind)).filter fun i => decide (i ≠ q)) ++ [most kind]).length = most kind := by rw [List.length_append]; exact lf
  have a5 : [fillD z e p g kind (most kind), fillD z e p g kind (most kind + 1)].foldl nextY (fil z e p g kind ((List.range (most kind)).filter fun i => decide (i ≠ q))) = fil z e p g kind (((List.range (most kind)).filter fun i => decide (i ≠ q)) ++ [most kind]) := by
    show nextY (nextY _ (fillD z e p g kind (most kind))) (fillD z e p g kind (most kind + 1)) = _
    rw [next_none b1, b2]
    exact fill_some h J9 (by omega) (.inr (by rw [lJ]; exact Nat.le_refl _))
  rw [a5]
  refine ⟨_, lJ, ?_⟩
  match kind, lJ with
  | 0, lJ => exact next_full rfl (by show 6 ≤ (List.map _ _).length; rw [List.length_map, lJ]; exact Nat.le_refl _)
  | 1, lJ => exact next_full rfl (by show 6 ≤ (List.map _ _).length; rw [List.length_map, lJ]; exact Nat.le_refl _)
  | 2, _ => rfl
  | _ + 3, _ => rfl
end
end DY
namespace DY
open PySem PySem.Spec PyProof.Rows L2
abbrev s__law_filling : Stmt := topS 85
abbrev N__law_filling : List Str := ["_law_kind", "_law_names_here", "_law_k", "_law_feed_here"]
theorem sc__law_filling : FnScope N__law_filling ["_law_kind", "_law_names_here", "_law_k", "_law_feed_here"] (defScope s__law_filling) := ⟨rfl, rfl, rfl, by decide +kernel, rfl, by decide +kernel, by decide +kernel⟩
structure LF (K : PySem.W.Frag) (mg : Str → Option Value) extends LN K mg where
  d__law_filling : DefF K mg "_law_filling" s__law_filling ["_law_kind", "_law_names_here", "_law_k", "_law_feed_here"]
def zAt (zs : List Str) (i : Nat) : Str := zs[i]?.getD ""
def fAt (fs : List Int) (i : Nat) : Int := fs[i]?.getD 0
theorem z_at {zs : List Str} {i : Nat} (h : i < zs.length) : atI (zs.map V.str) (i : Int) = some (.str (zAt zs i)) := by
  unfold zAt
  rw [List.getElem?_eq_getElem h, Option.getD_some]
  exact atI_nat (by rw [List.getElem?_map, List.getElem?_eq_getElem h]; rfl)
theorem f_at {fs : List Int} {i : Nat} (h : i < fs.length) : atI (fs.map V.int) (i : Int) = some (.int (fAt fs i)) := by
  unfold fAt
  rw [List.getElem?_eq_getElem h, Option.getD_some]
  exact atI_nat (by rw [List.getElem?_map, List.getElem?_eq_getElem h]; rfl)
/-- a filling, of what was drawn -/
def flD (zs : List Str) (fs : List Int) (kind k : Nat) : Deed := fillD (zAt zs) (fAt fs 7 % 10) (fun k => fAt fs (9 + k) % 91) (1 + fAt fs 8) kind k
def spFill : Sp := fun vs H Q _ => ∃ (l f : Addr) (zs : List Str) (fs : List Int) (kind k : Nat), vs = [.int kind, .ref l, .int k, .ref f] ∧ H l = some (.lst (zs.map V.str)) ∧ zs.length = 24 ∧ H f = some (.lst (fs.map V.int)) ∧ fs.length = 60 ∧ kind < 4 ∧ k ≤ 9 ∧
  ∀ pp H', Same H H' → H' pp = some (.tup (.str (dW (flD zs fs kind k)) :: dR (flD zs fs kind k))) → Q (.ref pp) H'
section
variable {P : Program} {w : World} {K : PySem.W.Frag} {mg : Str → Option Value} {base : Heap}
theorem ok_filling (T : LF K mg) : FnOk P w K mg base CX0 1 T.d__law_filling.a T.d__law_filling.d ["_law_kind", "_law_names_here", "_law_k", "_law_feed_here"] spFill := by
  refine T.d__law_filling.F.ok sc__law_filling (fun vs H Q E h => ?_) (fun cdv A outer s H vs Q E hr h => ?_)
  · obtain ⟨_, _, _, _, _, _, rfl, _⟩ := h
    rfl
  · obtain ⟨l, f, zs, fs, kind, k, rfl, el, zl, ef, fl, hkind, hk, q⟩ := h
    refine ⟨_, pss_cons (ps_if (pt_cmpR op_eq (pv 0) pe_int (nomark _)) (pss_one (ps_ret (pe_tup (pa_cons pe_str (pa_cons (pe_ix ix_list (pv 1) (pv 2) (fun _ _ => rfl)) (pa_cons pe_int (pa_cons (pe_op op_mul pe_int (pv 2)) (pa_cons (pe_op op_add (pe_op op_mul pe_int (pv 2)) (pe_op op_mod (pe_ix ix_list (pv 3) pe_int (fun _ _ => rfl)) pe_int)) pa_nil)))))))) pss_nil)
      (pss_cons (ps_if (pt_cmpR op_eq (pv 0) pe_int (nomark _)) (pss_one (ps_ret (pe_tup (pa_cons pe_str (pa_cons (pe_ix ix_list (pv 1) (pv 2) (fun _ _ => rfl)) (pa_cons pe_int (pa_cons (pe_op op_mul pe_int (pv 2)) (pa_cons (pe_op op_add (pe_op op_add (pe_op op_mul pe_int (pv 2)) pe_int) (pe_op op_mod (pe_ix ix_list (pv 3) pe_int (fun _ _ => rfl)) pe_int)) (pa_cons (pe_op op_add pe_int (pe_ix ix_list (pv 3) pe_int (fun _ _ => rfl))) pa_nil))))))))) pss_nil)
      (pss_cons (ps_if (pt_cmpR op_eq (pv 0) pe_int (nomark _)) (pss_one (ps_ret (pe_tup (pa_cons pe_str (pa_cons (pe_ix ix_list (pv 1) (pv 2) (fun _ _ => rfl)) (pa_cons (pe_ix ix_list (pv 1) (pe_op op_add pe_int (pe_op op_mod (pv 2) pe_int)) (fun _ _ => rfl)) (pa_cons (pe_op op_mod (pe_ix ix_list (pv 3) (pe_op op_add pe_int (pv 2)) (fun _ _ => rfl)) pe_int) (pa_cons (pe_op op_add pe_int (pe_ix ix_list (pv 3) pe_int (fun _ _ => rfl))) pa_nil)))))))) pss_nil)
      (pss_one (ps_ret (pe_tup (pa_cons pe_str (pa_cons (pe_ix ix_list (pv 1) (pv 2) (fun _ _ => rfl)) (pa_cons (pe_ix ix_list (pe_lst (pa_cons pe_str (pa_cons (pe_ix ix_list (pv 1) pe_int (fun _ _ => rfl)) pa_nil))) (pe_op op_mod (pv 2) pe_int) (fun _ _ => rfl)) (pa_cons (pe_ix ix_list (pv 1) pe_int (fun _ _ => rfl)) (pa_cons (pe_op op_mod (pe_ix ix_list (pv 3) (pe_op op_add pe_int (pv 2)) (fun _ _ => rfl)) pe_int) pa_nil)))))))))), ?_⟩
    have zk := z_at (zs := zs) (i := k) (by omega)
    have z22 := z_at (zs := zs) (i := 22) (by omega)
    have z23 := z_at (zs := zs) (i := 23) (by omega)
    have f7 := f_at (fs := fs) (i := 7) (by omega)
    have f8 := f_at (fs := fs) (i := 8) (by omega)
    have f9 := f_at (fs := fs) (i := 9 + k) (by omega)
    rw [show ((9 + k : Nat) : Int) = 9 + (k : Int) by omega] at f9
    refine ⟨_, rfl, rfl, _, rfl, ?_⟩
    match kind, hkind, q with
    | 0, _, q =>
      refine ite2 (fun _ => ?_) (fun x => (x (decide_eq_true rfl)).elim)
      refine ⟨_, rfl, _, rfl, l, _, _, _, rfl, rfl, SqL.of el, zk, _, rfl, _, _, rfl, rfl, .inl ⟨by decide, by decide⟩, _, rfl, _, _, rfl, rfl, .inl ⟨by decide, by decide⟩, _, rfl, f, _, _, _, rfl, rfl, SqL.of ef, f7, _, _, rfl, rfl, by show (0 : Int) < 10; decide, _, _, rfl, rfl, by show 5 ≤ sizeLine; decide, fun p np => ?_⟩
      exact q p _ (same_upd np) upd_same
    | 1, _, q =>
      refine ite2 (fun x => nomatch (V.int.inj (of_decide_eq_true x))) (fun _ => ?_)
      refine ⟨_, rfl, rfl, _, rfl, ite2 (fun _ => ?_) (fun x => (x (decide_eq_true rfl)).elim)⟩
      refine ⟨_, rfl, _, rfl, l, _, _, _, rfl, rfl, SqL.of el, zk, _, rfl, _, _, rfl, rfl, .inl ⟨by decide, by decide⟩, _, rfl, _, _, rfl, rfl, .inl ⟨by decide, by decide⟩, _, _, rfl, rfl, _, rfl, f, _, _, _, rfl, rfl, SqL.of ef, f7, _, _, rfl, rfl, by show (0 : Int) < 10; decide, _, _, rfl, rfl, _, rfl, f, _, _, _, rfl, rfl, SqL.of ef, f8, _, _, rfl, rfl, by show 6 ≤ sizeLine; decide, fun p np => ?_⟩
      exact q p _ (same_upd np) upd_same
    | 2, _, q =>
      refine ite2 (fun x => nomatch (V.int.inj (of_decide_eq_true x))) (fun _ => ?_)
      refine ⟨_, rfl, rfl, _, rfl, ite2 (fun x => nomatch (V.int.inj (of_decide_eq_true x))) (fun _ => ?_)⟩
      refine ⟨_, rfl, rfl, _, rfl, ite2 (fun _ => ?_) (fun x => (x (decide_eq_true rfl)).elim)⟩
      have zb := z_at (zs := zs) (i := 22 + k % 2) (by omega)
      rw [show ((22 + k % 2 : Nat) : Int) = 22 + (k : Int) % 2 by omega] at zb
      refine ⟨_, rfl, _, rfl, l, _, _, _, rfl, rfl, SqL.of el, zk, _, rfl, _, rfl, _, _, rfl, rfl, by show (0 : Int) < 2; decide, _, _, rfl, rfl, l, _, _, _, rfl, rfl, SqL.of el, zb, _, rfl, _, rfl, _, _, rfl, rfl, f, _, _, _, rfl, rfl, SqL.of ef, f9, _, _, rfl, rfl, by show (0 : Int) < 91; decide, _, rfl, f, _, _, _, rfl, rfl, SqL.of ef, f8, _, _, rfl, rfl, by show 5 ≤ sizeLine; decide, fun p np => ?_⟩
      exact q p _ (same_upd np) upd_same
    | 3, _, q =>
      refine ite2 (fun x => nomatch (V.int.inj (of_decide_eq_true x))) (fun _ => ?_)
      refine ⟨_, rfl, rfl, _, rfl, ite2 (fun x => nomatch (V.int.inj (of_decide_eq_true x))) (fun _ => ?_)⟩
      refine ⟨_, rfl, rfl, _, rfl, ite2 (fun x => nomatch (V.int.inj (of_decide_eq_true x))) (fun _ => ?_)⟩
      refine ⟨_, rfl, _, rfl, l, _, _, _, rfl, rfl, SqL.of el, zk, _, rfl, l, _, _, _, rfl, rfl, SqL.of el, z22, by show 2 ≤ sizeLine; decide, fun t nt => ?_⟩
      have s1 := same_upd (o := .lst [.str "", .str (zAt zs 22)]) nt
      have e1 := upd_same (H := H) (a := t) (o := .lst [.str "", .str (zAt zs 22)])
      generalize upd H t (.lst [.str "", .str (zAt zs 22)]) = H1 at s1 e1 ⊢
      have au : atI ([.str "", .str (zAt zs 22)] : List V) ((k : Int) % 2) = some (.str (upZ (zAt zs) k)) := by
        unfold upZ
        rcases (by omega : k % 2 = 0 ∨ k % 2 = 1) with x | x
        · rw [if_pos x, show (k : Int) % 2 = 0 by omega]; exact atI_nat (j := 0) rfl
        · rw [if_neg (by omega), show (k : Int) % 2 = 1 by omega]; exact atI_nat (j := 1) rfl
      refine ⟨_, rfl, _, _, rfl, rfl, by show (0 : Int) < 2; decide, t, _, _, _, rfl, rfl, SqL.of e1, au, _, rfl, l, _, _, _, rfl, rfl, SqL.of (s1 _ _ el), z23, _, rfl, _, rfl, _, _, rfl, rfl, f, _, _, _, rfl, rfl, SqL.of (s1 _ _ ef), f9, _, _, rfl, rfl, by show (0 : Int) < 91; decide, by show 5 ≤ sizeLine; decide, fun p np => ?_⟩
      exact q p _ (s1.trans (same_upd np)) upd_same
end
end DY
namespace L2
open PySem PySem.Spec PyProof.Rows
theorem tuple_mul1 (l : Addr) (items : Array Value) (n : Nat) (dd : Option Addr) (sl : Array (Option Value)) (u : Tok) :
    Meets (Builtin.«tuple.__mul__» ⟨[.ref l, .int 1 u], []⟩) (fun _ R s => s.heap.get? l = some { cls := .type "tuple", dict := dd, data := .seq items n, slots := sl } ∧ R (.ok (.ret (Value.ref l))) s) :=
  .of_wp fun prog w A R s h => by
    obtain ⟨hp, g, d, tk, os⟩ := s
    obtain ⟨hl, h⟩ := h
    have f1 := AutoSeq1.idx_int
    have c1 : (items.isEmpty || ((1 : Int) == 1)) = true := by simp
    wp_walk using wpAny_loadPart' hl
    repeat (first
      | (refine wpAny_ite_false (decide_eq_false (by decide)) ?_; wp_walk using wpAny_loadPart' hl)
      | (refine wpAny_ite_true (decide_eq_true c1) ?_; wp_walk using wpAny_loadPart' hl))
    exact ⟨_, rfl, h⟩
theorem tuple_mul0 (l : Addr) (items : Array Value) (n : Nat) (dd : Option Addr) (sl : Array (Option Value)) (u : Tok) (hi : items.isEmpty = false) :
    Meets (Builtin.«tuple.__mul__» ⟨[.ref l, .int 0 u], []⟩) (fun _ R s => s.heap.get? l = some { cls := .type "tuple", dict := dd, data := .seq items n, slots := sl } ∧ R (.ok (.ret (Value.ref s.heap.objs.size))) { s with heap := s.heap.push { cls := Value.type "tuple", data := Data.seq #[] }, toks := s.toks }) :=
  .of_wp fun prog w A R s h => by
    obtain ⟨hp, g, d, tk, os⟩ := s
    obtain ⟨hl, h⟩ := h
    have f1 := AutoSeq1.idx_int
    have c1 : (items.isEmpty || ((0 : Int) == 1)) = false := by rw [hi]; rfl
    have c2 : (decide ((0 : Int) ≤ 0) || items.isEmpty) = true := by simp
    wp_walk using wpAny_loadPart' hl
    repeat (first
      | (refine wpAny_ite_false (decide_eq_false (by decide)) ?_; wp_walk using wpAny_loadPart' hl)
      | (refine wpAny_ite_false (decide_eq_false (by rw [c1]; exact Bool.false_ne_true)) ?_; wp_walk using wpAny_loadPart' hl)
      | (refine wpAny_ite_true (decide_eq_true c2) ?_; wp_walk using wpAny_loadPart' hl))
    exact ⟨_, rfl, h⟩
/-- t * 1, t * 0 -/
def rRepS (K : PySem.W.Frag) : R2 := fun x y H Q => ∃ l xs, x = .ref l ∧ SqT K H l xs ∧ xs ≠ [] ∧ ((y = .int 1 ∧ Q (.ref l) H) ∨ (y = .int 0 ∧ ∀ p, H p = none → Q (.ref p) (upd H p (.tup []))))
section
variable {X : Cx}
theorem op_repS : OpR X (binaryOp .Mult) (rRepS X.K) := by
  intro pins s σ H x y v u Q I rx ry h
  obtain ⟨l, xs, rfl, hT, hne, h⟩ := h
  cases rx
  obtain ⟨its, r, ⟨⟨cls, dd, data, sl⟩, ho, hc, n, hd⟩, hs⟩ := I.tuple hT
  simp only at hc hd
  subst hc hd
  have hle : its.length = xs.length := r.length.symm
  have hi : its.toArray.isEmpty = false := by
    cases its with
    | nil => exact absurd (List.eq_nil_of_length_eq_zero hle.symm) hne
    | cons a b => rfl
  rcases h with ⟨rfl, q⟩ | ⟨rfl, q⟩
  · obtain ⟨t, rfl⟩ := ry
    refine wpAny_binaryOp_repeat_ref (T := "tuple") (U := "int") (by decide) ⟨_, ho, rfl⟩ (fun s' => typeIs_int s' 1 t) noFill_tuple_mul F.fills_int_mul F.slot_int_rmul repeat_tuple F.slot_int_index.lookup
      (call_meets F.slot_int_rmul (typeIs_int s 1 t) F.entry_int_rmul (F.args_int_rmul_2 _ _) (int_rmul_tuple 1 t l its.toArray n dd sl)
        ⟨ho, rfl, ⟨_, ho, rfl⟩, call_meets F.slot_tuple_mul ⟨_, ho, rfl⟩ F.entry_tuple_mul (F.args_tuple_mul_2 _ _) (tuple_mul1 l its.toArray n dd sl t) ⟨ho, ?_⟩⟩)
    exact ⟨.ref l, H, I, rfl, q⟩
  · obtain ⟨t, rfl⟩ := ry
    refine wpAny_binaryOp_repeat_ref (T := "tuple") (U := "int") (by decide) ⟨_, ho, rfl⟩ (fun s' => typeIs_int s' 0 t) noFill_tuple_mul F.fills_int_mul F.slot_int_rmul repeat_tuple F.slot_int_index.lookup
      (call_meets F.slot_int_rmul (typeIs_int s 0 t) F.entry_int_rmul (F.args_int_rmul_2 _ _) (int_rmul_tuple 0 t l its.toArray n dd sl)
        ⟨ho, rfl, ⟨_, ho, rfl⟩, call_meets F.slot_tuple_mul ⟨_, ho, rfl⟩ F.entry_tuple_mul (F.args_tuple_mul_2 _ _) (tuple_mul0 l its.toArray n dd sl t hi) ⟨ho, ?_⟩⟩)
    exact ⟨.ref s.heap.objs.size, _, I.laid (t' := s.toks) (o := .tup []) (fun b ob q => Heap.get?_push_of_some _ q) (Nat.le_refl _) ⟨Nat.zero_le _, [], .nil, IsTup.new _ _⟩, rfl, q _ (I.hok.fresh (Nat.le_refl _))⟩
end
end L2
namespace DY
open PySem PySem.Spec PyProof.Rows L2
abbrev s_law : Stmt := topS 86
abbrev N_law : List Str := ["_law_script", "_law_feed_here", "_law_names_here", "_law_yard", "_law_m", "_law_kind", "_law_most", "_law_deeds", "_law_one", "_law_gone", "_law_deed", "_law_k"]
theorem sc_law : FnScope N_law ["_law_script"] (defScope s_law) := ⟨rfl, rfl, rfl, by decide +kernel, rfl, by decide +kernel, by decide +kernel⟩
theorem cutM (xs : List V) {a b : Nat} (h1 : a ≤ b) (h2 : b ≤ xs.length) : cutV xs (some (a : Int)) (some (b : Int)) = (xs.drop a).take (b - a) := by
  unfold cutV
  rw [show HT.sIx xs.length 0 (some (a : Int)) = min a xs.length from HT.sIx_nat xs.length 0 a, show HT.sIx xs.length xs.length (some (b : Int)) = min b xs.length from HT.sIx_nat xs.length xs.length b, Nat.min_eq_left h2, Nat.min_eq_left (by omega)]
theorem Fr.list {C : Addr} {B : YA} {H H' : Hp} {Y : Yd} {p : Addr} {xs : List V} (f : Fr B H H') (hy : IsY C B H Y) (e : H p = some (.lst xs)) : H' p = some (.lst xs) := by
  obtain ⟨k1, e1, _⟩ := hy.bo
  obtain ⟨k2, e2, _⟩ := hy.tr
  obtain ⟨k3, e3, _⟩ := hy.sa
  obtain ⟨k4, e4, _⟩ := hy.co
  exact f.fr p _ e (ne_of e e1 (fun z => nomatch z)) (ne_of e e2 (fun z => nomatch z)) (ne_of e e3 (fun z => nomatch z)) (ne_of e e4 (fun z => nomatch z))
theorem paired_app {α β : Type} {R : α → β → Prop} : ∀ {a a' : List α} {b b' : List β}, Paired R a b → Paired R a' b' → Paired R (a ++ a') (b ++ b')
  | _, _, _, _, .nil, h => h
  | _, _, _, _, .cons h t, h2 => .cons h (paired_app t h2)
theorem paired_mono' {α β : Type} {F G : α → β → Prop} (h : ∀ u v, F u v → G u v) : ∀ {a : List α} {b : List β}, Paired F a b → Paired G a b
  | _, _, .nil => .nil
  | _, _, .cons x t => .cons (h _ _ x) (paired_mono' h t)
abbrev DR (H : Hp) (v : V) (d : Deed) : Prop := ∃ p, v = V.ref p ∧ H p = some (.tup (.str (dW d) :: dR d))
theorem dl_keep {H H' : Hp} (s : TS H H') {us : List V} {ds : List Deed} (h : Paired (DR H) us ds) : Paired (DR H') us ds := paired_mono' (fun _ _ ⟨p, e1, e2⟩ => ⟨p, e1, s _ _ e2⟩) h
theorem paired_at {α β : Type} {R : α → β → Prop} : ∀ {a : List α} {b : List β}, Paired R a b → ∀ (i : Nat) (x : α), a[i]? = some x → ∃ y, b[i]? = some y ∧ R x y
  | _, _, .nil, i, x, h => by cases h
  | _, _, .cons r t, 0, x, h => by cases h; exact ⟨_, rfl, r⟩
  | _, _, .cons r t, i + 1, x, h => paired_at t i x h
theorem fl_cut (z : Nat → Str) (e : Int) (p : Nat → Int) (g : Int) (kind k : Nat) : cutV (.str (dW (fillD z e p g kind k)) :: dR (fillD z e p g kind k)) none (some 1) = [.str (dW (fillD z e p g kind k))] ∧ ∃ rest, cutV (.str (dW (fillD z e p g kind k)) :: dR (fillD z e p g kind k)) (some 2) none = rest ∧ rest ≠ [] ∧ rest.length ≤ 4 ∧ [.str (dW (fillD z e p g kind k))] ++ [V.str "A"] ++ rest = .str (dW (badD z e p g kind k)) :: dR (badD z e p g kind k) := by
  match kind with
  | 0 => exact ⟨rfl, _, rfl, (fun x => nomatch x), by show 3 ≤ 4; decide, rfl⟩
  | 1 => exact ⟨rfl, _, rfl, (fun x => nomatch x), by show 4 ≤ 4; decide, rfl⟩
  | 2 => exact ⟨rfl, _, rfl, (fun x => nomatch x), by show 3 ≤ 4; decide, rfl⟩
  | _ + 3 => exact ⟨rfl, _, rfl, (fun x => nomatch x), by show 3 ≤ 4; decide, rfl⟩
theorem fl_n1 (z : Nat → Str) (e : Int) (p : Nat → Int) (g : Int) (kind k : Nat) : ¬ (HT.sIx (V.str (dW (fillD z e p g kind k)) :: dR (fillD z e p g kind k)).length 0 none = 0 ∧ HT.sIx (V.str (dW (fillD z e p g kind k)) :: dR (fillD z e p g kind k)).length (V.str (dW (fillD z e p g kind k)) :: dR (fillD z e p g kind k)).length (some 1) = (V.str (dW (fillD z e p g kind k)) :: dR (fillD z e p g kind k)).length) := by
  rintro ⟨_, x⟩
  revert x
  match kind with
  | 0 => exact show ¬ ((1 : Nat) = 5) by decide
  | 1 => exact show ¬ ((1 : Nat) = 6) by decide
  | 2 => exact show ¬ ((1 : Nat) = 5) by decide
  | _ + 3 => exact show ¬ ((1 : Nat) = 5) by decide
theorem fl_n2 (z : Nat → Str) (e : Int) (p : Nat → Int) (g : Int) (kind k : Nat) : ¬ (HT.sIx (V.str (dW (fillD z e p g kind k)) :: dR (fillD z e p g kind k)).length 0 (some 2) = 0 ∧ HT.sIx (V.str (dW (fillD z e p g kind k)) :: dR (fillD z e p g kind k)).length (V.str (dW (fillD z e p g kind k)) :: dR (fillD z e p g kind k)).length none = (V.str (dW (fillD z e p g kind k)) :: dR (fillD z e p g kind k)).length) := by
  rintro ⟨x, _⟩
  revert x
  match kind with
  | 0 => exact show ¬ ((2 : Nat) = 0) by decide
  | 1 => exact show ¬ ((2 : Nat) = 0) by decide
  | 2 => exact show ¬ ((2 : Nat) = 0) by decide
  | _ + 3 => exact show ¬ ((2 : Nat) = 0) by decide
/-- a list of deeds that grows -/
structure DLs (H0 H : Hp) (l : Addr) (ds : List Deed) : Prop where
  sm : Same H0 H
  nw : H0 l = none
  ex : ∃ us, H l = some (.lst us) ∧ Paired (DR H) us ds ∧ us.length ≤ 100
theorem DLs.keep {H0 H H' : Hp} {l : Addr} {ds : List Deed} (h : DLs H0 H l ds) (s : Same H H') : DLs H0 H' l ds := by
  obtain ⟨sm, nw, us, e, p, n⟩ := h
  exact ⟨sm.trans s, nw, us, s _ _ e, dl_keep (.of s) p, n⟩
theorem DLs.add {H0 H : Hp} {l : Addr} {ds : List Deed} {us : List V} {p : Addr} {d : Deed} (sm : Same H0 H) (nw : H0 l = none) (e : H l = some (.lst us)) (pr : Paired (DR H) us ds) (n : us.length < 60) (ep : H p = some (.tup (.str (dW d) :: dR d))) : DLs H0 (upd H l (.lst (us ++ [.ref p]))) l (ds ++ [d]) := by
  have ts : TS H (upd H l (.lst (us ++ [.ref p]))) := .upd fun xs z => by rw [e] at z; cases z
  refine ⟨fun b o x => ?_, nw, us ++ [.ref p], upd_same, paired_app (dl_keep ts pr) (.cons ⟨p, rfl, ts _ _ ep⟩ .nil), by rw [List.length_append]; show _ + 1 ≤ _; omega⟩
  rw [upd_ne (ne_of_none x nw)]
  exact sm _ _ x
theorem tab_of {z : Nat → Str} {e : Int} {p : Nat → Int} {g : Int} {M : MA} {H : Hp} {kind : Nat} {I : List Nat} (hm : IsM M H (fil z e p g kind I)) (hk : kind < 4) : ∃ (ws : Str) (tbl : Addr) (kvs : List (Key × V)), atI ([.str "trestles", .str "boards", .str "sacks", .str "cords"] : List V) ((kind : Nat) : Int) = some (.str ws) ∧ valV (kvM M) (Sum.inr ws) = some (.ref tbl) ∧ H tbl = some (.dK kvs) ∧ kvs.length = I.length := by
  match kind, hk, hm with
  | 0, _, hm =>
    obtain ⟨k1, e1, r1⟩ := hm.tr
    exact ⟨_, _, _, atI_nat (j := 0) rfl, vt M, e1, r1.len.trans (List.length_map _)⟩
  | 1, _, hm =>
    obtain ⟨k1, e1, r1⟩ := hm.bo
    exact ⟨_, _, _, atI_nat (j := 1) rfl, vb M, e1, r1.len.trans (List.length_map _)⟩
  | 2, _, hm =>
    obtain ⟨k1, e1, r1⟩ := hm.sa
    exact ⟨_, _, _, atI_nat (j := 2) rfl, vs M, e1, r1.len.trans (List.length_map _)⟩
  | 3, _, hm =>
    obtain ⟨k1, e1, r1⟩ := hm.co
    exact ⟨_, _, _, atI_nat (j := 3) rfl, vc M, e1, r1.len.trans (List.length_map _)⟩
structure LW (K : PySem.W.Frag) (mg : Str → Option Value) where
  n_range : mg "range" = none
  n_int : mg "int" = none
  n_len : mg "len" = none
  d__law_feed : DefF K mg "_law_feed" s__law_feed ["_law_script", "_law_many"]
  d__law_names : DefF K mg "_law_names" s__law_names ["_law_d", "_law_many"]
  d__law_model : DefF K mg "_law_model" s__law_model []
  d__law_filling : DefF K mg "_law_filling" s__law_filling ["_law_kind", "_law_names_here", "_law_k", "_law_feed_here"]
  d__law_turn : DefF K mg "_law_turn" s__law_turn ["_law_yard", "_law_m", "_law_deed"]
  d__law_yard_is : DefF K mg "_law_yard_is" s__law_yard_is ["_law_yard", "_law_m"]
  d_law : DefF K mg "law" s_law ["_law_script"]
def spLaw (K : PySem.W.Frag) : Sp := fun vs H Q _ => ∃ (a : Addr) (ns : List Int), vs = [.ref a] ∧ SqL K H a (ns.map V.int) ∧ ∀ H', Q (.bl true) H'
theorem zs_of {zs : List Str} {fs : List Int} (zl : zs.length = 24) (zn : ∀ z ∈ zs, isName z = true) (nd : zs.Nodup) (fl : fs.length = 60) (fd : Fd fs) : Zs (zAt zs) (fAt fs 7 % 10) (fun k => fAt fs (9 + k) % 91) (1 + fAt fs 8) := by
  have za : ∀ i (h : i < 24), zAt zs i = zs[i]'(by omega) := fun i h => by unfold zAt; rw [List.getElem?_eq_getElem (by omega), Option.getD_some]
  refine ⟨fun i hi => ?_, fun i j hi hj x => ?_, ?_, fun k => ?_, ?_⟩
  · rw [za i hi]; exact zn _ (List.getElem_mem _)
  · rw [za i hi, za j hj] at x
    rcases Nat.lt_trichotomy i j with y | y | y
    · exact absurd x (List.pairwise_iff_getElem.mp nd i j (by omega) (by omega) y)
    · exact y
    · exact absurd x.symm (List.pairwise_iff_getElem.mp nd j i (by omega) (by omega) y)
  · have := modB (fAt fs 7) (n := 10) (by decide); omega
  · have := modB (fAt fs (9 + k)) (n := 91) (by decide); show 0 ≤ fAt fs (9 + k) % 91 ∧ fAt fs (9 + k) % 91 ≤ 90; omega
  · have : fAt fs 8 ∈ fs := by unfold fAt; rw [List.getElem?_eq_getElem (by omega), Option.getD_some]; exact List.getElem_mem _
    have := fd _ this
    omega
theorem deeds_ok {z : Nat → Str} {e : Int} {p : Nat → Int} {g : Int} (h : Zs z e p g) {kind d q : Nat} (hd : d ≤ 9) (hq : q ≤ 9) : ∀ x ∈ allD z e p g kind d q, dOk x := by
  have N : ∀ i, i < 24 → Nm (z i) := fun i hi => nm_of_name (h.ok i hi)
  have n0 : Nm ("" : Str) := ⟨by decide, by decide +kernel⟩
  have nA : Nm ("A" : Str) := ⟨by decide, by decide +kernel⟩
  have m8 := most8 kind
  have up : ∀ k, Nm (upZ z k) := fun k => by unfold upZ; split; exact n0; exact N 22 (by omega)
  have fo : ∀ k, k ≤ 9 → dOk (fillD z e p g kind k) := fun k hk => by
    unfold fillD
    split
    · exact N k (by omega)
    · exact N k (by omega)
    · exact ⟨N k (by omega), N _ (by omega)⟩
    · exact ⟨N k (by omega), up k, N 23 (by omega)⟩
  intro x hx
  unfold allD at hx
  simp only [List.mem_append, List.mem_map, List.mem_range, List.mem_cons, List.not_mem_nil, or_false] at hx
  rcases hx with hx | ⟨k, hk, rfl⟩ | rfl | rfl | rfl | (rfl | rfl) | hx
  · unfold preD at hx
    split at hx
    · cases hx
    · simp only [List.mem_cons, List.not_mem_nil, or_false] at hx
      rcases hx with rfl | rfl
      · exact N 22 (by omega)
      · exact N 23 (by omega)
  · exact fo k (by omega)
  · unfold badD
    split
    · exact nA
    · exact nA
    · exact ⟨nA, N _ (by omega)⟩
    · exact ⟨nA, up _, N 23 (by omega)⟩
  · exact fo _ hd
  · unfold goneD
    split <;> exact N q (by omega)
  · exact fo _ (by omega)
  · exact fo _ (by omega)
  · unfold lastD at hx
    split at hx
    · rw [List.mem_singleton.mp hx]; exact N _ (by omega)
    · rw [List.mem_singleton.mp hx]; exact N _ (by omega)
    · cases hx
section
variable {P : Program} {w : World} {K : PySem.W.Frag} {mg : Str → Option Value} {base : Heap}
theorem ok_law {C fI : Addr} {fdI : FuncData} (T : LW K mg) (MK : Mk K C fI) (GI : FnOk P w K mg base CX0 1 fI fdI ["self"] (spInit C)) (gY : mg "Yard" = some (.ref C)) (bI : Binds K fdI ["self"] [])
    (G__law_feed : FnOk P w K mg base CX0 1 T.d__law_feed.a T.d__law_feed.d ["_law_script", "_law_many"] (spFeed K))
    (G__law_names : FnOk P w K mg base CX0 1 T.d__law_names.a T.d__law_names.d ["_law_d", "_law_many"] spNames)
    (G__law_model : FnOk P w K mg base CX0 1 T.d__law_model.a T.d__law_model.d [] spModel)
    (G__law_filling : FnOk P w K mg base CX0 1 T.d__law_filling.a T.d__law_filling.d ["_law_kind", "_law_names_here", "_law_k", "_law_feed_here"] spFill)
    (G__law_turn : FnOk P w K mg base CX0 7 T.d__law_turn.a T.d__law_turn.d ["_law_yard", "_law_m", "_law_deed"] (spTurn C))
    (G__law_yard_is : FnOk P w K mg base CX0 5 T.d__law_yard_is.a T.d__law_yard_is.d ["_law_yard", "_law_m"] (spYI C)) :
    FnOk P w K mg base CX0 8 T.d_law.a T.d_law.d ["_law_script"] (spLaw K) := by
  refine T.d_law.F.ok sc_law (fun vs H Q E h => ?_) (fun cdv A outer s H vs Q E hr h => ?_)
  · obtain ⟨_, _, rfl, _⟩ := h
    rfl
  · obtain ⟨a, ns, rfl, hA, q⟩ := h
    have hu := hu_of hr
    refine ⟨_, pss_cons (ps_set (i := 1) sc_law.nd rfl (Or.inr rfl) (pe_call G__law_feed (hr.mono (by decide)) (by rfl) T.d__law_feed.g T.d__law_feed.F.kp T.d__law_feed.b .nil pass0 (pa_cons (pv 0) (pa_cons pe_int pa_nil))))
      (pss_cons (ps_set (i := 2) sc_law.nd rfl (Or.inr rfl) (pe_call G__law_names (hr.mono (by decide)) (by rfl) T.d__law_names.g T.d__law_names.F.kp T.d__law_names.b .nil pass0 (pa_cons (pe_slice sl_list (pv 1) (po_some pe_int) (po_some pe_int)) (pa_cons pe_int pa_nil))))
      (pss_cons (ps_set (i := 3) sc_law.nd rfl (Or.inl rfl) (pe_make0 MK GI (hr.mono (by decide)) (by rfl) gY bI .nil pass0))
      (pss_cons (ps_set (i := 4) sc_law.nd rfl (Or.inl rfl) (pe_call0 G__law_model (hr.mono (by decide)) (by rfl) T.d__law_model.g T.d__law_model.F.kp T.d__law_model.b .nil pass0))
      (pss_cons (ps_set (i := 5) sc_law.nd rfl (Or.inr rfl) (pe_op op_mod (pe_ix ix_list (pv 1) pe_int (fun _ _ => rfl)) pe_int))
      (pss_cons (ps_set (i := 6) sc_law.nd rfl (Or.inl rfl) (pe_ix ix_list (pe_lst (pa_cons pe_int (pa_cons pe_int (pa_cons pe_int (pa_cons pe_int pa_nil))))) (pv 5) (fun _ _ => rfl)))
      (pss_cons (ps_set (i := 7) sc_law.nd rfl (Or.inl rfl) (pe_slice sl_list (pe_lst (pa_cons (pe_tup (pa_cons pe_str (pa_cons (pe_ix ix_list (pv 2) pe_int (fun _ _ => rfl)) (pa_cons pe_int (pa_cons pe_int (pa_cons pe_int (pa_cons pe_int pa_nil))))))) (pa_cons (pe_tup (pa_cons pe_str (pa_cons (pe_ix ix_list (pv 2) pe_int (fun _ _ => rfl)) (pa_cons pe_int (pa_cons pe_int (pa_cons pe_int (pa_cons pe_int pa_nil))))))) pa_nil))) po_none (po_some (pe_op op_mul pe_int (pe_callTy call_int1 (by rfl) T.n_int (by decide +kernel) (pa_cons (pe_cmpR op_gt (pv 5) pe_int (nomark _)) pa_nil))))))
      (pss_cons (ps_set (i := 7) sc_law.nd rfl (Or.inl rfl) (pe_op op_cat (pv 7) (pe_lc (own := [("_law_k", 11)]) (g := (gName 11)) (tt := tYes) (by rfl) sc_law.nd (pi_range1 rfl T.n_range (pa_cons (pe_op op_add (pv 6) pe_int) pa_nil)) (blkOk_by (N := N_law) (sc := defScope s_law) (by decide +kernel)) (fun _ _ _ _ _ => (pg_name (i := 11) sc_law.nd rfl (Or.inl rfl))) (fun _ _ _ _ _ => pts_nil) (fun _ _ _ _ _ => (pe_call G__law_filling (hr.mono (by decide)) (by rfl) T.d__law_filling.g T.d__law_filling.F.kp T.d__law_filling.b .nil pass0 (pa_cons (pv 5) (pa_cons (pv 2) (pa_cons (pv 11) (pa_cons (pv 1) pa_nil)))))))))
      (pss_cons (ps_set (i := 8) sc_law.nd rfl (Or.inl rfl) (pe_call G__law_filling (hr.mono (by decide)) (by rfl) T.d__law_filling.g T.d__law_filling.F.kp T.d__law_filling.b .nil pass0 (pa_cons (pv 5) (pa_cons (pv 2) (pa_cons (pv 6) (pa_cons (pv 1) pa_nil))))))
      (pss_cons (ps_expr (pe_bm PySem.F.plainAttrs_list PySem.F.slot_list_append PySem.F.type_list_append mt_append (pv 7) (pa_cons (pe_op (r := rCatT K) op_catT (pe_op (r := rCatT K) op_catT (pe_slice sl_tup (pv 8) po_none (po_some pe_int)) (pe_tup (pa_cons pe_str pa_nil))) (pe_slice sl_tup (pv 8) (po_some pe_int) po_none)) pa_nil)))
      (pss_cons (ps_expr (pe_bm PySem.F.plainAttrs_list PySem.F.slot_list_append PySem.F.type_list_append mt_append (pv 7) (pa_cons (pe_call G__law_filling (hr.mono (by decide)) (by rfl) T.d__law_filling.g T.d__law_filling.F.kp T.d__law_filling.b .nil pass0 (pa_cons (pv 5) (pa_cons (pv 2) (pa_cons (pe_op op_mod (pe_ix ix_list (pv 1) pe_int (fun _ _ => rfl)) (pv 6)) (pa_cons (pv 1) pa_nil))))) pa_nil)))
      (pss_cons (ps_set (i := 9) sc_law.nd rfl (Or.inl rfl) (pe_ix ix_list (pv 2) (pe_op op_mod (pe_ix ix_list (pv 1) pe_int (fun _ _ => rfl)) (pv 6)) (fun _ _ => rfl)))
      (pss_cons (ps_expr (pe_bm PySem.F.plainAttrs_list PySem.F.slot_list_append PySem.F.type_list_append mt_append (pv 7) (pa_cons (pe_ix ix_list (pe_lst (pa_cons (pe_tup (pa_cons pe_str (pa_cons (pv 9) pa_nil))) (pa_cons (pe_tup (pa_cons pe_str (pa_cons (pv 9) pa_nil))) (pa_cons (pe_tup (pa_cons pe_str (pa_cons (pv 9) pa_nil))) (pa_cons (pe_tup (pa_cons pe_str (pa_cons (pv 9) pa_nil))) pa_nil))))) (pv 5) (fun _ _ => rfl)) pa_nil)))
      (pss_cons (ps_set (i := 7) sc_law.nd rfl (Or.inl rfl) (pe_op op_cat (pv 7) (pe_lst (pa_cons (pe_call G__law_filling (hr.mono (by decide)) (by rfl) T.d__law_filling.g T.d__law_filling.F.kp T.d__law_filling.b .nil pass0 (pa_cons (pv 5) (pa_cons (pv 2) (pa_cons (pv 6) (pa_cons (pv 1) pa_nil))))) (pa_cons (pe_call G__law_filling (hr.mono (by decide)) (by rfl) T.d__law_filling.g T.d__law_filling.F.kp T.d__law_filling.b .nil pass0 (pa_cons (pv 5) (pa_cons (pv 2) (pa_cons (pe_op op_add (pv 6) pe_int) (pa_cons (pv 1) pa_nil))))) pa_nil)))))
      (pss_cons (ps_if (pt_cmpR op_lt (pv 5) pe_int (nomark _)) (pss_one (ps_expr (pe_bm PySem.F.plainAttrs_list PySem.F.slot_list_append PySem.F.type_list_append mt_append (pv 7) (pa_cons (pe_op (r := rCatT K) op_catT (pe_op (r := rCatT K) op_catT (pe_slice sl_tup (pe_call G__law_filling (hr.mono (by decide)) (by rfl) T.d__law_filling.g T.d__law_filling.F.kp T.d__law_filling.b .nil pass0 (pa_cons (pv 5) (pa_cons (pv 2) (pa_cons (pe_op op_add (pv 6) pe_int) (pa_cons (pv 1) pa_nil))))) po_none (po_some pe_int)) (pe_tup (pa_cons pe_int (pa_cons pe_int pa_nil)))) (pe_op op_repS (pe_tup (pa_cons pe_int pa_nil)) (pv 5))) pa_nil)))) pss_nil)
      (pss_cons (ps_for PassesOwn.never rfl (pi_list (pv 7)) (pg_name (i := 10) sc_law.nd rfl (Or.inl rfl))
        (pss_cons (ps_set (i := 4) sc_law.nd rfl (Or.inl rfl) (pe_call G__law_turn (hr.mono (by decide)) (by rfl) T.d__law_turn.g T.d__law_turn.F.kp T.d__law_turn.b .nil pass0 (pa_cons (pv 3) (pa_cons (pv 4) (pa_cons (pv 10) pa_nil)))))
      (pss_one (ps_if (PW.pt (pw_or (pt_cmpR op_isN (pv 4) pe_non (nomark _)) (pw_or1 (pt_not (pt_val (pe_call G__law_yard_is (hr.mono (by decide)) (by rfl) T.d__law_yard_is.g T.d__law_yard_is.F.kp T.d__law_yard_is.b .nil pass0 (pa_cons (pv 3) (pa_cons (pv 4) pa_nil)))))))) (pss_one (ps_ret pe_bl)) pss_nil))))
      (pss_one (ps_ret (pe_cmpR op_eq (pe_callB call_lenD (by rfl) T.n_len (by decide +kernel) (pa_cons (pe_dget hu (pv 4) (pe_ix ix_list (pe_lst (pa_cons pe_str (pa_cons pe_str (pa_cons pe_str (pa_cons pe_str pa_nil))))) (pv 5) (fun _ _ => rfl)) (fun _ _ => rfl)) pa_nil)) (pv 6) (nomark _))))))))))))))))))), ?_⟩
    refine ⟨_, rfl, a, ns, 60, rfl, hA, by decide, fun H1 f fs s1 nf ef fl hfd => ?_⟩
    refine ⟨_, rfl, 2, rfl, 6, rfl, f, _, rfl, SqL.of ef, fun p np => ?_⟩
    have c26 : cutV (fs.map V.int) (some 2) (some 6) = ((fs.drop 2).take 4).map V.int := by
      rw [show (some 2 : Option Int) = some ((2 : Nat) : Int) from rfl, show (some 6 : Option Int) = some ((6 : Nat) : Int) from rfl, cutM _ (by decide) (by rw [List.length_map]; omega), List.map_take, List.map_drop]
    rw [c26]
    have s2 := same_upd (o := .lst (((fs.drop 2).take 4).map V.int)) np
    have ep := upd_same (H := H1) (a := p) (o := .lst (((fs.drop 2).take 4).map V.int))
    generalize upd H1 p (.lst (((fs.drop 2).take 4).map V.int)) = H2 at s2 ep ⊢
    refine ⟨p, _, 24, rfl, ep, by rw [List.length_take, List.length_drop]; omega, by decide, fun zs n H3 s3 nn en zl zn znd => ?_⟩
    have ef3 := s3 _ _ (s2 _ _ ef)
    intro x dx nx ndx hne
    refine ⟨x, dx, rfl, upd_same, fun B H5 ey nb nt ns' nc fr hy => ⟨rfl, ?_⟩⟩
    have old : ∀ b o, H3 b = some o → H5 b = some o := fun b o e => by
      refine fr b o ?_ (ne_of_none e nx)
      rw [upd_ne (ne_of_none e nx), upd_ne (ne_of_none e ndx)]
      exact e
    subst ey
    refine ⟨rfl, fun M H6 s6 nw hm => ?_⟩
    have ef6 := s6 _ _ (old _ _ ef3)
    have en6 := s6 _ _ (old _ _ en)
    have hZ := zs_of zl zn (znd (by decide)) fl hfd
    have f0 := f_at (fs := fs) (i := 0) (by omega)
    have f1 := f_at (fs := fs) (i := 1) (by omega)
    have f6 := f_at (fs := fs) (i := 6) (by omega)
    have z22 := z_at (zs := zs) (i := 22) (by omega)
    have z23 := z_at (zs := zs) (i := 23) (by omega)
    have m4 := modB (fAt fs 0) (n := 4) (by decide)
    obtain ⟨kind, ek⟩ := Int.eq_ofNat_of_zero_le m4.1
    have hk4 : kind < 4 := by omega
    obtain ⟨mo4, mo8⟩ := most8 kind
    refine ⟨_, rfl, f, _, _, _, rfl, rfl, SqL.of ef6, f0, _, _, rfl, rfl, by show (0 : Int) < 4; decide, ?_⟩
    show gName 5 (V.int (fAt fs 0 % 4)) _ _ _
    rw [ek]
    have hat : atI ([.int 6, .int 6, .int 8, .int 4] : List V) ((kind : Nat) : Int) = some (.int ((most kind : Nat) : Int)) := by
      match kind, hk4 with
      | 0, _ => exact atI_nat (j := 0) rfl
      | 1, _ => exact atI_nat (j := 1) rfl
      | 2, _ => exact atI_nat (j := 2) rfl
      | 3, _ => exact atI_nat (j := 3) rfl
    refine ⟨by show 4 ≤ sizeLine; decide, fun t nt => ?_⟩
    have sa := same_upd (o := .lst [.int 6, .int 6, .int 8, .int 4]) nt
    have ea := upd_same (H := H6) (a := t) (o := .lst [.int 6, .int 6, .int 8, .int 4])
    generalize upd H6 t (.lst [.int 6, .int 6, .int 8, .int 4]) = Ha at sa ea ⊢
    refine ⟨_, rfl, t, _, _, _, rfl, rfl, SqL.of ea, hat, ?_⟩
    refine ⟨_, rfl, n, _, _, _, rfl, rfl, SqL.of (sa _ _ en6), z22, by show 6 ≤ sizeLine; decide, fun t1 n1 => ?_⟩
    have sb := same_upd (o := .tup (.str "board" :: dR (.boa (zAt zs 22) 5 0 90 3))) n1
    have eb := upd_same (H := Ha) (a := t1) (o := .tup (.str "board" :: dR (.boa (zAt zs 22) 5 0 90 3)))
    rw [show ([.str "board", .str (zAt zs 22), .int 5, .int 0, .int 90, .int 3] : List V) = .str "board" :: dR (.boa (zAt zs 22) 5 0 90 3) from rfl]
    generalize upd Ha t1 (.tup (.str "board" :: dR (.boa (zAt zs 22) 5 0 90 3))) = Hb at sb eb ⊢
    refine ⟨_, rfl, n, _, _, _, rfl, rfl, SqL.of (sb _ _ (sa _ _ en6)), z23, by show 6 ≤ sizeLine; decide, fun t2 n2 => ?_⟩
    have sc := same_upd (o := .tup (.str "board" :: dR (.boa (zAt zs 23) 4 0 90 3))) n2
    have ec := upd_same (H := Hb) (a := t2) (o := .tup (.str "board" :: dR (.boa (zAt zs 23) 4 0 90 3)))
    rw [show ([.str "board", .str (zAt zs 23), .int 4, .int 0, .int 90, .int 3] : List V) = .str "board" :: dR (.boa (zAt zs 23) 4 0 90 3) from rfl]
    generalize upd Hb t2 (.tup (.str "board" :: dR (.boa (zAt zs 23) 4 0 90 3))) = Hc at sc ec ⊢
    refine ⟨by show 2 ≤ sizeLine; decide, fun l1 nl1 => ?_⟩
    have sd := same_upd (o := .lst [.ref t1, .ref t2]) nl1
    have ed := upd_same (H := Hc) (a := l1) (o := .lst [.ref t1, .ref t2])
    generalize upd Hc l1 (.lst [.ref t1, .ref t2]) = Hd at sd ed ⊢
    refine ⟨_, rfl, _, _, rfl, rfl, .inr ⟨_, rfl, _, _, rfl, rfl, .inl ⟨by decide, by decide⟩, _, rfl, l1, _, rfl, SqL.of ed, fun l2 nl2 => ?_⟩⟩
    obtain ⟨us0, hus0, dl0⟩ : ∃ us, cutV ([.ref t1, .ref t2] : List V) none (some (2 * (if decide ((1 : Int) < ((kind : Nat) : Int)) = true then 1 else 0))) = us ∧ Paired (DR Hd) us (preD (zAt zs) kind) := by
      refine ⟨_, rfl, ?_⟩
      unfold preD
      by_cases hk : kind ≤ 1
      · rw [if_pos hk, decide_eq_false (by omega)]
        exact .nil
      · rw [if_neg hk, decide_eq_true (by omega)]
        exact .cons ⟨t1, rfl, sd _ _ (sc _ _ eb)⟩ (.cons ⟨t2, rfl, sd _ _ ec⟩ .nil)
    rw [hus0]
    have l0 : us0.length ≤ 2 := by
      have := Paired.length dl0
      unfold preD at this
      split at this
      · rw [this]; exact Nat.zero_le _
      · rw [this]; exact Nat.le_refl _
    have s6d := sa.trans (sb.trans (sc.trans sd))
    have nl2' : H6 l2 = none := s6d.free nl2
    have se := same_upd (o := .lst us0) nl2
    have ee := upd_same (H := Hd) (a := l2) (o := .lst us0)
    generalize upd Hd l2 (.lst us0) = He at se ee ⊢
    have s6e := s6d.trans se
    have dl0 := dl_keep (.of se) dl0
    clear hus0 ea eb ec ed
    refine ⟨_, rfl, _, rfl, _, _, rfl, rfl, _, rfl, by omega, by omega, fun D nD => ?_⟩
    refine lc_range (lo := 0) (n := (((most kind : Nat) : Int) + 1).toNat) (fun i H' => Same He H' ∧ ∃ us, H' D = some (.lst us) ∧ us.length = i ∧ Paired (DR H') us ((List.range i).map (flD zs fs kind))) ⟨same_upd nD, [], upd_same, rfl, .nil⟩ (fun i H' hi p => ?_) (fun H' p => ?_)
    · obtain ⟨p1, us, eD, lu, pr⟩ := p
      have s0 := s6e.trans p1
      refine ⟨rfl, yes (iteT ?_)⟩
      refine ⟨_, rfl, _, rfl, _, rfl, _, rfl, n, f, zs, fs, kind, i, (by rw [Int.zero_add]; rfl), s0 _ _ en6, zl, s0 _ _ ef6, fl, hk4, by omega, fun pp Hx sx ex => ?_⟩
      have ts : TS Hx (upd Hx D (.lst (us ++ [.ref pp]))) := .upd fun xs z => by rw [sx _ _ eD] at z; cases z
      refine ⟨us, sx _ _ eD, small1000 (by omega), fun b o' x => ?_, us ++ [.ref pp], upd_same, by rw [List.length_append, lu]; rfl, ?_⟩
      · rw [upd_ne (ne_of_none x nD)]
        exact sx _ _ (p1 _ _ x)
      · rw [List.range_succ, List.map_append]
        exact paired_app (dl_keep ((TS.of sx).trans ts) pr) (.cons ⟨pp, rfl, ts _ _ ex⟩ .nil)
    · obtain ⟨p1, us1, eD, lu, pr1⟩ := p
      rw [show ((((most kind : Nat) : Int) + 1).toNat) = most kind + 1 by omega] at lu pr1
      have s0 := s6e.trans p1
      refine ⟨l2, D, us0, us1, rfl, rfl, p1 _ _ ee, eD, sm (by omega), fun l3 nl3 => ?_⟩
      have nl3' : H6 l3 = none := s0.free nl3
      have sf := same_upd (o := .lst (us0 ++ us1)) nl3
      have ef' := upd_same (H := H') (a := l3) (o := .lst (us0 ++ us1))
      have dl3 : DLs H6 (upd H' l3 (.lst (us0 ++ us1))) l3 (preD (zAt zs) kind ++ (List.range (most kind + 1)).map (flD zs fs kind)) := ⟨s0.trans sf, nl3', _, ef', paired_app (dl_keep ((TS.of p1).trans (.of sf)) dl0) (dl_keep (.of sf) pr1), by rw [List.length_append]; omega⟩
      have l3n : (us0 ++ us1).length ≤ 11 := by rw [List.length_append]; omega
      generalize upd H' l3 (.lst (us0 ++ us1)) = G0 at dl3 ef' sf ⊢
      generalize us0 ++ us1 = vs0 at l3n ef'
      obtain ⟨sg0, _, us, eus, prs, _⟩ := dl3
      obtain rfl : vs0 = us := by rw [ef'] at eus; cases eus; rfl
      -- one
      refine ⟨_, rfl, _, rfl, _, rfl, _, rfl, n, f, zs, fs, kind, most kind, rfl, sg0 _ _ en6, zl, sg0 _ _ ef6, fl, hk4, by omega, fun p1' G1 u1 e1 => ?_⟩
      obtain ⟨ct1, rest, ct2, rne, rl, efin⟩ := fl_cut (zAt zs) (fAt fs 7 % 10) (fun k => fAt fs (9 + k) % 91) (1 + fAt fs 8) kind (most kind)
      have e1 : G1 p1' = some (.tup (.str (dW (fillD (zAt zs) (fAt fs 7 % 10) (fun k => fAt fs (9 + k) % 91) (1 + fAt fs 8) kind (most kind))) :: dR (fillD (zAt zs) (fAt fs 7 % 10) (fun k => fAt fs (9 + k) % 91) (1 + fAt fs 8) kind (most kind)))) := e1
      have fn1 := fl_n1 (zAt zs) (fAt fs 7 % 10) (fun k => fAt fs (9 + k) % 91) (1 + fAt fs 8) kind (most kind)
      have fn2 := fl_n2 (zAt zs) (fAt fs 7 % 10) (fun k => fAt fs (9 + k) % 91) (1 + fAt fs 8) kind (most kind)
      refine ⟨.ref l3, rfl, .inl ⟨rfl, _, SqL.of (u1 _ _ ef')⟩, ?_⟩
      refine ⟨_, rfl, 1, rfl, p1', _, rfl, SqT.of e1, fn1, fun c1 nc1 => ?_⟩
      rw [ct1]
      have v1 := same_upd (o := .tup [.str (dW (fillD (zAt zs) (fAt fs 7 % 10) (fun k => fAt fs (9 + k) % 91) (1 + fAt fs 8) kind (most kind)))]) nc1
      have g1 := upd_same (H := G1) (a := c1) (o := .tup [.str (dW (fillD (zAt zs) (fAt fs 7 % 10) (fun k => fAt fs (9 + k) % 91) (1 + fAt fs 8) kind (most kind)))])
      generalize upd G1 c1 _ = G2 at v1 g1 ⊢
      refine ⟨by show 1 ≤ sizeLine; decide, fun c2 nc2 => ?_⟩
      have v2 := same_upd (o := .tup [.str "A"]) nc2
      have g2 := upd_same (H := G2) (a := c2) (o := .tup [.str "A"])
      generalize upd G2 c2 (.tup [.str "A"]) = G3 at v2 g2 ⊢
      refine ⟨c1, c2, _, _, rfl, rfl, SqT.of (v2 _ _ g1), SqT.of g2, (fun x => nomatch x), by show 1 + 1 ≤ sizeLine; decide, (fun x => nomatch x), fun _ c3 nc3 => ?_⟩
      have v3 := same_upd (o := .tup ([.str (dW (fillD (zAt zs) (fAt fs 7 % 10) (fun k => fAt fs (9 + k) % 91) (1 + fAt fs 8) kind (most kind)))] ++ [.str "A"])) nc3
      have g3 := upd_same (H := G3) (a := c3) (o := .tup ([.str (dW (fillD (zAt zs) (fAt fs 7 % 10) (fun k => fAt fs (9 + k) % 91) (1 + fAt fs 8) kind (most kind)))] ++ [.str "A"]))
      generalize upd G3 c3 _ = G4 at v3 g3 ⊢
      have v14 := v1.trans (v2.trans v3)
      refine ⟨_, rfl, 2, rfl, p1', _, rfl, SqT.of (v14 _ _ e1), fn2, fun c4 nc4 => ?_⟩
      rw [ct2]
      have v4 := same_upd (o := .tup rest) nc4
      have g4 := upd_same (H := G4) (a := c4) (o := .tup rest)
      generalize upd G4 c4 (.tup rest) = G5 at v4 g4 ⊢
      refine ⟨c3, c4, _, _, rfl, rfl, SqT.of (v4 _ _ g3), SqT.of g4, (fun x => nomatch x), sm (by show 2 + rest.length ≤ _; omega), (fun x => absurd x rne), fun _ c5 nc5 => ?_⟩
      rw [efin]
      have v5 := same_upd (o := .tup (.str (dW (badD (zAt zs) (fAt fs 7 % 10) (fun k => fAt fs (9 + k) % 91) (1 + fAt fs 8) kind (most kind))) :: dR (badD (zAt zs) (fAt fs 7 % 10) (fun k => fAt fs (9 + k) % 91) (1 + fAt fs 8) kind (most kind)))) nc5
      have g5 := upd_same (H := G5) (a := c5) (o := .tup (.str (dW (badD (zAt zs) (fAt fs 7 % 10) (fun k => fAt fs (9 + k) % 91) (1 + fAt fs 8) kind (most kind))) :: dR (badD (zAt zs) (fAt fs 7 % 10) (fun k => fAt fs (9 + k) % 91) (1 + fAt fs 8) kind (most kind))))
      generalize upd G5 c5 _ = G6 at v5 g5 ⊢
      have v06 := u1.trans (v14.trans (v4.trans v5))
      refine ⟨l3, _, _, rfl, rfl, v06 _ _ ef', small1000 (by omega), ?_⟩
      have D1 := DLs.add (sg0.trans v06) nl3' (v06 _ _ ef') (dl_keep (.of v06) prs) (by omega) g5
      generalize upd G6 l3 _ = J0 at D1 ⊢
      obtain ⟨sj0, _, us, ej0, pj0, lj0⟩ := D1
      have lj0 : us.length ≤ 12 := by
        have := Paired.length pj0
        rw [this, List.length_append, ← Paired.length prs]
        show _ + 1 ≤ _
        omega
      -- the one that is there
      have mp : (0 : Int) < ((most kind : Nat) : Int) := by omega
      obtain ⟨dd, edd⟩ := Int.eq_ofNat_of_zero_le (modB (fAt fs 1) mp).1
      have hdd : dd < most kind := by have := (modB (fAt fs 1) mp).2; omega
      obtain ⟨qq, eqq⟩ := Int.eq_ofNat_of_zero_le (modB (fAt fs 6) mp).1
      have hqq : qq < most kind := by have := (modB (fAt fs 6) mp).2; omega
      refine ⟨.ref l3, rfl, .inl ⟨rfl, _, SqL.of ej0⟩, _, rfl, _, rfl, _, rfl, f, _, _, _, rfl, rfl, SqL.of (sj0 _ _ ef6), f1, _, rfl, _, _, rfl, rfl, mp, _, rfl, n, f, zs, fs, kind, dd, (by rw [← edd]; rfl), sj0 _ _ en6, zl, sj0 _ _ ef6, fl, hk4, by omega, fun p2 J1 u2 e2 => ?_⟩
      refine ⟨l3, _, _, rfl, rfl, u2 _ _ ej0, small1000 (by omega), ?_⟩
      have D2 := DLs.add (sj0.trans u2) nl3' (u2 _ _ ej0) (dl_keep (.of u2) pj0) (by omega) e2
      generalize upd J1 l3 _ = J2 at D2 ⊢
      obtain ⟨sj2, _, us2, ej2, pj2, _⟩ := D2
      have lj2 : us2.length ≤ 13 := by
        have := Paired.length pj2
        rw [this, List.length_append, ← Paired.length pj0]
        show _ + 1 ≤ _
        omega
      -- gone
      have zq := z_at (zs := zs) (i := qq) (by omega)
      rw [← eqq] at zq
      refine ⟨_, rfl, _, rfl, f, _, _, _, rfl, rfl, SqL.of (sj2 _ _ ef6), f6, _, rfl, _, _, rfl, rfl, mp, n, _, _, _, rfl, rfl, SqL.of (sj2 _ _ en6), zq, ?_⟩
      refine ⟨.ref l3, rfl, .inl ⟨rfl, _, SqL.of ej2⟩, ?_⟩
      refine ⟨_, rfl, by show 2 ≤ sizeLine; decide, fun ga1 nga1 => ?_⟩
      have w1 := same_upd (o := .tup [.str "away", .str (zAt zs qq)]) nga1
      have h1 := upd_same (H := J2) (a := ga1) (o := .tup [.str "away", .str (zAt zs qq)])
      generalize upd J2 ga1 (.tup [.str "away", .str (zAt zs qq)]) = Q1 at w1 h1 ⊢
      refine ⟨_, rfl, by show 2 ≤ sizeLine; decide, fun ga2 nga2 => ?_⟩
      have w2 := same_upd (o := .tup [.str "away", .str (zAt zs qq)]) nga2
      have h2 := upd_same (H := Q1) (a := ga2) (o := .tup [.str "away", .str (zAt zs qq)])
      generalize upd Q1 ga2 (.tup [.str "away", .str (zAt zs qq)]) = Q2 at w2 h2 ⊢
      refine ⟨_, rfl, by show 2 ≤ sizeLine; decide, fun ga3 nga3 => ?_⟩
      have w3 := same_upd (o := .tup [.str "lift", .str (zAt zs qq)]) nga3
      have h3 := upd_same (H := Q2) (a := ga3) (o := .tup [.str "lift", .str (zAt zs qq)])
      generalize upd Q2 ga3 (.tup [.str "lift", .str (zAt zs qq)]) = Q3 at w3 h3 ⊢
      refine ⟨_, rfl, by show 2 ≤ sizeLine; decide, fun ga4 nga4 => ?_⟩
      have w4 := same_upd (o := .tup [.str "cut", .str (zAt zs qq)]) nga4
      have h4 := upd_same (H := Q3) (a := ga4) (o := .tup [.str "cut", .str (zAt zs qq)])
      generalize upd Q3 ga4 (.tup [.str "cut", .str (zAt zs qq)]) = Q4 at w4 h4 ⊢
      refine ⟨by show 4 ≤ sizeLine; decide, fun gl ngl => ?_⟩
      have w5 := same_upd (o := .lst [.ref ga1, .ref ga2, .ref ga3, .ref ga4]) ngl
      have h5 := upd_same (H := Q4) (a := gl) (o := .lst [.ref ga1, .ref ga2, .ref ga3, .ref ga4])
      generalize upd Q4 gl (.lst [.ref ga1, .ref ga2, .ref ga3, .ref ga4]) = Q5 at w5 h5 ⊢
      obtain ⟨gp, atg, egp⟩ : ∃ gp, atI ([.ref ga1, .ref ga2, .ref ga3, .ref ga4] : List V) ((kind : Nat) : Int) = some (.ref gp) ∧ Q5 gp = some (.tup (.str (dW (goneD (zAt zs) kind qq)) :: dR (goneD (zAt zs) kind qq))) := by
        match kind, hk4 with
        | 0, _ => exact ⟨ga1, atI_nat (j := 0) rfl, w5 _ _ (w4 _ _ (w3 _ _ (w2 _ _ h1)))⟩
        | 1, _ => exact ⟨ga2, atI_nat (j := 1) rfl, w5 _ _ (w4 _ _ (w3 _ _ h2))⟩
        | 2, _ => exact ⟨ga3, atI_nat (j := 2) rfl, w5 _ _ (w4 _ _ h3)⟩
        | 3, _ => exact ⟨ga4, atI_nat (j := 3) rfl, w5 _ _ h4⟩
      have w15 := w1.trans (w2.trans (w3.trans (w4.trans w5)))
      refine ⟨_, rfl, gl, _, _, _, rfl, rfl, SqL.of h5, atg, l3, _, _, rfl, rfl, w15 _ _ ej2, small1000 (by omega), ?_⟩
      have D3 := DLs.add (sj2.trans w15) nl3' (w15 _ _ ej2) (dl_keep (.of w15) pj2) (by omega) egp
      generalize upd Q5 l3 _ = J3 at D3 ⊢
      obtain ⟨sj3, _, us3, ej3, pj3, _⟩ := D3
      have lj3 : us3.length ≤ 14 := by
        have := Paired.length pj3
        rw [this, List.length_append, ← Paired.length pj2]
        show _ + 1 ≤ _
        omega
      clear h1 h2 h3 h4 h5 w1 w2 w3 w4 w5 atg egp
      -- two more
      refine ⟨_, rfl, _, rfl, _, rfl, _, rfl, _, rfl, n, f, zs, fs, kind, most kind, rfl, sj3 _ _ en6, zl, sj3 _ _ ef6, fl, hk4, by omega, fun p3 J4 u3 e3 => ?_⟩
      have sj4 := sj3.trans u3
      refine ⟨_, rfl, _, rfl, _, rfl, _, _, rfl, rfl, _, rfl, n, f, zs, fs, kind, most kind + 1, rfl, sj4 _ _ en6, zl, sj4 _ _ ef6, fl, hk4, by omega, fun p4 J5 u4 e4 => ?_⟩
      refine ⟨by show 2 ≤ sizeLine; decide, fun l4 nl4 => ?_⟩
      have x1 := same_upd (o := .lst [.ref p3, .ref p4]) nl4
      have y1 := upd_same (H := J5) (a := l4) (o := .lst [.ref p3, .ref p4])
      generalize upd J5 l4 (.lst [.ref p3, .ref p4]) = J6 at x1 y1 ⊢
      have x36 := u3.trans (u4.trans x1)
      refine ⟨l3, l4, us3, _, rfl, rfl, x36 _ _ ej3, y1, sm (by show us3.length + 2 ≤ _; omega), fun l5 nl5 => ?_⟩
      have sj6 := sj3.trans x36
      have nl5' : H6 l5 = none := sj6.free nl5
      have x2 := same_upd (o := .lst (us3 ++ [.ref p3, .ref p4])) nl5
      have y2 := upd_same (H := J6) (a := l5) (o := .lst (us3 ++ [.ref p3, .ref p4]))
      have pr5 := paired_app (dl_keep (.of (x36.trans x2)) pj3) (.cons (show DR _ (.ref p3) (flD zs fs kind (most kind)) from ⟨p3, rfl, x2 _ _ (x1 _ _ (u4 _ _ e3))⟩) (.cons (show DR _ (.ref p4) (flD zs fs kind (most kind + 1)) from ⟨p4, rfl, x2 _ _ (x1 _ _ e4)⟩) .nil))
      have l5n : (us3 ++ ([.ref p3, .ref p4] : List V)).length ≤ 16 := by rw [List.length_append]; show _ + 2 ≤ _; omega
      generalize upd J6 l5 (.lst (us3 ++ [.ref p3, .ref p4])) = J7 at x2 y2 pr5 ⊢
      generalize us3 ++ ([.ref p3, .ref p4] : List V) = us5 at y2 pr5 l5n
      have sj7 := sj6.trans x2
      refine ⟨_, rfl, _, _, rfl, rfl, _, rfl, ite2 (fun lt => ?_) (fun ge => ?_)⟩
      · have lt : ((kind : Nat) : Int) < 2 := of_decide_eq_true lt
        refine ⟨.ref l5, rfl, .inl ⟨rfl, _, SqL.of y2⟩, ?_⟩
        refine ⟨_, rfl, _, rfl, _, rfl, _, _, rfl, rfl, _, rfl, n, f, zs, fs, kind, most kind + 1, rfl, sj7 _ _ en6, zl, sj7 _ _ ef6, fl, hk4, by omega, fun p5 J8 u8 e8 => ?_⟩
        clear hat fn1 fn2 ct1 ct2 efin e1 g1 g2 g3 g4 g5
        obtain rfl | rfl : kind = 0 ∨ kind = 1 := by omega
        · have e8 : J8 p5 = some (.tup (.str (dW (fillD (zAt zs) (fAt fs 7 % 10) (fun k => fAt fs (9 + k) % 91) (1 + fAt fs 8) 0 (most 0 + 1))) :: dR (fillD (zAt zs) (fAt fs 7 % 10) (fun k => fAt fs (9 + k) % 91) (1 + fAt fs 8) 0 (most 0 + 1)))) := e8
          refine ⟨3, rfl, p5, _, rfl, SqT.of e8, (by rintro ⟨_, x⟩; revert x; exact show ¬ ((3 : Nat) = 5) by decide), fun c1 nc1 => ?_⟩
          rw [show cutV (.str (dW (fillD (zAt zs) (fAt fs 7 % 10) (fun k => fAt fs (9 + k) % 91) (1 + fAt fs 8) 0 (most 0 + 1))) :: dR (fillD (zAt zs) (fAt fs 7 % 10) (fun k => fAt fs (9 + k) % 91) (1 + fAt fs 8) 0 (most 0 + 1))) none (some 3) = [.str "trestle", .str (zAt zs (most 0 + 1)), .int 2] from rfl]
          have a1 := same_upd (o := .tup [.str "trestle", .str (zAt zs (most 0 + 1)), .int 2]) nc1
          have b1 := upd_same (H := J8) (a := c1) (o := .tup [.str "trestle", .str (zAt zs (most 0 + 1)), .int 2])
          generalize upd J8 c1 (.tup [.str "trestle", .str (zAt zs (most 0 + 1)), .int 2]) = R1 at a1 b1 ⊢
          refine ⟨by show 2 ≤ sizeLine; decide, fun c2 nc2 => ?_⟩
          have a2 := same_upd (o := .tup [.int 1, .int 3]) nc2
          have b2 := upd_same (H := R1) (a := c2) (o := .tup [.int 1, .int 3])
          generalize upd R1 c2 (.tup [.int 1, .int 3]) = R2 at a2 b2 ⊢
          refine ⟨c1, c2, _, _, rfl, rfl, SqT.of (a2 _ _ b1), SqT.of b2, (fun x => nomatch x), by show 3 + 2 ≤ sizeLine; decide, (fun x => nomatch x), fun _ c3 nc3 => ?_⟩
          have a3 := same_upd (o := .tup ([.str "trestle", .str (zAt zs (most 0 + 1)), .int 2] ++ [.int 1, .int 3])) nc3
          have b3 := upd_same (H := R2) (a := c3) (o := .tup ([.str "trestle", .str (zAt zs (most 0 + 1)), .int 2] ++ [.int 1, .int 3]))
          generalize upd R2 c3 (.tup ([.str "trestle", .str (zAt zs (most 0 + 1)), .int 2] ++ [.int 1, .int 3])) = R3 at a3 b3 ⊢
          refine ⟨by show 1 ≤ sizeLine; decide, fun c4 nc4 => ?_⟩
          have a4 := same_upd (o := .tup [.int 5]) nc4
          have b4 := upd_same (H := R3) (a := c4) (o := .tup [.int 5])
          generalize upd R3 c4 (.tup [.int 5]) = R4 at a4 b4 ⊢
          refine ⟨_, rfl, c4, _, rfl, SqT.of b4, (fun x => nomatch x), .inr ⟨rfl, fun c5 nc5 => ?_⟩⟩
          have a5 := same_upd (o := .tup []) nc5
          have b5 := upd_same (H := R4) (a := c5) (o := .tup [])
          generalize upd R4 c5 (.tup []) = R5 at a5 b5 ⊢
          refine ⟨c3, c5, _, [], rfl, rfl, SqT.of (a5 _ _ (a4 _ _ b3)), SqT.of b5, (fun x => nomatch x), by show 5 + 0 ≤ sizeLine; decide, fun _ => ?_, fun x => absurd rfl x⟩
          have a15 := u8.trans (a1.trans (a2.trans (a3.trans (a4.trans a5))))
          refine ⟨l5, _, _, rfl, rfl, a15 _ _ y2, small1000 (by omega), ?_⟩
          have D5 := DLs.add (d := .tre (zAt zs (most 0 + 1)) 2 1 3) (sj7.trans a15) nl5' (a15 _ _ y2) (dl_keep (.of a15) pr5) (by omega) (a5 _ _ (a4 _ _ b3))
          generalize upd R5 l5 _ = J9 at D5 ⊢
          obtain ⟨sj9, _, us9, ej9, pj9, _⟩ := D5
          have pj9 : Paired (DR J9) us9 (allD (zAt zs) (fAt fs 7 % 10) (fun k => fAt fs (9 + k) % 91) (1 + fAt fs 8) 0 dd qq) := by
            have x := pj9
            simp only [List.append_assoc] at x
            exact x
          clear pr5 y2
          refine ⟨_, rfl, l5, rfl, ⟨_, SqL.of ej9⟩, ?_⟩
          refine for_list (K := K) (a := l5) (xs := us9) (fun i σ Hx => ∃ (M' : MA) (y10 : Option V), σ = [some (.ref a), some (.ref f), some (.ref n), some (.ref B.y), some (.ref M'.m), some (.int ((0 : Nat) : Int)), some (.int ((most 0 : Nat) : Int)), some (.ref l5), some (.ref p1'), some (.str (zAt zs qq)), y10, none] ∧ Hx l5 = some (.lst us9) ∧ Paired (DR Hx) us9 (allD (zAt zs) (fAt fs 7 % 10) (fun k => fAt fs (9 + k) % 91) (1 + fAt fs 8) 0 dd qq) ∧ IsY C B Hx (((allD (zAt zs) (fAt fs 7 % 10) (fun k => fAt fs (9 + k) % 91) (1 + fAt fs 8) 0 dd qq).take i).foldl nextY y0) ∧ IsM M' Hx (((allD (zAt zs) (fAt fs 7 % 10) (fun k => fAt fs (9 + k) % 91) (1 + fAt fs 8) 0 dd qq).take i).foldl nextY y0) ∧ Sep B M' ∧ Std (((allD (zAt zs) (fAt fs 7 % 10) (fun k => fAt fs (9 + k) % 91) (1 + fAt fs 8) 0 dd qq).take i).foldl nextY y0))
            ⟨M, _, rfl, ej9, pj9, (hy.keep s6).keep sj9, hm.keep sj9, sep_new hy nw, std0⟩ (fun i σ Hx _ p => ?_) (fun i x σ Hx hx p => ?_) (fun σ Hx p => ?_)
          · obtain ⟨_, _, _, z, _⟩ := p
            exact SqL.of z
          · obtain ⟨M', y10, rfl, eL, pL, hy', hm', sp, st⟩ := p
            obtain ⟨d, hd, p', rfl, ep'⟩ := paired_at pL i x hx
            have nx : ((allD (zAt zs) (fAt fs 7 % 10) (fun k => fAt fs (9 + k) % 91) (1 + fAt fs 8) 0 dd qq).take (i + 1)).foldl nextY y0 = nextY (((allD (zAt zs) (fAt fs 7 % 10) (fun k => fAt fs (9 + k) % 91) (1 + fAt fs 8) 0 dd qq).take i).foldl nextY y0) d := by
              rw [List.take_add_one, hd, List.foldl_append]
              rfl
            have dok := deeds_ok hZ (kind := 0) (d := dd) (q := qq) (by omega) (by omega) d (List.mem_of_getElem? hd)
            rw [nx]
            generalize ((allD (zAt zs) (fAt fs 7 % 10) (fun k => fAt fs (9 + k) % 91) (1 + fAt fs 8) 0 dd qq).take i).foldl nextY y0 = Yi at hy' hm' st ⊢
            refine ⟨_, rfl, _, rfl, _, rfl, B, M', Yi, p', d, rfl, hy', hm', sp, st, ep', dok, fun M2 H9 fr hy2 hm2 sp2 => ?_⟩
            refine ⟨_, rfl, rfl, _, rfl, iteF ?_⟩
            refine ⟨_, rfl, _, rfl, B, M2, nextY Yi d, rfl, hy2, hm2, fun Hz sz => ⟨_, rfl, iteF ?_⟩⟩
            exact ⟨M2, _, rfl, sz _ _ (fr.list hy' eL), dl_keep (fr.ts.trans (.of sz)) pL, hy2.keep sz, hm2.keep sz, sp2, next_std st⟩
          · obtain ⟨M', y10, rfl, eL, pL, hy', hm', sp, st⟩ := p
            obtain ⟨I, lI, eI⟩ := run_all hZ (kind := 0) hdd hqq
            rw [Paired.length pL, List.take_length, eI] at hm'
            obtain ⟨ws, tbl, kvs, atk, hv, ht, hl⟩ : ∃ (ws : Str) (tbl : Addr) (kvs : List (Key × V)), atI ([.str "trestles", .str "boards", .str "sacks", .str "cords"] : List V) ((0 : Nat) : Int) = some (.str ws) ∧ valV (kvM M') (Sum.inr ws) = some (.ref tbl) ∧ Hx tbl = some (.dK kvs) ∧ kvs.length = most 0 := by
              have fin := tab_of hm' (by omega : 0 < 4)
              rw [lI] at fin
              exact fin
            refine ⟨_, rfl, by show 4 ≤ sizeLine; decide, fun t nt => ?_⟩
            have st' := same_upd (o := .lst [.str "trestles", .str "boards", .str "sacks", .str "cords"]) nt
            have et' := upd_same (H := Hx) (a := t) (o := .lst [.str "trestles", .str "boards", .str "sacks", .str "cords"])
            generalize upd Hx t (.lst [.str "trestles", .str "boards", .str "sacks", .str "cords"]) = Hy at st' et' ⊢
            refine ⟨_, rfl, t, _, _, _, rfl, rfl, SqL.of et', atk, M'.m, _, rfl, dget (st' _ _ hm'.ob) hv, tbl, kvs, rfl, st' _ _ ht, _, rfl, rfl, ?_⟩
            rw [hl, decide_eq_true rfl]
            exact q _
        · have e8 : J8 p5 = some (.tup (.str (dW (fillD (zAt zs) (fAt fs 7 % 10) (fun k => fAt fs (9 + k) % 91) (1 + fAt fs 8) 1 (most 1 + 1))) :: dR (fillD (zAt zs) (fAt fs 7 % 10) (fun k => fAt fs (9 + k) % 91) (1 + fAt fs 8) 1 (most 1 + 1)))) := e8
          refine ⟨3, rfl, p5, _, rfl, SqT.of e8, (by rintro ⟨_, x⟩; revert x; exact show ¬ ((3 : Nat) = 6) by decide), fun c1 nc1 => ?_⟩
          rw [show cutV (.str (dW (fillD (zAt zs) (fAt fs 7 % 10) (fun k => fAt fs (9 + k) % 91) (1 + fAt fs 8) 1 (most 1 + 1))) :: dR (fillD (zAt zs) (fAt fs 7 % 10) (fun k => fAt fs (9 + k) % 91) (1 + fAt fs 8) 1 (most 1 + 1))) none (some 3) = [.str "board", .str (zAt zs (most 1 + 1)), .int 2] from rfl]
          have a1 := same_upd (o := .tup [.str "board", .str (zAt zs (most 1 + 1)), .int 2]) nc1
          have b1 := upd_same (H := J8) (a := c1) (o := .tup [.str "board", .str (zAt zs (most 1 + 1)), .int 2])
          generalize upd J8 c1 (.tup [.str "board", .str (zAt zs (most 1 + 1)), .int 2]) = R1 at a1 b1 ⊢
          refine ⟨by show 2 ≤ sizeLine; decide, fun c2 nc2 => ?_⟩
          have a2 := same_upd (o := .tup [.int 1, .int 3]) nc2
          have b2 := upd_same (H := R1) (a := c2) (o := .tup [.int 1, .int 3])
          generalize upd R1 c2 (.tup [.int 1, .int 3]) = R2 at a2 b2 ⊢
          refine ⟨c1, c2, _, _, rfl, rfl, SqT.of (a2 _ _ b1), SqT.of b2, (fun x => nomatch x), by show 3 + 2 ≤ sizeLine; decide, (fun x => nomatch x), fun _ c3 nc3 => ?_⟩
          have a3 := same_upd (o := .tup ([.str "board", .str (zAt zs (most 1 + 1)), .int 2] ++ [.int 1, .int 3])) nc3
          have b3 := upd_same (H := R2) (a := c3) (o := .tup ([.str "board", .str (zAt zs (most 1 + 1)), .int 2] ++ [.int 1, .int 3]))
          generalize upd R2 c3 (.tup ([.str "board", .str (zAt zs (most 1 + 1)), .int 2] ++ [.int 1, .int 3])) = R3 at a3 b3 ⊢
          refine ⟨by show 1 ≤ sizeLine; decide, fun c4 nc4 => ?_⟩
          have a4 := same_upd (o := .tup [.int 5]) nc4
          have b4 := upd_same (H := R3) (a := c4) (o := .tup [.int 5])
          generalize upd R3 c4 (.tup [.int 5]) = R4 at a4 b4 ⊢
          refine ⟨_, rfl, c4, _, rfl, SqT.of b4, (fun x => nomatch x), .inl ⟨rfl, ?_⟩⟩
          refine ⟨c3, c4, _, _, rfl, rfl, SqT.of (a4 _ _ b3), SqT.of b4, (fun x => nomatch x), by show 5 + 1 ≤ sizeLine; decide, (fun x => nomatch x), fun _ c6 nc6 => ?_⟩
          have a5 := same_upd (o := .tup ([.str "board", .str (zAt zs (most 1 + 1)), .int 2] ++ [.int 1, .int 3] ++ [.int 5])) nc6
          have b5 := upd_same (H := R4) (a := c6) (o := .tup ([.str "board", .str (zAt zs (most 1 + 1)), .int 2] ++ [.int 1, .int 3] ++ [.int 5]))
          generalize upd R4 c6 (.tup ([.str "board", .str (zAt zs (most 1 + 1)), .int 2] ++ [.int 1, .int 3] ++ [.int 5])) = R5 at a5 b5 ⊢
          have a15 := u8.trans (a1.trans (a2.trans (a3.trans (a4.trans a5))))
          refine ⟨l5, _, _, rfl, rfl, a15 _ _ y2, small1000 (by omega), ?_⟩
          have D5 := DLs.add (d := .boa (zAt zs (most 1 + 1)) 2 1 3 5) (sj7.trans a15) nl5' (a15 _ _ y2) (dl_keep (.of a15) pr5) (by omega) b5
          generalize upd R5 l5 _ = J9 at D5 ⊢
          obtain ⟨sj9, _, us9, ej9, pj9, _⟩ := D5
          have pj9 : Paired (DR J9) us9 (allD (zAt zs) (fAt fs 7 % 10) (fun k => fAt fs (9 + k) % 91) (1 + fAt fs 8) 1 dd qq) := by
            have x := pj9
            simp only [List.append_assoc] at x
            exact x
          clear pr5 y2
          refine ⟨_, rfl, l5, rfl, ⟨_, SqL.of ej9⟩, ?_⟩
          refine for_list (K := K) (a := l5) (xs := us9) (fun i σ Hx => ∃ (M' : MA) (y10 : Option V), σ = [some (.ref a), some (.ref f), some (.ref n), some (.ref B.y), some (.ref M'.m), some (.int ((1 : Nat) : Int)), some (.int ((most 1 : Nat) : Int)), some (.ref l5), some (.ref p1'), some (.str (zAt zs qq)), y10, none] ∧ Hx l5 = some (.lst us9) ∧ Paired (DR Hx) us9 (allD (zAt zs) (fAt fs 7 % 10) (fun k => fAt fs (9 + k) % 91) (1 + fAt fs 8) 1 dd qq) ∧ IsY C B Hx (((allD (zAt zs) (fAt fs 7 % 10) (fun k => fAt fs (9 + k) % 91) (1 + fAt fs 8) 1 dd qq).take i).foldl nextY y0) ∧ IsM M' Hx (((allD (zAt zs) (fAt fs 7 % 10) (fun k => fAt fs (9 + k) % 91) (1 + fAt fs 8) 1 dd qq).take i).foldl nextY y0) ∧ Sep B M' ∧ Std (((allD (zAt zs) (fAt fs 7 % 10) (fun k => fAt fs (9 + k) % 91) (1 + fAt fs 8) 1 dd qq).take i).foldl nextY y0))
            ⟨M, _, rfl, ej9, pj9, (hy.keep s6).keep sj9, hm.keep sj9, sep_new hy nw, std0⟩ (fun i σ Hx _ p => ?_) (fun i x σ Hx hx p => ?_) (fun σ Hx p => ?_)
          · obtain ⟨_, _, _, z, _⟩ := p
            exact SqL.of z
          · obtain ⟨M', y10, rfl, eL, pL, hy', hm', sp, st⟩ := p
            obtain ⟨d, hd, p', rfl, ep'⟩ := paired_at pL i x hx
            have nx : ((allD (zAt zs) (fAt fs 7 % 10) (fun k => fAt fs (9 + k) % 91) (1 + fAt fs 8) 1 dd qq).take (i + 1)).foldl nextY y0 = nextY (((allD (zAt zs) (fAt fs 7 % 10) (fun k => fAt fs (9 + k) % 91) (1 + fAt fs 8) 1 dd qq).take i).foldl nextY y0) d := by
              rw [List.take_add_one, hd, List.foldl_append]
              rfl
            have dok := deeds_ok hZ (kind := 1) (d := dd) (q := qq) (by omega) (by omega) d (List.mem_of_getElem? hd)
            rw [nx]
            generalize ((allD (zAt zs) (fAt fs 7 % 10) (fun k => fAt fs (9 + k) % 91) (1 + fAt fs 8) 1 dd qq).take i).foldl nextY y0 = Yi at hy' hm' st ⊢
            refine ⟨_, rfl, _, rfl, _, rfl, B, M', Yi, p', d, rfl, hy', hm', sp, st, ep', dok, fun M2 H9 fr hy2 hm2 sp2 => ?_⟩
            refine ⟨_, rfl, rfl, _, rfl, iteF ?_⟩
            refine ⟨_, rfl, _, rfl, B, M2, nextY Yi d, rfl, hy2, hm2, fun Hz sz => ⟨_, rfl, iteF ?_⟩⟩
            exact ⟨M2, _, rfl, sz _ _ (fr.list hy' eL), dl_keep (fr.ts.trans (.of sz)) pL, hy2.keep sz, hm2.keep sz, sp2, next_std st⟩
          · obtain ⟨M', y10, rfl, eL, pL, hy', hm', sp, st⟩ := p
            obtain ⟨I, lI, eI⟩ := run_all hZ (kind := 1) hdd hqq
            rw [Paired.length pL, List.take_length, eI] at hm'
            obtain ⟨ws, tbl, kvs, atk, hv, ht, hl⟩ : ∃ (ws : Str) (tbl : Addr) (kvs : List (Key × V)), atI ([.str "trestles", .str "boards", .str "sacks", .str "cords"] : List V) ((1 : Nat) : Int) = some (.str ws) ∧ valV (kvM M') (Sum.inr ws) = some (.ref tbl) ∧ Hx tbl = some (.dK kvs) ∧ kvs.length = most 1 := by
              have fin := tab_of hm' (by omega : 1 < 4)
              rw [lI] at fin
              exact fin
            refine ⟨_, rfl, by show 4 ≤ sizeLine; decide, fun t nt => ?_⟩
            have st' := same_upd (o := .lst [.str "trestles", .str "boards", .str "sacks", .str "cords"]) nt
            have et' := upd_same (H := Hx) (a := t) (o := .lst [.str "trestles", .str "boards", .str "sacks", .str "cords"])
            generalize upd Hx t (.lst [.str "trestles", .str "boards", .str "sacks", .str "cords"]) = Hy at st' et' ⊢
            refine ⟨_, rfl, t, _, _, _, rfl, rfl, SqL.of et', atk, M'.m, _, rfl, dget (st' _ _ hm'.ob) hv, tbl, kvs, rfl, st' _ _ ht, _, rfl, rfl, ?_⟩
            rw [hl, decide_eq_true rfl]
            exact q _
      · have ge : ¬ (((kind : Nat) : Int) < 2) := fun x => ge (decide_eq_true x)
        have pj9 : Paired (DR J7) us5 (allD (zAt zs) (fAt fs 7 % 10) (fun k => fAt fs (9 + k) % 91) (1 + fAt fs 8) kind dd qq) := by
          have x := pr5
          simp only [List.append_assoc] at x
          have el : lastD (zAt zs) kind (most kind + 1) = [] := by unfold lastD; split <;> first | (exfalso; omega) | rfl
          unfold allD
          rw [el, List.append_nil]
          exact x
        refine ⟨_, rfl, l5, rfl, ⟨_, SqL.of y2⟩, ?_⟩
        refine for_list (K := K) (a := l5) (xs := us5) (fun i σ Hx => ∃ (M' : MA) (y10 : Option V), σ = [some (.ref a), some (.ref f), some (.ref n), some (.ref B.y), some (.ref M'.m), some (.int ((kind : Nat) : Int)), some (.int ((most kind : Nat) : Int)), some (.ref l5), some (.ref p1'), some (.str (zAt zs qq)), y10, none] ∧ Hx l5 = some (.lst us5) ∧ Paired (DR Hx) us5 (allD (zAt zs) (fAt fs 7 % 10) (fun k => fAt fs (9 + k) % 91) (1 + fAt fs 8) kind dd qq) ∧ IsY C B Hx (((allD (zAt zs) (fAt fs 7 % 10) (fun k => fAt fs (9 + k) % 91) (1 + fAt fs 8) kind dd qq).take i).foldl nextY y0) ∧ IsM M' Hx (((allD (zAt zs) (fAt fs 7 % 10) (fun k => fAt fs (9 + k) % 91) (1 + fAt fs 8) kind dd qq).take i).foldl nextY y0) ∧ Sep B M' ∧ Std (((allD (zAt zs) (fAt fs 7 % 10) (fun k => fAt fs (9 + k) % 91) (1 + fAt fs 8) kind dd qq).take i).foldl nextY y0))
          ⟨M, _, rfl, y2, pj9, (hy.keep s6).keep sj7, hm.keep sj7, sep_new hy nw, std0⟩ (fun i σ Hx _ p => ?_) (fun i x σ Hx hx p => ?_) (fun σ Hx p => ?_)
        · obtain ⟨_, _, _, z, _⟩ := p
          exact SqL.of z
        · obtain ⟨M', y10, rfl, eL, pL, hy', hm', sp, st⟩ := p
          obtain ⟨d, hd, p', rfl, ep'⟩ := paired_at pL i x hx
          have nx : ((allD (zAt zs) (fAt fs 7 % 10) (fun k => fAt fs (9 + k) % 91) (1 + fAt fs 8) kind dd qq).take (i + 1)).foldl nextY y0 = nextY (((allD (zAt zs) (fAt fs 7 % 10) (fun k => fAt fs (9 + k) % 91) (1 + fAt fs 8) kind dd qq).take i).foldl nextY y0) d := by
            rw [List.take_add_one, hd, List.foldl_append]
            rfl
          have dok := deeds_ok hZ (kind := kind) (d := dd) (q := qq) (by omega) (by omega) d (List.mem_of_getElem? hd)
          rw [nx]
          generalize ((allD (zAt zs) (fAt fs 7 % 10) (fun k => fAt fs (9 + k) % 91) (1 + fAt fs 8) kind dd qq).take i).foldl nextY y0 = Yi at hy' hm' st ⊢
          refine ⟨_, rfl, _, rfl, _, rfl, B, M', Yi, p', d, rfl, hy', hm', sp, st, ep', dok, fun M2 H9 fr hy2 hm2 sp2 => ?_⟩
          refine ⟨_, rfl, rfl, _, rfl, iteF ?_⟩
          refine ⟨_, rfl, _, rfl, B, M2, nextY Yi d, rfl, hy2, hm2, fun Hz sz => ⟨_, rfl, iteF ?_⟩⟩
          exact ⟨M2, _, rfl, sz _ _ (fr.list hy' eL), dl_keep (fr.ts.trans (.of sz)) pL, hy2.keep sz, hm2.keep sz, sp2, next_std st⟩
        · obtain ⟨M', y10, rfl, eL, pL, hy', hm', sp, st⟩ := p
          obtain ⟨I, lI, eI⟩ := run_all hZ (kind := kind) hdd hqq
          rw [Paired.length pL, List.take_length, eI] at hm'
          obtain ⟨ws, tbl, kvs, atk, hv, ht, hl⟩ : ∃ (ws : Str) (tbl : Addr) (kvs : List (Key × V)), atI ([.str "trestles", .str "boards", .str "sacks", .str "cords"] : List V) ((kind : Nat) : Int) = some (.str ws) ∧ valV (kvM M') (Sum.inr ws) = some (.ref tbl) ∧ Hx tbl = some (.dK kvs) ∧ kvs.length = most kind := by
            have fin := tab_of hm' (by omega : kind < 4)
            rw [lI] at fin
            exact fin
          refine ⟨_, rfl, by show 4 ≤ sizeLine; decide, fun t nt => ?_⟩
          have st' := same_upd (o := .lst [.str "trestles", .str "boards", .str "sacks", .str "cords"]) nt
          have et' := upd_same (H := Hx) (a := t) (o := .lst [.str "trestles", .str "boards", .str "sacks", .str "cords"])
          generalize upd Hx t (.lst [.str "trestles", .str "boards", .str "sacks", .str "cords"]) = Hy at st' et' ⊢
          refine ⟨_, rfl, t, _, _, _, rfl, rfl, SqL.of et', atk, M'.m, _, rfl, dget (st' _ _ hm'.ob) hv, tbl, kvs, rfl, st' _ _ ht, _, rfl, rfl, ?_⟩
          rw [hl, decide_eq_true rfl]
          exact q _
end
end DY
set_option maxHeartbeats 0
namespace DY
open PySem PySem.Spec PyProof.Rows L2
section
variable {w : World} {K : PySem.W.Frag} {mg : Str → Option Value} {h : Heap} {fa : List He.Fa} {fn : List He.DefD}
theorem fun_of {x q : Str} {st : Stmt} {f : Addr} {fd : FuncData} (F : FunD K x q (defArgs st) (defBody st) (defScope st) [] [] f fd) : Fun K x q st f fd := by
  obtain ⟨oc, od, dV, kV, doc, pm, an, cdv, ct, osl, rfl, lk, hcd, hD, _⟩ := F.ex
  rcases hD with ⟨_, rfl⟩ | ⟨e, _⟩
  · exact ⟨⟨oc, od, kV, doc, pm, an, cdv, ct, osl, rfl, lk, hcd⟩, F.kp⟩
  · exact absurd rfl e
theorem def_of (X : K.In h) (G : h.Ns mainGlobals mg) (c : He.SaysD fa fn K) (i j : Nat) (x : Str) (st : Stmt) (ps : List Str) (hi : fn[i]? = some (HD.gd x st)) (hj : fa[j]? = some (.glo x))
    (hb : ∀ (kV doc pm : Value) (an : Option Addr) (cdv ct : Value) (us : List Value), us.length = ps.length → bindArgs (PySem.W.fnOf x x (defArgs st) (defBody st) (defScope st) .none kV doc pm an cdv ct) ⟨us, []⟩ = pure (ps.zip us)) : ∃ D : DefF K mg x st ps, D.a = He.ga K x := by
  obtain ⟨fd, F⟩ := c.def_ i hi
  have F' : FunD K x x (defArgs st) (defBody st) (defScope st) [] [] (He.ga K x) fd := F
  exact ⟨⟨_, fd, fun_of F', He.glo_ok X G (c.fact j hj), F'.bindsN hb⟩, rfl⟩
theorem err_of (X : K.In h) (G : h.Ns mainGlobals mg) (c : He.SaysD fa fn K) (j k : Nat) (x : Str) (hj : fa[j]? = some (.glo x)) (hk : fa[k]? = some (.exc x)) : ∃ E : ErrF K mg x, E.a = He.ga K x := by
  obtain ⟨e1, e2, e3, e4⟩ := He.exc_ok (c.fact k hk)
  exact ⟨⟨_, He.glo_ok X G (c.fact j hj), e1, e2, e3, e4⟩, rfl⟩
theorem mth_of (c : He.SaysD fa fn K) (i j : Nat) (m q : Str) (st : Stmt) (ps : List Str) (hi : fn[i]? = some (HD.md "Yard" m q st)) (hj : fa[j]? = some (.meth "Yard" m))
    (hb : ∀ (kV doc pm : Value) (an : Option Addr) (cdv ct : Value) (us : List Value), us.length = ps.length → bindArgs (PySem.W.fnOf m q (defArgs st) (defBody st) (defScope st) .none kV doc pm an cdv ct) ⟨us, []⟩ = pure (ps.zip us)) : Nonempty (MthF K (He.ga K "Yard") m q st ps) := by
  obtain ⟨fd, F⟩ := c.def_ i hi
  have F' : FunD K m q (defArgs st) (defBody st) (defScope st) [] [] (He.ma K (He.ga K "Yard") m) fd := F
  exact ⟨⟨_, fd, fun_of F', He.meth_ok (c.fact j hj), F'.bindsN hb⟩⟩
end
theorem erS_mem (e : Er) : erS e ∈ HD.errs := by cases e <;> decide
theorem erS_dec (e c : Er) : decide (erS e = erS c) = decide (e = c) := by cases e <;> cases c <;> decide
theorem facts {P : Program} {w : World} {K : PySem.W.Frag} {h : Heap} {mg : Str → Option Value} {f : Addr} (X : K.In h) (G : h.Ns mainGlobals mg) (hfa : mg ("law" : Str) = some (.ref f)) (c : He.SaysX HD.fa HD.fn HD.ts [] HD.ex w h K) :
    ∃ fd : FuncData, (∀ (s : Shared) (v : Value), BindsTo s fd ⟨[v], []⟩ [("_law_script", v)]) ∧ ∀ base : Heap, K.In base → base.Ns mainGlobals mg → FnOk P w K mg base CX0 8 f fd ["_law_script"] (spLaw K) := by
  have cd : He.SaysD HD.fa HD.fn K := c.t.d
  obtain ⟨D_is_number, a_is_number⟩ := def_of X G cd 2 3 "is_number" s_is_number ["value"] rfl rfl (fun _ _ _ _ _ _ us hl => match us, hl with | [_], _ => rfl)
  obtain ⟨D_is_place, a_is_place⟩ := def_of X G cd 3 4 "is_place" s_is_place ["value"] rfl rfl (fun _ _ _ _ _ _ us hl => match us, hl with | [_], _ => rfl)
  obtain ⟨D_is_course, a_is_course⟩ := def_of X G cd 4 5 "is_course" s_is_course ["value"] rfl rfl (fun _ _ _ _ _ _ us hl => match us, hl with | [_], _ => rfl)
  obtain ⟨D_is_weight, a_is_weight⟩ := def_of X G cd 5 6 "is_weight" s_is_weight ["value"] rfl rfl (fun _ _ _ _ _ _ us hl => match us, hl with | [_], _ => rfl)
  obtain ⟨D_is_name, a_is_name⟩ := def_of X G cd 1 2 "is_name" s_is_name ["text"] rfl rfl (fun _ _ _ _ _ _ us hl => match us, hl with | [_], _ => rfl)
  obtain ⟨D_check_course, a_check_course⟩ := def_of X G cd 7 8 "check_course" s_check_course ["course"] rfl rfl (fun _ _ _ _ _ _ us hl => match us, hl with | [_], _ => rfl)
  obtain ⟨D_check_places, a_check_places⟩ := def_of X G cd 8 9 "check_places" s_check_places ["left", "right"] rfl rfl (fun _ _ _ _ _ _ us hl => match us, hl with | [_, _], _ => rfl)
  obtain ⟨D_check_weight, a_check_weight⟩ := def_of X G cd 9 10 "check_weight" s_check_weight ["weight"] rfl rfl (fun _ _ _ _ _ _ us hl => match us, hl with | [_], _ => rfl)
  obtain ⟨D_check_count, a_check_count⟩ := def_of X G cd 10 11 "check_count" s_check_count ["rows", "most"] rfl rfl (fun _ _ _ _ _ _ us hl => match us, hl with | [_, _], _ => rfl)
  obtain ⟨D_check_new_name, a_check_new_name⟩ := def_of X G cd 6 7 "check_new_name" s_check_new_name ["yard", "name"] rfl rfl (fun _ _ _ _ _ _ us hl => match us, hl with | [_, _], _ => rfl)
  obtain ⟨D_check_room, a_check_room⟩ := def_of X G cd 11 12 "check_room" s_check_room ["yard", "name", "course", "left", "right"] rfl rfl (fun _ _ _ _ _ _ us hl => match us, hl with | [_, _, _, _, _], _ => rfl)
  obtain ⟨D_set_trestle, a_set_trestle⟩ := def_of X G cd 19 20 "set_trestle" s_set_trestle ["yard", "name", "course", "left", "right"] rfl rfl (fun _ _ _ _ _ _ us hl => match us, hl with | [_, _, _, _, _], _ => rfl)
  obtain ⟨D_lay_board, a_lay_board⟩ := def_of X G cd 20 21 "lay_board" s_lay_board ["yard", "name", "course", "left", "right", "weight"] rfl rfl (fun _ _ _ _ _ _ us hl => match us, hl with | [_, _, _, _, _, _], _ => rfl)
  obtain ⟨D_rows_by_names, a_rows_by_names⟩ := def_of X G cd 29 30 "rows_by_names" s_rows_by_names ["rows"] rfl rfl (fun _ _ _ _ _ _ us hl => match us, hl with | [_], _ => rfl)
  obtain ⟨D_check_form, a_check_form⟩ := def_of X G cd 0 1 "check_form" s_check_form ["deed"] rfl rfl (fun _ _ _ _ _ _ us hl => match us, hl with | [_], _ => rfl)
  obtain ⟨D_check_on_board, a_check_on_board⟩ := def_of X G cd 12 13 "check_on_board" s_check_on_board ["row", "place"] rfl rfl (fun _ _ _ _ _ _ us hl => match us, hl with | [_, _], _ => rfl)
  obtain ⟨D_board_row, a_board_row⟩ := def_of X G cd 13 14 "board_row" s_board_row ["yard", "name"] rfl rfl (fun _ _ _ _ _ _ us hl => match us, hl with | [_, _], _ => rfl)
  obtain ⟨D_board_or_trestle_row, a_board_or_trestle_row⟩ := def_of X G cd 14 15 "board_or_trestle_row" s_board_or_trestle_row ["yard", "name"] rfl rfl (fun _ _ _ _ _ _ us hl => match us, hl with | [_, _], _ => rfl)
  obtain ⟨D_sack_row, a_sack_row⟩ := def_of X G cd 15 16 "sack_row" s_sack_row ["yard", "name"] rfl rfl (fun _ _ _ _ _ _ us hl => match us, hl with | [_, _], _ => rfl)
  obtain ⟨D_cord_row, a_cord_row⟩ := def_of X G cd 16 17 "cord_row" s_cord_row ["yard", "name"] rfl rfl (fun _ _ _ _ _ _ us hl => match us, hl with | [_, _], _ => rfl)
  obtain ⟨D_check_no_cord, a_check_no_cord⟩ := def_of X G cd 17 18 "check_no_cord" s_check_no_cord ["yard", "name"] rfl rfl (fun _ _ _ _ _ _ us hl => match us, hl with | [_, _], _ => rfl)
  obtain ⟨D_check_no_sack, a_check_no_sack⟩ := def_of X G cd 18 19 "check_no_sack" s_check_no_sack ["yard", "name"] rfl rfl (fun _ _ _ _ _ _ us hl => match us, hl with | [_, _], _ => rfl)
  obtain ⟨D_take_away, a_take_away⟩ := def_of X G cd 21 22 "take_away" s_take_away ["yard", "name"] rfl rfl (fun _ _ _ _ _ _ us hl => match us, hl with | [_, _], _ => rfl)
  obtain ⟨D_shift_sacks, a_shift_sacks⟩ := def_of X G cd 23 24 "shift_sacks" s_shift_sacks ["yard", "board", "by"] rfl rfl (fun _ _ _ _ _ _ us hl => match us, hl with | [_, _, _], _ => rfl)
  obtain ⟨D_shift_along, a_shift_along⟩ := def_of X G cd 22 23 "shift_along" s_shift_along ["yard", "name", "by"] rfl rfl (fun _ _ _ _ _ _ us hl => match us, hl with | [_, _, _], _ => rfl)
  obtain ⟨D_set_sack, a_set_sack⟩ := def_of X G cd 24 25 "set_sack" s_set_sack ["yard", "name", "board", "place", "weight"] rfl rfl (fun _ _ _ _ _ _ us hl => match us, hl with | [_, _, _, _, _], _ => rfl)
  obtain ⟨D_move_sack, a_move_sack⟩ := def_of X G cd 25 26 "move_sack" s_move_sack ["yard", "name", "board", "place"] rfl rfl (fun _ _ _ _ _ _ us hl => match us, hl with | [_, _, _, _], _ => rfl)
  obtain ⟨D_lift_sack, a_lift_sack⟩ := def_of X G cd 26 27 "lift_sack" s_lift_sack ["yard", "name"] rfl rfl (fun _ _ _ _ _ _ us hl => match us, hl with | [_, _], _ => rfl)
  obtain ⟨D_tie_cord, a_tie_cord⟩ := def_of X G cd 27 28 "tie_cord" s_tie_cord ["yard", "name", "upper", "lower", "place"] rfl rfl (fun _ _ _ _ _ _ us hl => match us, hl with | [_, _, _, _, _], _ => rfl)
  obtain ⟨D_cut_cord, a_cut_cord⟩ := def_of X G cd 28 29 "cut_cord" s_cut_cord ["yard", "name"] rfl rfl (fun _ _ _ _ _ _ us hl => match us, hl with | [_, _], _ => rfl)
  obtain ⟨D__law_feed, a__law_feed⟩ := def_of X G cd 30 31 "_law_feed" s__law_feed ["_law_script", "_law_many"] rfl rfl (fun _ _ _ _ _ _ us hl => match us, hl with | [_, _], _ => rfl)
  obtain ⟨D__law_same, a__law_same⟩ := def_of X G cd 31 32 "_law_same" s__law_same ["_law_found", "_law_due"] rfl rfl (fun _ _ _ _ _ _ us hl => match us, hl with | [_, _], _ => rfl)
  obtain ⟨D__law_names, a__law_names⟩ := def_of X G cd 32 33 "_law_names" s__law_names ["_law_d", "_law_many"] rfl rfl (fun _ _ _ _ _ _ us hl => match us, hl with | [_, _], _ => rfl)
  obtain ⟨D__law_is_name, a__law_is_name⟩ := def_of X G cd 33 34 "_law_is_name" s__law_is_name ["_law_text"] rfl rfl (fun _ _ _ _ _ _ us hl => match us, hl with | [_], _ => rfl)
  obtain ⟨D__law_model, a__law_model⟩ := def_of X G cd 34 35 "_law_model" s__law_model [] rfl rfl (fun _ _ _ _ _ _ us hl => match us, hl with | [], _ => rfl)
  obtain ⟨D__law_thing, a__law_thing⟩ := def_of X G cd 35 36 "_law_thing" s__law_thing ["_law_m", "_law_name"] rfl rfl (fun _ _ _ _ _ _ us hl => match us, hl with | [_, _], _ => rfl)
  obtain ⟨D__law_crowds, a__law_crowds⟩ := def_of X G cd 36 37 "_law_crowds" s__law_crowds ["_law_m", "_law_name", "_law_course", "_law_left", "_law_right"] rfl rfl (fun _ _ _ _ _ _ us hl => match us, hl with | [_, _, _, _, _], _ => rfl)
  obtain ⟨D__law_first, a__law_first⟩ := def_of X G cd 37 38 "_law_first" s__law_first ["_law_pairs"] rfl rfl (fun _ _ _ _ _ _ us hl => match us, hl with | [_], _ => rfl)
  obtain ⟨D__law_new_fault, a__law_new_fault⟩ := def_of X G cd 38 39 "_law_new_fault" s__law_new_fault ["_law_m", "_law_deed", "_law_most"] rfl rfl (fun _ _ _ _ _ _ us hl => match us, hl with | [_, _, _], _ => rfl)
  obtain ⟨D__law_lay_fault, a__law_lay_fault⟩ := def_of X G cd 39 40 "_law_lay_fault" s__law_lay_fault ["_law_m", "_law_deed"] rfl rfl (fun _ _ _ _ _ _ us hl => match us, hl with | [_, _], _ => rfl)
  obtain ⟨D__law_corded, a__law_corded⟩ := def_of X G cd 40 41 "_law_corded" s__law_corded ["_law_m", "_law_name"] rfl rfl (fun _ _ _ _ _ _ us hl => match us, hl with | [_, _], _ => rfl)
  obtain ⟨D__law_shift_fault, a__law_shift_fault⟩ := def_of X G cd 41 42 "_law_shift_fault" s__law_shift_fault ["_law_m", "_law_deed"] rfl rfl (fun _ _ _ _ _ _ us hl => match us, hl with | [_, _], _ => rfl)
  obtain ⟨D__law_off, a__law_off⟩ := def_of X G cd 42 43 "_law_off" s__law_off ["_law_m", "_law_board", "_law_place"] rfl rfl (fun _ _ _ _ _ _ us hl => match us, hl with | [_, _, _], _ => rfl)
  obtain ⟨D__law_sack_fault, a__law_sack_fault⟩ := def_of X G cd 43 44 "_law_sack_fault" s__law_sack_fault ["_law_m", "_law_deed"] rfl rfl (fun _ _ _ _ _ _ us hl => match us, hl with | [_, _], _ => rfl)
  obtain ⟨D__law_cord_fault, a__law_cord_fault⟩ := def_of X G cd 44 45 "_law_cord_fault" s__law_cord_fault ["_law_m", "_law_deed"] rfl rfl (fun _ _ _ _ _ _ us hl => match us, hl with | [_, _], _ => rfl)
  obtain ⟨D__law_fault, a__law_fault⟩ := def_of X G cd 45 46 "_law_fault" s__law_fault ["_law_m", "_law_deed"] rfl rfl (fun _ _ _ _ _ _ us hl => match us, hl with | [_, _], _ => rfl)
  obtain ⟨D__law_step, a__law_step⟩ := def_of X G cd 46 47 "_law_step" s__law_step ["_law_m", "_law_deed"] rfl rfl (fun _ _ _ _ _ _ us hl => match us, hl with | [_, _], _ => rfl)
  obtain ⟨D__law_rows, a__law_rows⟩ := def_of X G cd 47 48 "_law_rows" s__law_rows ["_law_kept"] rfl rfl (fun _ _ _ _ _ _ us hl => match us, hl with | [_], _ => rfl)
  obtain ⟨D__law_yard_is, a__law_yard_is⟩ := def_of X G cd 48 49 "_law_yard_is" s__law_yard_is ["_law_yard", "_law_m"] rfl rfl (fun _ _ _ _ _ _ us hl => match us, hl with | [_, _], _ => rfl)
  obtain ⟨D__law_do, a__law_do⟩ := def_of X G cd 49 50 "_law_do" s__law_do ["_law_yard", "_law_deed"] rfl rfl (fun _ _ _ _ _ _ us hl => match us, hl with | [_, _], _ => rfl)
  obtain ⟨D__law_kin, a__law_kin⟩ := def_of X G cd 50 51 "_law_kin" s__law_kin ["_law_e"] rfl rfl (fun _ _ _ _ _ _ us hl => match us, hl with | [_], _ => rfl)
  obtain ⟨D__law_filling, a__law_filling⟩ := def_of X G cd 52 53 "_law_filling" s__law_filling ["_law_kind", "_law_names_here", "_law_k", "_law_feed_here"] rfl rfl (fun _ _ _ _ _ _ us hl => match us, hl with | [_, _, _, _], _ => rfl)
  obtain ⟨D__law_turn, a__law_turn⟩ := def_of X G cd 51 52 "_law_turn" s__law_turn ["_law_yard", "_law_m", "_law_deed"] rfl rfl (fun _ _ _ _ _ _ us hl => match us, hl with | [_, _, _], _ => rfl)
  obtain ⟨E_BadName, a_BadName⟩ := err_of X G cd 56 100 "BadName" rfl rfl
  obtain ⟨E_Taken, a_Taken⟩ := err_of X G cd 57 101 "Taken" rfl rfl
  obtain ⟨E_BadCourse, a_BadCourse⟩ := err_of X G cd 58 102 "BadCourse" rfl rfl
  obtain ⟨E_BadPlace, a_BadPlace⟩ := err_of X G cd 59 103 "BadPlace" rfl rfl
  obtain ⟨E_BadWeight, a_BadWeight⟩ := err_of X G cd 60 104 "BadWeight" rfl rfl
  obtain ⟨E_Full, a_Full⟩ := err_of X G cd 61 105 "Full" rfl rfl
  obtain ⟨E_Crowded, a_Crowded⟩ := err_of X G cd 62 106 "Crowded" rfl rfl
  obtain ⟨E_NoThing, a_NoThing⟩ := err_of X G cd 63 107 "NoThing" rfl rfl
  obtain ⟨E_InUse, a_InUse⟩ := err_of X G cd 64 108 "InUse" rfl rfl
  obtain ⟨E_NoSack, a_NoSack⟩ := err_of X G cd 65 109 "NoSack" rfl rfl
  obtain ⟨E_NoCord, a_NoCord⟩ := err_of X G cd 66 110 "NoCord" rfl rfl
  obtain ⟨E_BadCord, a_BadCord⟩ := err_of X G cd 67 111 "BadCord" rfl rfl
  obtain ⟨E_BadDeed, a_BadDeed⟩ := err_of X G cd 68 112 "BadDeed" rfl rfl
  obtain ⟨M_do⟩ := mth_of cd 55 133 "do" "Yard.do" s_Yard_do ["self", "deed"] rfl rfl (fun _ _ _ _ _ _ us hl => match us, hl with | [_, _], _ => rfl)
  obtain ⟨M_boards⟩ := mth_of cd 56 134 "boards" "Yard.boards" s_Yard_boards ["self"] rfl rfl (fun _ _ _ _ _ _ us hl => match us, hl with | [_], _ => rfl)
  obtain ⟨M_trestles⟩ := mth_of cd 57 135 "trestles" "Yard.trestles" s_Yard_trestles ["self"] rfl rfl (fun _ _ _ _ _ _ us hl => match us, hl with | [_], _ => rfl)
  obtain ⟨M_sacks⟩ := mth_of cd 58 136 "sacks" "Yard.sacks" s_Yard_sacks ["self"] rfl rfl (fun _ _ _ _ _ _ us hl => match us, hl with | [_], _ => rfl)
  obtain ⟨M_cords⟩ := mth_of cd 59 137 "cords" "Yard.cords" s_Yard_cords ["self"] rfl rfl (fun _ _ _ _ _ _ us hl => match us, hl with | [_], _ => rfl)
  obtain ⟨fdI, FI0⟩ := cd.def_ 54 (d := HD.md "Yard" "__init__" "Yard.__init__" s_Yard___init__) rfl
  have FI : FunD K "__init__" "Yard.__init__" (defArgs s_Yard___init__) (defBody s_Yard___init__) (defScope s_Yard___init__) [] [] (He.ma K (He.ga K "Yard") "__init__") fdI := FI0
  have bI : Binds K fdI ["self"] [] := FI.bindsN fun _ _ _ _ _ _ us hl => match us, hl with | [_], _ => rfl
  obtain ⟨fd, F0⟩ := cd.def_ 53 (d := HD.gd "law" s_law) rfl
  have FL : FunD K "law" "law" (defArgs s_law) (defBody s_law) (defScope s_law) [] [] (He.ga K "law") fd := F0
  have gL : mg "law" = some (.ref (He.ga K "law")) := He.glo_ok X G (cd.fact 54 (f := .glo "law") rfl)
  have e := hfa.symm.trans gL
  cases e
  have bA := FunD.bindsA (ps := ["_law_script"]) FL fun _ _ _ _ _ _ us hl => match us, hl with | [_], _ => rfl
  obtain ⟨m12, mT⟩ := He.ba c.more
  obtain ⟨m1, m2⟩ := He.ba m12
  obtain ⟨mC, mA⟩ := He.ba m1
  have kC : ∃ es n, KDict K w (He.ga K "DEED_THINGS") es n := c.t.tab 0 (t := (fun K => He.ga K "DEED_THINGS", ["trestle", "board", "away", "along", "sack", "move", "lift", "cord", "cut"])) rfl
  have kA : ∃ es n, KDict K w (He.ga K "ACTIONS") es n := c.t.tab 1 (t := (fun K => He.ga K "ACTIONS", ["trestle", "board", "away", "along", "sack", "move", "lift", "cord", "cut"])) rfl
  have vC : ∀ q ∈ counts, ∃ (u : Value) (t : Addr) (xs : List V), PySem.W.nsIn K (He.ga K "DEED_THINGS") q.1 = some (some u) ∧ RelV (.ref t) u ∧ (1 : Int) + ((xs.length : Nat) : Int) = q.2 ∧ ∀ H : Hp, SqT K H t xs := fun q hq => by
    have go : ∀ (z : Str) (m : Int), ∀ p ∈ ([("trestle", [.str "name", .str "number", .str "number", .str "number"]), ("board", [.str "name", .str "number", .str "number", .str "number", .str "number"]), ("away", [.str "name"]), ("along", [.str "name", .str "number"]), ("sack", [.str "name", .str "name", .str "number", .str "number"]), ("move", [.str "name", .str "name", .str "number"]), ("lift", [.str "name"]), ("cord", [.str "name", .str "upper", .str "name", .str "number"]), ("cut", [.str "name"])] : List (Str × List He.Dv)), p.1 = z → (1 : Int) + ((p.2.length : Nat) : Int) = m → ∃ (u : Value) (t : Addr) (xs : List V), PySem.W.nsIn K (He.ga K "DEED_THINGS") z = some (some u) ∧ RelV (.ref t) u ∧ (1 : Int) + ((xs.length : Nat) : Int) = m ∧ ∀ H : Hp, SqT K H t xs := fun z m p hp e1 e2 => by
      obtain ⟨u, t, xs, a1, a2, a3, a4⟩ := HD.tabB_ok mC hp
      exact ⟨u, t, xs, e1 ▸ a1, a2, by rw [a3]; exact e2, a4⟩
    simp only [counts, List.mem_cons, List.not_mem_nil, or_false] at hq
    rcases hq with rfl | rfl | rfl | rfl | rfl | rfl | rfl | rfl | rfl
    · exact go _ _ _ (List.mem_of_getElem? (i := 0) rfl) rfl rfl
    · exact go _ _ _ (List.mem_of_getElem? (i := 1) rfl) rfl rfl
    · exact go _ _ _ (List.mem_of_getElem? (i := 2) rfl) rfl rfl
    · exact go _ _ _ (List.mem_of_getElem? (i := 3) rfl) rfl rfl
    · exact go _ _ _ (List.mem_of_getElem? (i := 4) rfl) rfl rfl
    · exact go _ _ _ (List.mem_of_getElem? (i := 5) rfl) rfl rfl
    · exact go _ _ _ (List.mem_of_getElem? (i := 6) rfl) rfl rfl
    · exact go _ _ _ (List.mem_of_getElem? (i := 7) rfl) rfl rfl
    · exact go _ _ _ (List.mem_of_getElem? (i := 8) rfl) rfl rfl
  have vA : ∀ (z x : Str), (z, He.Dv.glo x) ∈ ([("trestle", .glo "set_trestle"), ("board", .glo "lay_board"), ("away", .glo "take_away"), ("along", .glo "shift_along"), ("sack", .glo "set_sack"), ("move", .glo "move_sack"), ("lift", .glo "lift_sack"), ("cord", .glo "tie_cord"), ("cut", .glo "cut_cord")] : List (Str × He.Dv)) → ∃ u, PySem.W.nsIn K (He.ga K "ACTIONS") z = some (some u) ∧ RelV (.ref (He.ga K x)) u := fun z x hq => He.valsB_ok mA (q := (z, .glo x)) hq
  obtain ⟨T, hCY, hec⟩ : ∃ T : T4 w K mg, T.CY = He.ga K "Yard" ∧ ∀ e, ec T.toT1 e = He.ga K (erS e) := by
    refine ⟨{
      n_isinstance := He.free_ok X G (cd.fact 79 (f := .free "isinstance") rfl), n_int := He.free_ok X G (cd.fact 78 (f := .free "int") rfl), n_bool := He.free_ok X G (cd.fact 76 (f := .free "bool") rfl), n_len := He.free_ok X G (cd.fact 80 (f := .free "len") rfl), n_all := He.free_ok X G (cd.fact 74 (f := .free "all") rfl),
      c_FARTHEST_PLACE := He.int_ok X G (cd.fact 90 (f := .int "FARTHEST_PLACE" 1000000) rfl), c_HIGHEST_COURSE := He.int_ok X G (cd.fact 91 (f := .int "HIGHEST_COURSE" 9) rfl), c_GREATEST_WEIGHT := He.int_ok X G (cd.fact 92 (f := .int "GREATEST_WEIGHT" 1000000000) rfl), c_LONGEST_NAME := He.int_ok X G (cd.fact 89 (f := .int "LONGEST_NAME" 8) rfl), c_LETTERS := He.str_ok X G (cd.fact 97 (f := .str "LETTERS" "abcdefghijklmnopqrstuvwxyz") rfl),
      d_is_number := D_is_number, d_is_place := D_is_place, d_is_course := D_is_course, d_is_weight := D_is_weight, d_is_name := D_is_name, d_check_course := D_check_course, d_check_places := D_check_places, d_check_weight := D_check_weight, d_check_count := D_check_count,
      x_BadCourse := E_BadCourse, x_BadPlace := E_BadPlace, x_BadWeight := E_BadWeight, x_Full := E_Full,
      n_list := He.free_ok X G (cd.fact 81 (f := .free "list") rfl), n_max := He.free_ok X G (cd.fact 82 (f := .free "max") rfl), n_min := He.free_ok X G (cd.fact 83 (f := .free "min") rfl), n_sorted := He.free_ok X G (cd.fact 85 (f := .free "sorted") rfl),
      x_BadName := E_BadName, x_Taken := E_Taken, x_Crowded := E_Crowded, x_NoThing := E_NoThing, x_InUse := E_InUse, x_NoSack := E_NoSack, x_NoCord := E_NoCord, x_BadCord := E_BadCord, x_BadDeed := E_BadDeed,
      CY := He.ga K "Yard", cl := He.cls_ok (cd.fact 127 (f := .cls "Yard") rfl), nb := He.noat_ok (cd.fact 129 (f := .noat "Yard" "board_rows") rfl), nt := He.noat_ok (cd.fact 130 (f := .noat "Yard" "trestle_rows") rfl), ns := He.noat_ok (cd.fact 131 (f := .noat "Yard" "sack_rows") rfl), nc := He.noat_ok (cd.fact 132 (f := .noat "Yard" "cord_rows") rfl),
      d_check_new_name := D_check_new_name, d_check_room := D_check_room,
      c_MOST_TRESTLES := He.int_ok X G (cd.fact 94 (f := .int "MOST_TRESTLES" 6) rfl), c_MOST_BOARDS := He.int_ok X G (cd.fact 93 (f := .int "MOST_BOARDS" 6) rfl),
      d_set_trestle := D_set_trestle, d_lay_board := D_lay_board, d_rows_by_names := D_rows_by_names,
      d_check_on_board := D_check_on_board, d_board_row := D_board_row, d_board_or_trestle_row := D_board_or_trestle_row, d_sack_row := D_sack_row, d_cord_row := D_cord_row, d_check_no_cord := D_check_no_cord, d_check_no_sack := D_check_no_sack,
      d_take_away := D_take_away, d_shift_sacks := D_shift_sacks, d_shift_along := D_shift_along, d_set_sack := D_set_sack, d_move_sack := D_move_sack, d_lift_sack := D_lift_sack, d_tie_cord := D_tie_cord, d_cut_cord := D_cut_cord,
      c_MOST_SACKS := He.int_ok X G (cd.fact 95 (f := .int "MOST_SACKS" 8) rfl), c_MOST_CORDS := He.int_ok X G (cd.fact 96 (f := .int "MOST_CORDS" 4) rfl), c_BEAM := He.str_ok X G (cd.fact 98 (f := .str "BEAM" "") rfl), aBR := He.ga K "BEAM_ROW", c_BEAM_ROW := He.glo_ok X G (cd.fact 72 (f := .glo "BEAM_ROW") rfl), sBR := fun H => He.tupB_ok mT H,
      aC := He.ga K "DEED_THINGS", aA := He.ga K "ACTIONS", c_DEED_THINGS := He.glo_ok X G (cd.fact 70 (f := .glo "DEED_THINGS") rfl), c_ACTIONS := He.glo_ok X G (cd.fact 71 (f := .glo "ACTIONS") rfl), kC := kC, kA := kA, vC := vC,
      aT := by rw [a_set_trestle]; exact vA "trestle" "set_trestle" (by simp),
      aB := by rw [a_lay_board]; exact vA "board" "lay_board" (by simp),
      aAw := by rw [a_take_away]; exact vA "away" "take_away" (by simp),
      aAl := by rw [a_shift_along]; exact vA "along" "shift_along" (by simp),
      aSa := by rw [a_set_sack]; exact vA "sack" "set_sack" (by simp),
      aMo := by rw [a_move_sack]; exact vA "move" "move_sack" (by simp),
      aLi := by rw [a_lift_sack]; exact vA "lift" "lift_sack" (by simp),
      aCo := by rw [a_tie_cord]; exact vA "cord" "tie_cord" (by simp),
      aCu := by rw [a_cut_cord]; exact vA "cut" "cut_cord" (by simp),
      d_check_form := D_check_form, i_Yard := He.ma K (He.ga K "Yard") "__init__", id_Yard := fdI, iF_Yard := fun_of FI, ib_Yard := bI, mk_Yard := He.mkr_ok (cd.fact 128 (f := .mkr "Yard") rfl), g_Yard := He.glo_ok X G (cd.fact 69 (f := .glo "Yard") rfl),
      d_Yard_do := M_do, d_Yard_boards := M_boards, d_Yard_trestles := M_trestles, d_Yard_sacks := M_sacks, d_Yard_cords := M_cords }, rfl, fun e => ?_⟩
    cases e <;> assumption
  have L1' : L1 K mg := {
      n_len := He.free_ok X G (cd.fact 80 (f := .free "len") rfl), n_all := He.free_ok X G (cd.fact 74 (f := .free "all") rfl), n_any := He.free_ok X G (cd.fact 75 (f := .free "any") rfl), n_list := He.free_ok X G (cd.fact 81 (f := .free "list") rfl), n_max := He.free_ok X G (cd.fact 82 (f := .free "max") rfl), n_min := He.free_ok X G (cd.fact 83 (f := .free "min") rfl), n_int := He.free_ok X G (cd.fact 78 (f := .free "int") rfl),
      d__law_is_name := D__law_is_name, d__law_model := D__law_model, d__law_thing := D__law_thing, d__law_crowds := D__law_crowds, d__law_first := D__law_first, d__law_new_fault := D__law_new_fault, d__law_lay_fault := D__law_lay_fault, d__law_corded := D__law_corded, d__law_shift_fault := D__law_shift_fault, d__law_off := D__law_off, d__law_sack_fault := D__law_sack_fault, d__law_cord_fault := D__law_cord_fault,
      n_dict := He.free_ok X G (cd.fact 77 (f := .free "dict") rfl), n_sorted := He.free_ok X G (cd.fact 85 (f := .free "sorted") rfl), d__law_fault := D__law_fault, d__law_step := D__law_step, d__law_rows := D__law_rows }
  have ST : SameTxt mg := ⟨He.free_ok X G (cd.fact 79 (f := .free "isinstance") rfl), He.free_ok X G (cd.fact 76 (f := .free "bool") rfl), He.free_ok X G (cd.fact 81 (f := .free "list") rfl), He.free_ok X G (cd.fact 87 (f := .free "tuple") rfl), He.free_ok X G (cd.fact 80 (f := .free "len") rfl), He.free_ok X G (cd.fact 74 (f := .free "all") rfl), He.free_ok X G (cd.fact 88 (f := .free "zip") rfl), He.free_ok X G (cd.fact 86 (f := .free "str") rfl), He.free_ok X G (cd.fact 78 (f := .free "int") rfl)⟩
  obtain ⟨LY, hLY⟩ : ∃ LY : L2T w K mg, LY.tx = T := ⟨{ toL1 := L1', tx := T, cl := T.cl, d_Yard_trestles := T.d_Yard_trestles, d_Yard_boards := T.d_Yard_boards, d_Yard_sacks := T.d_Yard_sacks, d_Yard_cords := T.d_Yard_cords, eqT := rfl, eqB := rfl, eqS := rfl, eqC := rfl, sT := ST, d__law_same := D__law_same, d__law_yard_is := D__law_yard_is }, rfl⟩
  have all2 := fun e => List.all_eq_true.mp m2 (erS e) (erS_mem e)
  have exm : ∀ e : Er, PySem.W.exmOne K (.ref (He.ga K (erS e))) (.ref (He.ga K "YardError")) = some true := fun e => by
    cases e
    · exact He.exm_ok (cd.fact 114 (f := .exm "BadName" "YardError" true) rfl)
    · exact He.exm_ok (cd.fact 115 (f := .exm "Taken" "YardError" true) rfl)
    · exact He.exm_ok (cd.fact 116 (f := .exm "BadCourse" "YardError" true) rfl)
    · exact He.exm_ok (cd.fact 117 (f := .exm "BadPlace" "YardError" true) rfl)
    · exact He.exm_ok (cd.fact 118 (f := .exm "BadWeight" "YardError" true) rfl)
    · exact He.exm_ok (cd.fact 119 (f := .exm "Full" "YardError" true) rfl)
    · exact He.exm_ok (cd.fact 120 (f := .exm "Crowded" "YardError" true) rfl)
    · exact He.exm_ok (cd.fact 121 (f := .exm "NoThing" "YardError" true) rfl)
    · exact He.exm_ok (cd.fact 122 (f := .exm "InUse" "YardError" true) rfl)
    · exact He.exm_ok (cd.fact 123 (f := .exm "NoSack" "YardError" true) rfl)
    · exact He.exm_ok (cd.fact 124 (f := .exm "NoCord" "YardError" true) rfl)
    · exact He.exm_ok (cd.fact 125 (f := .exm "BadCord" "YardError" true) rfl)
    · exact He.exm_ok (cd.fact 126 (f := .exm "BadDeed" "YardError" true) rfl)
  have LT : LTurn T := {
      n_zip := He.free_ok X G (cd.fact 88 (f := .free "zip") rfl), n_ValueError := He.free_ok X G (cd.fact 73 (f := .free "ValueError") rfl),
      exc := fun e => by
        obtain ⟨_, b2⟩ := He.ba (all2 e)
        obtain ⟨b3, _⟩ := He.ba b2
        obtain ⟨c1, c2⟩ := He.ba b3
        obtain ⟨c2, c3⟩ := He.ba c2
        obtain ⟨c3, c4⟩ := He.ba c3
        obtain ⟨c4, c5⟩ := He.ba c4
        obtain ⟨c5, c6⟩ := He.ba c5
        obtain ⟨c6, c7⟩ := He.ba c6
        rw [hec]
        refine ⟨He.eqO_ok c1, He.eqO_ok c2, ?_, c3, He.eqO_ok c4, He.eqO_ok c5, of_decide_eq_true c6, of_decide_eq_true c7⟩
        rw [← hec]
        cases e
        · exact T.x_BadName.b
        · exact T.x_Taken.b
        · exact T.x_BadCourse.b
        · exact T.x_BadPlace.b
        · exact T.x_BadWeight.b
        · exact T.x_Full.b
        · exact T.x_Crowded.b
        · exact T.x_NoThing.b
        · exact T.x_InUse.b
        · exact T.x_NoSack.b
        · exact T.x_NoCord.b
        · exact T.x_BadCord.b
        · exact T.x_BadDeed.b,
      kit := fun e c => by
        obtain ⟨_, b2⟩ := He.ba (all2 e)
        obtain ⟨_, b4⟩ := He.ba b2
        have z := of_decide_eq_true (List.all_eq_true.mp b4 (erS c) (erS_mem c))
        rw [hec, hec, z, erS_dec],
      kitV := fun e => by
        obtain ⟨b1, _⟩ := He.ba (all2 e)
        rw [hec]
        exact of_decide_eq_true b1,
      d__law_kin := D__law_kin, n_int := He.free_ok X G (cd.fact 78 (f := .free "int") rfl), cE := He.ga K "YardError", g_YardError := He.glo_ok X G (cd.fact 55 (f := .glo "YardError") rfl),
      exm := fun e => by rw [hec]; exact exm e,
      d__law_do := D__law_do, l1 := L1', d__law_fault := L1'.d__law_fault, d__law_step := L1'.d__law_step, eF := rfl, eS := rfl, d__law_turn := D__law_turn }
  have NF : LF K mg := { n_len := He.free_ok X G (cd.fact 80 (f := .free "len") rfl), n_range := He.free_ok X G (cd.fact 84 (f := .free "range") rfl), n_isinstance := He.free_ok X G (cd.fact 79 (f := .free "isinstance") rfl), n_str := He.free_ok X G (cd.fact 86 (f := .free "str") rfl), d__law_names := D__law_names, d__law_filling := D__law_filling }
  refine ⟨fd, fun s v => bA s [v] rfl, fun base _ _ => ?_⟩
  have GY := ok_yard_is (P := P) (base := base) LY
  rw [hLY] at GY
  exact ok_law (P := P) (w := w) (base := base) (C := T.CY) (fI := T.i_Yard) (fdI := T.id_Yard)
    { n_int := He.free_ok X G (cd.fact 78 (f := .free "int") rfl), n_len := He.free_ok X G (cd.fact 80 (f := .free "len") rfl), n_range := He.free_ok X G (cd.fact 84 (f := .free "range") rfl), d__law_feed := D__law_feed, d__law_names := NF.d__law_names, d__law_model := L1'.d__law_model, d__law_filling := NF.d__law_filling, d__law_turn := LT.d__law_turn, d__law_yard_is := LY.d__law_yard_is,
      d_law := ⟨He.ga K "law", fd, fun_of FL, gL, FL.bindsN fun _ _ _ _ _ _ us hl => match us, hl with | [_], _ => rfl⟩ }
    T.mk_Yard (ok_init T) T.g_Yard T.ib_Yard (ok_feed D__law_feed.F (He.free_ok X G (cd.fact 84 (f := .free "range") rfl)) (He.free_ok X G (cd.fact 80 (f := .free "len") rfl))) (ok_names NF.toLN) (ok_model L1'.toL0) (ok_filling NF) (ok_turn LT) GY
end DY
open PySem PySem.W PySem.Calls PyProof.Rows
set_option maxHeartbeats 0 in
theorem PySem.Challenge.cw_dunnage_k08_yards_that_are_full_holds : PySem.Challenge.rw_dunnage_k08_yards_that_are_full.Holds := by
  w_on; o_law
  refine HX.by_left (r := OpenLaw.row PySem.Challenge.rw_dunnage_k08_yards_that_are_full) (q := view (OpenLaw.row PySem.Challenge.rw_dunnage_k08_yards_that_are_full).prog [86]) (H := HD.hk) (loose := HD.loose) (d := HandSHeadRun.topDef (OpenLaw.row PySem.Challenge.rw_dunnage_k08_yards_that_are_full).prog 86) HD.left
    (by kernel_rfl) (by kernel_rfl) (by kernel_rfl) (by rfl) (by first | assumption | decide +kernel) (by decide +kernel) ⟨rfl, rfl, rfl, rfl, rfl, by decide +kernel⟩ ?hw ?hc
  case hw => w_witness2
  case hc =>
    refine L2.walk_ofE (l := PySem.Challenge.rw_dunnage_k08_yards_that_are_full) (n := 63) (k := 8) (x := "_law_script") (CX := L2.CX0) rfl (by decide) (by kernel_rfl) ⟨rfl, by decide, by decide⟩ ?F (fun _ _ _ _ z => z)
    intro w mg fa h Y G hmg0
    obtain ⟨K, KX, c⟩ := Y
    have hmg : mg ("law" : PySem.Str) = some (.ref fa) := by
      have e : (HandSHeadRun.topDef (OpenLaw.row PySem.Challenge.rw_dunnage_k08_yards_that_are_full).prog 86).name = ("law" : PySem.Str) := by kernel_rfl
      rw [← e]
      exact hmg0
    obtain ⟨fd, hb, hF⟩ := DY.facts (P := (PySem.Challenge.rw_dunnage_k08_yards_that_are_full).prog) (w := w) KX G hmg c
    exact ⟨K, fd, DY.spLaw K, KX, hb, fun H a ns hl _ hS => ⟨a, ns, rfl, hS, fun _ => rfl⟩, hF⟩
